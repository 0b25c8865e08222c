import PyProof.Rows.All
import Wide.All
import OpenK.AllK
import Wide.FinOn
import KE.KStateDown
import KE.KIsAll
import HandS.Words
import HandS.Head0
import HandS.Head1
import HandS.Head2
import HandS.HeadHook1
import HandS.HeadHook2
import HandS.HeadHook4
import HandS.HeadWalk
import PySem.Challenge.RW_weavestore_k19_whole_runs_woven
import HandS.ForMost
import HandS.Wide
import HandS.WideBits
import HandS.Ends
import HandS.HeadEnd
import HandS.Exc
import HandS.Defaults
import HandS.Walk
import HandS.IsInst
import HandS.Style
import HandS.Zip
import HandS.Conv
import HandS.Deep
import HandS.SortKw
import HandS.SetBool
import HandS.Strs
import PyProof.MinMaxWalk
import PyProof.WalkInts
import HandS.Lambda
import HandS.Dict
import HandS.DictComp
import HandS.Iter
import HandS.DictEq
import HandS.More
import HandS.ListItems
import PyProof.EqAt
import PyProof.EqKinds
import PyProof.TupleCall
import KE.KTryMore
import HandS.ExcInit
import HandS.ExcIs
import HandS.ExcField
import HandS.SortRule
import KE.SortKeyHeap
import KE.SortData
import PyProof.NeData
import HandS.NoneIn
set_option Elab.async false
set_option linter.all false
set_option maxRecDepth 100000
set_option maxHeartbeats 0
/-! What is read of the heap that the module's top leaves, and the run of it. -/
namespace K19
open PySem PySem.Spec PyProof.Rows L2
def top (i : Nat) : Stmt := PySem.Challenge.pw_weavestore_k19_whole_runs_woven.main.body.getD i (.Pass ⟨0, 0, 0, 0⟩)
def exB (K : PySem.W.Frag) : Bool := decide ((He.cT K ("apart_of", none)).2 ≠ (He.cT K ("_law_least", none)).2)
def dT (i : Nat) (x : Str) : He.DefD := ⟨(x, none), x, x, defArgs (top i), defBody (top i), defScope (top i), [], []⟩
def fn0 : List He.DefD := [dT 6 "is_whole_number", dT 7 "is_count", dT 8 "is_count_below", dT 9 "is_tuple_of", dT 10 "ascends", dT 12 "is_event", dT 13 "are_events", dT 14 "need_run", dT 15 "need_bare_run", dT 16 "is_wait_of", dT 17 "are_waits_of", dT 18 "need_waits", dT 19 "barriers_ahead", dT 20 "broken_waits", dT 21 "apart_of"]
def fn1 : List He.DefD := [dT 22 "ends_of", dT 24 "barriers_for", dT 25 "is_order", dT 26 "need_order", dT 27 "places_by", dT 28 "woven", dT 29 "moved_waits", dT 30 "waits_woven", dT 31 "need_two_runs", dT 32 "best_order", dT 33 "is_best_order", dT 35 "_law_purse", dT 36 "_law_mixed", dT 37 "_law_draw", dT 38 "_law_exact"]
def fn2 : List He.DefD := [dT 39 "_law_event", dT 40 "_law_run", dT 41 "_law_pairs_of", dT 42 "_law_some_waits", dT 43 "_law_orders", dT 44 "_law_taken", dT 45 "_law_placed", dT 46 "_law_least", dT 47 "_law_all_right", dT 48 "_law_great_right", dT 49 "law"]
def fn : List He.DefD := fn0 ++ (fn1 ++ (fn2))
def gn0 : List Str := ["is_whole_number", "is_count", "is_count_below", "is_tuple_of", "ascends", "is_event", "are_events", "need_run", "need_bare_run", "is_wait_of", "are_waits_of", "need_waits", "barriers_ahead", "broken_waits", "apart_of"]
def gn1 : List Str := ["ends_of", "barriers_for", "is_order", "need_order", "places_by", "woven", "moved_waits", "waits_woven", "need_two_runs", "best_order", "is_best_order", "_law_purse", "_law_mixed", "_law_draw", "_law_exact"]
def gn2 : List Str := ["_law_event", "_law_run", "_law_pairs_of", "_law_some_waits", "_law_orders", "_law_taken", "_law_placed", "_law_least", "_law_all_right", "_law_great_right", "law"]
def gn : List Str := gn0 ++ (gn1 ++ (gn2))
def fa0 : List He.Fa := gn.map He.Fa.glo
def fa1 : List He.Fa := [.free "sum", .free "int", .free "max", .free "min", .free "len", .free "range", .free "isinstance", .free "all", .free "any", .free "zip", .free "divmod", .free "reversed", .free "enumerate", .free "set", .free "list", .free "tuple", .free "dict", .free "bool", .free "str", .free "sorted"]
def fa2 : List He.Fa := []
def fa : List He.Fa := fa0 ++ (fa1 ++ fa2)
def names0 : List Str := ["StoreError", "InvalidRun", "InvalidMoment", "InvalidOrder", "is_whole_number", "is_count", "is_count_below", "is_tuple_of", "ascends", "is_event", "are_events", "need_run", "need_bare_run", "is_wait_of", "are_waits_of"]
def names1 : List Str := ["need_waits", "barriers_ahead", "broken_waits", "apart_of", "ends_of", "barriers_for", "is_order", "need_order", "places_by", "woven", "moved_waits", "waits_woven", "need_two_runs", "best_order", "is_best_order"]
def names2 : List Str := ["_law_purse", "_law_mixed", "_law_draw", "_law_exact", "_law_event", "_law_run", "_law_pairs_of", "_law_some_waits", "_law_orders", "_law_taken", "_law_placed", "_law_least", "_law_all_right", "_law_great_right"]
def names : List Str := names0 ++ (names1 ++ (names2))
abbrev R : PySem.W.OpenRow := PySem.W.OpenLaw.row PySem.Challenge.rw_weavestore_k19_whole_runs_woven
abbrev qv : Program := PySem.W.view R.prog [49]
/-- the defs that make a lambda -/
def tf : List He.Defn := [("apart_of", none), ("_law_least", none)]
def hk : PySem.W.Hook := He.hookX 4 fa fn [] tf exB
def ob (s : PySem.W.SharedT) : He.AlX := He.obsX 4 fa fn [] tf exB (HandSHeadRun.getT s)
theorem ob_eq (s : PySem.W.SharedT) : ob s = hk.obs s.abs := He.obsX_eq (HandSHeadRun.getT_eq s)
theorem run (w : World) : HandSHeadRun.RunEq R qv hk ob 20000 names w := by
  intro os
  kernel_rfl
end K19
set_option Elab.async false
set_option linter.all false
set_option maxRecDepth 100000
set_option maxHeartbeats 4000000
/-! What does not speak of a law: purses, what is left as it was, walks. -/
namespace L2
open PySem PySem.Spec PyProof.Rows
theorem Same.updf {H : Hp} {p : Addr} {o : HO} (h : H p = none) : Same H (L2.upd H p o) := fun b o' e => by
  rw [upd_ne (ne_of_none e h)]
  exact e
/-- a comprehension whose turns change nothing that stands: what it gives at each turn, if anything -/
theorem lc_sel {J : It} {n : Nat} {G : Hp → Prop} {Y : Nat → Hp → V → Hp → Prop} (w : Walk J n G Y) {g : TG} {tt : TT} {te : TE} {vs : List Nat} {σ : St} {H1 : Hp} {D : Addr} {Qd : Hp → Prop} (f : Nat → Option V) (hn : n ≤ 100000) (hD : H1 D = none)
    (hG : ∀ H, Same H1 H → G H)
    (hs : ∀ i x H H' (Qy : V → Hp → Prop) (Qn : Hp → Prop), i < n → Same H1 H → Y i H x H' → (∀ y H4, Same H H4 → f i = some y → Qy y H4) → (∀ H4, Same H H4 → f i = none → Qn H4) →
      g x (wipe σ vs) H' fun σ2 H2 => wipe σ2 vs = wipe σ vs ∧ tt σ2 H2 fun b H3 => if b = true then te σ2 H3 Qy else Qn H3)
    (hd : ∀ H, Same H1 H → H D = some (.lst ((List.range n).filterMap f)) → Qd H) :
    ∃ W : Nat → Nat → Hp → Prop, (∃ m, W 0 m (upd H1 D (.lst []))) ∧ ∀ i m H, W i m H →
      (J.stop i H ∧ Qd H) ∨ (J.go i H ∧ ∃ Nx : Hp → Prop, (∀ H', Nx H' → ∃ m', m' < m ∧ W (i + 1) m' H') ∧ ∀ x H', J.yld i H x H' → g x (wipe σ vs) H' fun σ2 H2 => wipe σ2 vs = wipe σ vs ∧ tt σ2 H2 fun b H3 =>
        if b = true then te σ2 H3 fun y H4 => ∃ acc, H4 D = some (.lst acc) ∧ acc.length < sizeLine ∧ Nx (upd H4 D (.lst (acc ++ [y]))) else Nx H3) := by
  refine lc_it w (fun i H => Same H1 H ∧ H D = some (.lst ((List.range i).filterMap f))) ⟨Same.updf hD, upd_same⟩ (fun i H _ h => hG H h.1) (fun i x H H' hi hP hy => ?_) (fun H h => hd H h.1 h.2)
  refine hs i x H H' _ _ hi hP.1 hy (fun y H4 s4 e => ?_) (fun H4 s4 e => ?_)
  · refine ⟨_, s4 _ _ hP.2, ?_, fun b o eb => ?_, ?_⟩
    · have l1 : ((List.range i).filterMap f).length ≤ i := by
        have := List.length_filterMap_le f (List.range i)
        rw [List.length_range] at this
        exact this
      have l2 : (100000 : Nat) < sizeLine := by decide
      omega
    · rw [upd_ne (ne_of_none eb hD)]
      exact s4 _ _ (hP.1 _ _ eb)
    · rw [upd_same, List.range_succ, List.filterMap_append, List.filterMap_cons, e]
      rfl
  · refine ⟨hP.1.trans s4, ?_⟩
    rw [List.range_succ, List.filterMap_append, List.filterMap_cons, e, List.filterMap_nil, List.append_nil]
    exact s4 _ _ hP.2
/-- a pair's two names: the tuple is new -/
theorem pair_st {i j : Nat} {xs ys : Nat → Option V} {t : Nat} {σ : St} {H H' : Hp} {v : V} {Q : St → Hp → Prop} (y : YPair xs ys t H v H') {K : PySem.W.Frag}
    (k : ∀ x z, xs t = some x → ys t = some z → Same H H' → ∃ T, v = .ref T ∧ SqT K H' T [x, z] ∧ Q ((σ.set i (some x)).set j (some z)) H') :
    ∃ x z T, v = .ref T ∧ SqT K H' T [x, z] ∧ Q ((σ.set i (some x)).set j (some z)) H' := by
  obtain ⟨T, x, z, h1, h2, h3, h4, h5⟩ := y
  obtain ⟨T', e1, e2, e3⟩ := k x z h4 h5 (by rw [h3]; exact Same.updf h2)
  exact ⟨x, z, T', e1, e2, e3⟩
end L2
namespace KB
open PySem PySem.Spec PyProof.Rows L2
/-- built-in names that the module leaves free -/
structure Free (mg : Str → Option Value) : Prop where
  sum : mg "sum" = none
  int : mg "int" = none
  max : mg "max" = none
  min : mg "min" = none
  len : mg "len" = none
  range : mg "range" = none
  isi : mg "isinstance" = none
  all : mg "all" = none
  any : mg "any" = none
  zip : mg "zip" = none
  divmod : mg "divmod" = none
  reversed : mg "reversed" = none
  enumerate : mg "enumerate" = none
  tset : mg "set" = none
  tlist : mg "list" = none
  ttuple : mg "tuple" = none
  tdict : mg "dict" = none
  tbool : mg "bool" = none
theorem op_powL {X : Cx} : OpR X (binaryOp .Pow) (rI (fun i n => 0 ≤ n ∧ (Builtin.Int.intBits i : Int) * n ≤ 2 ^ 27) fun i j => .int (i ^ j.toNat)) :=
  opI fun _ _ _ _ _ _ _ hc q => pow_int hc.1 hc.2 q
/-- a purse: what is left of a great number, the seed, how often it was mixed, the place -/
structure Purse (H : Hp) (p : Addr) (N : Nat) : Prop where
  at_ : ∃ A B c i : Int, H p = some (.lst [.int A, .int B, .int c, .int i]) ∧ (0 ≤ B ∧ B < 2147483648) ∧ 0 ≤ A ∧ 0 ≤ c ∧ c ≤ (N : Int)
theorem Purse.mono {H : Hp} {p : Addr} {N M : Nat} (h : Purse H p N) (l : N ≤ M) : Purse H p M := by
  obtain ⟨A, B, c, i, e, hB, h1, h2, h3⟩ := h
  exact ⟨A, B, c, i, e, hB, h1, h2, by omega⟩
theorem Purse.same {H H' : Hp} {p : Addr} {N : Nat} (k : Same H H') (h : Purse H p N) : Purse H' p N := by
  obtain ⟨A, B, c, i, e, r⟩ := h
  exact ⟨A, B, c, i, k _ _ e, r⟩
/-- all but p stands as it did -/
def But (p : Addr) (H H' : Hp) : Prop := ∀ b o, b ≠ p → H b = some o → H' b = some o
theorem But.refl (p : Addr) (H : Hp) : But p H H := fun _ _ _ e => e
theorem But.trans {p : Addr} {H H1 H2 : Hp} (a : But p H H1) (b : But p H1 H2) : But p H H2 := fun x o n e => b x o n (a x o n e)
theorem But.of {p : Addr} {H H' : Hp} (k : Same H H') : But p H H' := fun b o _ e => k b o e
theorem But.upd {p : Addr} {H : Hp} {o : HO} : But p H (L2.upd H p o) := fun b o' n e => by
  rw [upd_ne n]
  exact e
theorem Same.upd {H : Hp} {p : Addr} {o : HO} (h : H p = none) : Same H (L2.upd H p o) := fun b o' e => by
  rw [upd_ne (ne_of_none e h)]
  exact e
theorem cut_map (ns : List Int) (lo hi : Option Int) : cutV (ns.map V.int) lo hi = ((ns.drop (HT.sIx (ns.map V.int).length 0 lo)).take (HT.sIx (ns.map V.int).length (ns.map V.int).length hi - HT.sIx (ns.map V.int).length 0 lo)).map V.int := by
  unfold cutV
  rw [List.map_take, List.map_drop]
def spPurse (K : PySem.W.Frag) : Sp := fun vs H Q _ => ∃ (a : Addr) (ns : List Int) (i : Int), vs = [.ref a, .int i] ∧ SqL K H a (ns.map V.int) ∧
  ∀ p H', Same H H' → H p = none → Purse H' p 0 → Q (.ref p) H'
/-- any rest there is -/
def spMixed : Sp := fun vs H Q _ => ∃ B c i : Int, vs = [.int B, .int c, .int i] ∧ (0 ≤ c ∧ c ≤ 2 ^ 60) ∧ ∀ r : Int, 0 ≤ r → r < 2147483587 → Q (.int r) H
/-- how often a draw of one of m mixes -/
def mixes (m : Int) : Nat := (1 + (Builtin.Int.intBits m : Int) / 28).toNat
def spDraw : Sp := fun vs H Q _ => ∃ (p : Addr) (m : Int) (N : Nat), vs = [.ref p, .int m] ∧ 1 ≤ m ∧ m.natAbs.log2 < 9000 ∧ Purse H p N ∧ N + mixes m ≤ 2 ^ 50 ∧ mixes m ≤ 2 ^ 50 ∧
  ∀ (r : Int) (H' : Hp), 0 ≤ r → r < m → But p H H' → Purse H' p (N + mixes m) → Q (.int r) H'
theorem mixes_one {m : Int} (h0 : 1 ≤ m) (h : m < 2 ^ 27) : mixes m = 1 := by
  have e : Builtin.Int.intBits m ≤ 27 := PyProof.Rows.intBits_le (by omega)
  unfold mixes
  omega
theorem log_small {m : Int} (h0 : 1 ≤ m) (h : m < 2 ^ 27) : m.natAbs.log2 < 9000 := by
  have e : m.natAbs < 2 ^ 27 := by omega
  have := PySem.Flt.log2_lt_of (by decide) e
  omega
theorem But.seq {K : PySem.W.Frag} {p a : Addr} {H H' : Hp} {xs : List V} (k : But p H H') (n : a ≠ p) (h : SqL K H a xs) : SqL K H' a xs := by
  rcases h with (h | ⟨o, h⟩) | h
  · exact .inl (.inl (k _ _ n h))
  · exact .inl (.inr ⟨o, k _ _ n h⟩)
  · exact .inr h
/-- purses(script, 1): the list of one purse -/
def spPurses (K : PySem.W.Frag) : Sp := fun vs H Q _ => ∃ (a : Addr) (ns : List Int), vs = [.ref a, .int 1] ∧ SqL K H a (ns.map V.int) ∧
  ∀ q p H', Same H H' → H p = none → H q = none → p ≠ q → H' q = some (.lst [.ref p]) → Purse H' p 0 → Q (.ref q) H'
def spOne (K : PySem.W.Frag) : Sp := fun vs H Q _ => ∃ (p q : Addr) (xs : List V) (N : Nat), vs = [.ref p, .ref q] ∧ q ≠ p ∧ SqL K H q xs ∧ 1 ≤ xs.length ∧ xs.length ≤ 1000000 ∧ Purse H p N ∧ N ≤ 2 ^ 40 ∧
  ∀ x H', x ∈ xs → But p H H' → Purse H' p (N + 1) → Q x H'

theorem none_back {H H' : Hp} {q : Addr} (k : Same H H') (h : H' q = none) : H q = none := by
  cases e : H q with
  | none => rfl
  | some o =>
    have := k _ _ e
    rw [h] at this
    cases this
theorem mixes_le {m : Int} (h0 : 1 ≤ m) (h : m < 2 ^ 62) : mixes m ≤ 3 := by
  have e : Builtin.Int.intBits m ≤ 62 := PyProof.Rows.intBits_le (by omega)
  unfold mixes
  omega
theorem via_nx {f b c : L2.St → Hp → Prop} {r : VK} {σ : L2.St} {H : Hp} (h : f σ H) : (Ends.mk f r b c).nx σ H := h
theorem via_seq {t u : TS} {D : Ends} {σ : L2.St} {H : Hp} (h : t { D with nx := u D } σ H) : tSeq t u D σ H := h
theorem via_asg {te : TE} {g : TG} {D : Ends} {σ : L2.St} {H : Hp} (h : te σ H fun x H1 => g x σ H1 D.nx) : tAsg te g D σ H := h
theorem fresh_ne {X : Hp} {pu b : Addr} {M : Nat} (h : Purse X pu M) (hb : X b = none) : b ≠ pu := fun e => by
  obtain ⟨A0, B, c, i, e2, _⟩ := h
  rw [e, e2] at hb
  cases hb
theorem But.none {pu b : Addr} {X Y : Hp} (k : But pu X Y) (ne : b ≠ pu) (h : Y b = none) : X b = none := by
  cases e : X b with
  | none => rfl
  | some o =>
    have := k _ _ ne e
    rw [h] at this
    cases this
theorem Purse.same' {H H' : Hp} {p : Addr} {N : Nat} (k : H' p = H p) (h : Purse H p N) : Purse H' p N := by
  obtain ⟨A, B, c, i, e, r⟩ := h
  exact ⟨A, B, c, i, k.trans e, r⟩

/-- a statement that is never come to -/
theorem ps_dead {X : Cx} {st : Stmt} : PS X st (fun _ _ _ => False) := ⟨fun _ _ _ _ _ _ h => h.elim⟩
end KB
set_option Elab.async false
set_option linter.all false
set_option maxRecDepth 100000
set_option maxHeartbeats 4000000
/-! Data on the tracked heap; what is counted; the greatest of a list that may be empty. -/
namespace L2
open PySem PySem.Spec PyProof.Rows
open RZ
theorem walk_zipT {K : PySem.W.Frag} {a b : Addr} {xs ys : List V} {n : Nat} (hn : n = min xs.length ys.length) : Walk (ItzT K a b) n (fun H => SqT K H a xs ∧ SqT K H b ys) (YPair (fun i => xs[i]?) (fun i => ys[i]?)) where
  goes := fun i _ hi q => ⟨xs, ys, xs[i]'(by omega), ys[i]'(by omega), q.1, q.2, List.getElem?_eq_getElem _, List.getElem?_eq_getElem _⟩
  stops := fun _ q => ⟨xs, ys, q.1, q.2, by omega⟩
  yields := fun i H v H' _ q y => by
    obtain ⟨T, x, z, e1, e2, e3, e4, e5⟩ := y
    exact ⟨T, x, z, e1, e2, e3, e4 _ q.1, e5 _ q.2⟩
section
variable {X : Cx}
/-- how often a datum stands in a list of data -/
def rCountD (K : PySem.W.Frag) : V → List V → Hp → VK → Prop := fun x zs H Q => ∃ (a : Addr) (y : V) (d : PyData) (ds : List PyData), x = V.ref a ∧ zs = [y] ∧ Dp K H (V.ref a) (.list ds) ∧ Dp K H y d ∧ SeqAt.shaped (.list ds) = true ∧ SeqAt.shaped d = true ∧
  Q (.int ((ds.countP fun z => PyData.eqv z d : Nat) : Int)) H
theorem mt_countD (hu : X.A.units + 65 < cLine) : MtR X "list.count" (rCountD X.K) := by
  intro pins s σ H x zs v us Q I rx rz h
  obtain ⟨a, y, d, ds, rfl, rfl, hL, hY, sL, sY, q⟩ := h
  obtain ⟨w, rfl, rw'⟩ := rz.one
  cases rx
  obtain ⟨bs, rY⟩ := Dp.reads I d y w hY rw'
  have cL : PyData.canLayAll0 ds = true := SeqAt.canLay_of_shaped sL
  cases hL with
  | lst hs hA =>
    obtain ⟨its, rv, ⟨⟨c0, d0, dat, sl0⟩, k0, hob, hcl, _, hda⟩, _⟩ := I.list hs
    dsimp only at hcl hda
    subst hcl hda
    obtain ⟨as, rA⟩ := Dp.readsAll I ds _ its hA rv
    have em : its.map (SeqAt.readOf s.heap) = ds := SeqAt.readsAll_map ds its as cL rA
    refine call_meets PySem.F.slot_list_count ⟨_, hob, rfl⟩ PySem.F.entry_list_count (PySem.F.args_list_count_2 _ _)
      (SeqAt.list_countAt a its.toArray k0 d0 sl0 w fun u => PyData.eqv (SeqAt.readOf s.heap u) d) ⟨hob, ?_, ?_⟩
    · exact SeqAt.items_eqAt (vs := its.toArray) (show ReadsAll s.heap its.toArray.toList ds as from rA) rY cL (SeqAt.canLay_of_shaped sY) (room_in_shaped sY hu)
    · refine ⟨.int (its.toArray.toList.countP fun u => PyData.eqv (SeqAt.readOf s.heap u) d : Nat), H, I.tok _, ⟨_, rfl⟩, ?_⟩
      have e : ((its.toArray.toList.countP fun u => PyData.eqv (SeqAt.readOf s.heap u) d : Nat) : Int) = ((ds.countP fun z => PyData.eqv z d : Nat) : Int) := by
        rw [← em, List.countP_map]
        rfl
      rw [e]
      exact q
end
end L2
namespace KB
open PySem PySem.Spec PyProof.Rows L2
/-- a value that is no object -/
inductive FlatD : V → PyData → Prop
  | non : FlatD .non .none
  | bl (b : Bool) : FlatD (.bl b) (.bool b)
  | int (i : Int) : FlatD (.int i) (.int i)
  | str (x : Str) : FlatD (.str x) (.str x)
/-- a value that stands for a datum: lists and tuples, each tracked, nested at most so deep -/
def Tr (H : Hp) : Nat → V → PyData → Prop
  | 0, x, d => FlatD x d
  | n + 1, x, d => FlatD x d ∨ ∃ (a : Addr) (xs : List V) (ds : List PyData), x = .ref a ∧ xs.length = ds.length ∧ ds.length ≤ 1000 ∧ ((H a = some (.lst xs) ∧ d = .list ds) ∨ (H a = some (.tup xs) ∧ d = .tuple ds)) ∧
      ∀ (i : Nat) (u : V) (e : PyData), xs[i]? = some u → ds[i]? = some e → Tr H n u e
theorem Tr.same {H H' : Hp} (k : Same H H') : ∀ {n : Nat} {x : V} {d : PyData}, Tr H n x d → Tr H' n x d
  | 0, _, _, h => h
  | n + 1, _, _, h => by
    rcases h with h | ⟨a, xs, ds, e1, e2, e3, e4, e5⟩
    · exact .inl h
    · exact .inr ⟨a, xs, ds, e1, e2, e3, e4.elim (fun z => .inl ⟨k _ _ z.1, z.2⟩) (fun z => .inr ⟨k _ _ z.1, z.2⟩), fun i u e h1 h2 => Tr.same k (e5 i u e h1 h2)⟩
theorem Tr.up {H : Hp} : ∀ {n : Nat} {x : V} {d : PyData}, Tr H n x d → Tr H (n + 1) x d
  | 0, _, _, h => .inl h
  | n + 1, _, _, h => by
    rcases h with h | ⟨a, xs, ds, e1, e2, e3, e4, e5⟩
    · exact .inl h
    · exact .inr ⟨a, xs, ds, e1, e2, e3, e4, fun i u e h1 h2 => Tr.up (e5 i u e h1 h2)⟩
theorem Tr.flat {H : Hp} {n : Nat} {x : V} {d : PyData} (h : FlatD x d) : Tr H n x d := by
  cases n with
  | zero => exact h
  | succ n => exact .inl h
theorem Tr.lst {H : Hp} {n : Nat} {a : Addr} {xs : List V} {ds : List PyData} (h : H a = some (.lst xs)) (l : xs.length = ds.length) (s : ds.length ≤ 1000) (k : ∀ (i : Nat) (u : V) (e : PyData), xs[i]? = some u → ds[i]? = some e → Tr H n u e) : Tr H (n + 1) (.ref a) (.list ds) :=
  .inr ⟨a, xs, ds, rfl, l, s, .inl ⟨h, rfl⟩, k⟩
theorem Tr.tup {H : Hp} {n : Nat} {a : Addr} {xs : List V} {ds : List PyData} (h : H a = some (.tup xs)) (l : xs.length = ds.length) (s : ds.length ≤ 1000) (k : ∀ (i : Nat) (u : V) (e : PyData), xs[i]? = some u → ds[i]? = some e → Tr H n u e) : Tr H (n + 1) (.ref a) (.tuple ds) :=
  .inr ⟨a, xs, ds, rfl, l, s, .inr ⟨h, rfl⟩, k⟩
/-- item by item -/
theorem tr_cons {H : Hp} {n : Nat} {x : V} {xs : List V} {d : PyData} {ds : List PyData} (h : Tr H n x d) (k : ∀ (i : Nat) (u : V) (e : PyData), xs[i]? = some u → ds[i]? = some e → Tr H n u e) : ∀ (i : Nat) (u : V) (e : PyData), (x :: xs)[i]? = some u → (d :: ds)[i]? = some e → Tr H n u e
  | 0, _, _, h1, h2 => by
    obtain rfl := Option.some.inj h1
    obtain rfl := Option.some.inj h2
    exact h
  | i + 1, u, e, h1, h2 => k i u e h1 h2
theorem tr_nil {H : Hp} {n : Nat} : ∀ (i : Nat) (u : V) (e : PyData), ([] : List V)[i]? = some u → ([] : List PyData)[i]? = some e → Tr H n u e := fun i u e h1 h2 => by simp at h1
theorem tr_snoc {H : Hp} {n : Nat} {x : V} {xs : List V} {d : PyData} {ds : List PyData} (l : xs.length = ds.length) (k : ∀ (i : Nat) (u : V) (e : PyData), xs[i]? = some u → ds[i]? = some e → Tr H n u e) (h : Tr H n x d) :
    ∀ (i : Nat) (u : V) (e : PyData), (xs ++ [x])[i]? = some u → (ds ++ [d])[i]? = some e → Tr H n u e := fun i u e h1 h2 => by
  by_cases hi : i < xs.length
  · rw [List.getElem?_append_left hi] at h1
    rw [List.getElem?_append_left (by omega)] at h2
    exact k i u e h1 h2
  · rw [List.getElem?_append_right (by omega)] at h1
    rw [List.getElem?_append_right (by omega)] at h2
    cases hj : i - xs.length with
    | zero =>
      rw [hj] at h1
      rw [show i - ds.length = 0 by omega] at h2
      obtain rfl := Option.some.inj h1
      obtain rfl := Option.some.inj h2
      exact h
    | succ j =>
      rw [hj] at h1
      simp at h1
theorem FlatD.dp {K : PySem.W.Frag} {H : Hp} {x : V} {d : PyData} (h : FlatD x d) : Dp K H x d := by
  cases h
  · exact .non
  · exact .bl _
  · exact .int _
  · exact .str _
theorem dpAll_of {K : PySem.W.Frag} {H : Hp} : ∀ {xs : List V} {ds : List PyData}, xs.length = ds.length → (∀ (i : Nat) (u : V) (e : PyData), xs[i]? = some u → ds[i]? = some e → Dp K H u e) → DpAll K H xs ds
  | [], [], _, _ => .nil
  | [], _ :: _, h, _ => by simp at h
  | _ :: _, [], h, _ => by simp at h
  | x :: xs, d :: ds, h, k => .cons (k 0 x d rfl rfl) (dpAll_of (by simpa using h) fun i u e h1 h2 => k (i + 1) u e h1 h2)
theorem Tr.dp {K : PySem.W.Frag} {H : Hp} : ∀ {n : Nat} {x : V} {d : PyData}, Tr H n x d → Dp K H x d
  | 0, _, _, h => FlatD.dp h
  | n + 1, _, _, h => by
    rcases h with h | ⟨a, xs, ds, rfl, e2, e3, e4, e5⟩
    · exact FlatD.dp h
    · rcases e4 with ⟨h, rfl⟩ | ⟨h, rfl⟩
      · exact .lst (SqL.of h) (dpAll_of e2 fun i u e h1 h2 => (e5 i u e h1 h2).dp)
      · exact .tup (SqT.of h) (dpAll_of e2 fun i u e h1 h2 => (e5 i u e h1 h2).dp)
/-- alike: both stand for one datum -/
def spExact (n : Nat) : Sp := fun vs H Q _ => ∃ (x y : V) (d : PyData), vs = [x, y] ∧ Tr H n x d ∧ Tr H n y d ∧ ∀ H', Same H H' → Q (.bl true) H'
theorem FlatD.ty {K : PySem.W.Frag} {H : Hp} {x : V} {d : PyData} (h : FlatD x d) : ∃ t, TyX K H x (.type t) ∧ kitB t "list" = some false ∧ kitB t "tuple" = some false ∧ kitB t "dict" = some false ∧ ∃ i b, kitB t "int" = some i ∧ kitB t "bool" = some b := by
  cases h with
  | non => exact ⟨"NoneType", .base .non, by decide +kernel, by decide +kernel, by decide +kernel, false, false, by decide +kernel, by decide +kernel⟩
  | bl b => exact ⟨"bool", .base (.bl b), by decide +kernel, by decide +kernel, by decide +kernel, true, true, by decide +kernel, by decide +kernel⟩
  | int i => exact ⟨"int", .base (.int i), by decide +kernel, by decide +kernel, by decide +kernel, true, false, by decide +kernel, by decide +kernel⟩
  | str z => exact ⟨"str", .base (.str z), by decide +kernel, by decide +kernel, by decide +kernel, false, false, by decide +kernel, by decide +kernel⟩
theorem FlatD.scal {x : V} {d : PyData} (h : FlatD x d) : scal x x = true := by
  cases h <;> rfl
theorem FlatD.eq {x y : V} {d : PyData} (h : FlatD x d) (h' : FlatD y d) : x = y := by
  cases h <;> cases h' <;> rfl
theorem FlatD.noL {x : V} {ds : List PyData} (h : FlatD x (.list ds)) : False := nomatch h
theorem FlatD.noT {x : V} {ds : List PyData} (h : FlatD x (.tuple ds)) : False := nomatch h
/-- all of a list that is true at each place -/
theorem all_bits {K : PySem.W.Frag} {n : Nat} {H : Hp} {D : Addr} (hR : H D = some (.lst ((List.range n).filterMap fun _ => some (V.bl true)))) : ∃ bs : List Bool, SqL K H D (bs.map V.bl) ∧ bs.all id = true := by
  refine ⟨List.replicate n true, ?_, ?_⟩
  · have e : ((List.range n).filterMap fun _ => some (V.bl true)) = (List.replicate n true).map V.bl := by
      rw [List.filterMap_eq_map', List.map_const', List.length_range, List.map_replicate]
    rw [e] at hR
    exact SqL.of hR
  · rw [List.all_eq_true]
    intro b hb
    exact (List.eq_of_mem_replicate hb)
end KB
set_option Elab.async false
set_option linter.all false
set_option maxRecDepth 100000
set_option maxHeartbeats 4000000
namespace K19
open PySem PySem.Spec PyProof.Rows L2 KB
abbrev FnP (K : PySem.W.Frag) (x : Str) (st : Stmt) (f : Addr) (fd : FuncData) : Prop := FunD K x x (defArgs st) (defBody st) (defScope st) [] [] f fd
abbrev sPurse : Stmt := top 35
abbrev sMixed : Stmt := top 36
abbrev sDraw : Stmt := top 37
section
variable {P : Program} {w : World} {K : PySem.W.Frag} {mg : Str → Option Value} {base : Heap} {f fM : Addr} {fd fdM : FuncData}
theorem scPurse : FnScope ["_law_script", "_law_at", "_law_seed"] ["_law_script", "_law_at"] (defScope sPurse) := ⟨rfl, rfl, rfl, by decide +kernel, rfl, by decide +kernel, by decide +kernel⟩
theorem ok_purse (F : FnP K "_law_purse" sPurse f fd) (Z : Free mg) : FnOk P w K mg base CX0 1 f fd ["_law_script", "_law_at"] (spPurse K) := by
  refine F.ok scPurse (fun vs H Q E h => ?_) (fun cdv A outer s H vs Q E hr h => ?_)
  · obtain ⟨a, ns, i, rfl, _⟩ := h
    rfl
  · obtain ⟨a, ns, i, rfl, hS, k⟩ := h
    have nd := scPurse.nd
    refine ⟨_, PSs.nox (pss_cons (ps_set (i := 2) nd rfl (Or.inl rfl) (pe_callB (cr_sum rfl) (by rfl) Z.sum (by decide +kernel) (pa_cons (pe_slice sl_list (pv 0) (po_some (pv 1)) (po_some (pe_op op_add (pv 1) pe_int))) pa_nil)))
      (pss_one (ps_ret (pe_lst (pa_cons (pe_op op_mod (pe_callTy call_int1 (by rfl) Z.int (by decide +kernel) (pa_cons (pe_callB (call_max2 rfl) (by rfl) Z.max (by decide +kernel)
          (pa_cons (pe_op op_sub (pv 2) (pe_op op_pow pe_int pe_int)) (pa_cons pe_int pa_nil))) pa_nil)) (pe_op op_powL (pe_op op_pow pe_int pe_int) pe_int))
        (pa_cons (pe_op op_mod (pe_callTy call_int1 (by rfl) Z.int (by decide +kernel) (pa_cons (pv 2) pa_nil)) pe_int) (pa_cons pe_int (pa_cons (pv 1) pa_nil)))))))), ?_⟩
    refine ⟨_, rfl, _, rfl, i, rfl, ?_⟩
    refine ⟨_, rfl, _, _, rfl, rfl, ?_⟩
    refine ⟨i + 1, rfl, a, _, rfl, hS, fun q hq => ?_⟩
    rw [cut_map]
    refine ⟨q, _, rfl, SqL.of upd_same, ?_⟩
    -- the list
    refine ⟨_, rfl, _, _, rfl, rfl, ⟨by decide, by decide, by decide⟩, _, _, rfl, rfl, ?_⟩
    refine ⟨_, _, rfl, Or.inl ⟨_, rfl, ?_⟩⟩
    refine ⟨_, _, rfl, rfl, ⟨by decide, by decide, by decide⟩, ?_⟩
    refine ⟨_, _, rfl, rfl, ⟨by decide, by decide +kernel⟩, ?_⟩
    refine ⟨_, _, rfl, rfl, (by show (0 : Int) < _; decide +kernel), ?_⟩
    refine ⟨_, rfl, Or.inl ⟨_, rfl, ?_⟩⟩
    refine ⟨_, _, rfl, rfl, (by show (0 : Int) < _; decide), ?_⟩
    refine ⟨_, rfl, (by show 4 ≤ sizeLine; decide), fun p hp => ?_⟩
    refine k p _ (Same.trans (Same.upd hq) (Same.upd hp)) ?_ ⟨_, _, 0, i, upd_same, ⟨Int.emod_nonneg _ (by decide), Int.lt_trans (Int.emod_lt_of_pos _ (by decide)) (by decide)⟩, Int.emod_nonneg _ (by decide +kernel), Int.le_refl _, Int.le_refl _⟩
    rw [upd_ne (fun e => by rw [e, upd_same] at hp; cases hp)] at hp
    exact hp
theorem scMixed : FnScope ["_law_seed", "_law_spin", "_law_at", "_law_mixed_here"] ["_law_seed", "_law_spin", "_law_at"] (defScope sMixed) := ⟨rfl, rfl, rfl, by decide +kernel, rfl, by decide +kernel, by decide +kernel⟩
theorem ok_mixed (F : FnP K "_law_mixed" sMixed f fd) (Z : Free mg) : FnOk P w K mg base CX0 1 f fd ["_law_seed", "_law_spin", "_law_at"] spMixed := by
  refine F.ok scMixed (fun vs H Q E h => ?_) (fun cdv A outer s H vs Q E hr h => ?_)
  · obtain ⟨B, c, i, rfl, _⟩ := h
    rfl
  · obtain ⟨B, c, i, rfl, ⟨hc0, hc1⟩, k⟩ := h
    have nd := scMixed.nd
    refine ⟨_, PSs.nox (pss_cons (ps_set (i := 3) nd rfl (Or.inl rfl) (pe_op op_add (pe_op op_mul (pv 0) pe_int) (pe_op op_mul (pe_op op_mul pe_int (pv 1)) (pv 1))))
      (pss_cons (ps_set (i := 3) nd rfl (Or.inl rfl) (pe_op op_mod (pe_callTy call_int1 (by rfl) Z.int (by decide +kernel) (pa_cons (pe_op op_add (pe_op op_add (pv 3) (pe_op op_mul pe_int (pv 2))) (pv 1)) pa_nil)) pe_int))
      (pss_cons (ps_set (i := 3) nd rfl (Or.inl rfl) (pe_op op_mod (pe_callTy call_int1 (by rfl) Z.int (by decide +kernel) (pa_cons (pe_op op_add (pe_op op_mul (pv 3) (pv 3)) pe_int) pa_nil)) pe_int))
      (pss_one (ps_ret (pe_op op_mod (pe_callTy call_int1 (by rfl) Z.int (by decide +kernel) (pa_cons (pe_op op_mul (pv 3) pe_int) pa_nil)) pe_int)))))), ?_⟩
    have c64 : -(2 ^ 64) < c ∧ c < 2 ^ 64 := ⟨by omega, by omega⟩
    refine ⟨_, rfl, _, _, rfl, rfl, Or.inr ⟨by decide, by decide⟩, ?_⟩
    refine ⟨_, rfl, _, _, rfl, rfl, Or.inl ⟨by decide, by decide⟩, ?_⟩
    refine ⟨_, rfl, _, _, rfl, rfl, Or.inr c64, ?_⟩
    refine ⟨_, _, rfl, rfl, ?_⟩
    refine ⟨_, rfl, _, rfl, _, _, rfl, rfl, Or.inl ⟨by decide, by decide⟩, ?_⟩
    refine ⟨_, _, rfl, rfl, _, rfl, _, _, rfl, rfl, ?_⟩
    refine Or.inl ⟨_, rfl, ?_⟩
    refine ⟨_, _, rfl, rfl, (by show (0 : Int) < _; decide), ?_⟩
    generalize hm : (B * 69069 + 104729 * c * c + 7919 * i + c) % 2147483647 = m
    have h1 : 0 ≤ m := by rw [← hm]; exact Int.emod_nonneg _ (by decide)
    have h2 : m < 2147483647 := by rw [← hm]; exact Int.emod_lt_of_pos _ (by decide)
    refine ⟨_, rfl, _, rfl, _, _, rfl, rfl, Or.inl ⟨by omega, by omega⟩, ?_⟩
    refine ⟨_, _, rfl, rfl, Or.inl ⟨_, rfl, ?_⟩⟩
    refine ⟨_, _, rfl, rfl, (by show (0 : Int) < _; decide), ?_⟩
    refine ⟨_, rfl, _, _, rfl, rfl, Or.inr ⟨by decide, by decide⟩, Or.inl ⟨_, rfl, ?_⟩⟩
    refine ⟨_, _, rfl, rfl, (by show (0 : Int) < _; decide), ?_⟩
    exact k _ (Int.emod_nonneg _ (by decide)) (Int.emod_lt_of_pos _ (by decide))
theorem scDraw : FnScope ["_law_purse_here", "_law_many", "_law_drawn", "_law_found", "_law_piece"] ["_law_purse_here", "_law_many"] (defScope sDraw) := ⟨rfl, rfl, rfl, by decide +kernel, rfl, by decide +kernel, by decide +kernel⟩
theorem ok_draw (F : FnP K "_law_draw" sDraw f fd) (Z : Free mg) (FM : FnP K "_law_mixed" sMixed fM fdM) (gM : mg "_law_mixed" = some (.ref fM)) : FnOk P w K mg base CX0 2 f fd ["_law_purse_here", "_law_many"] spDraw := by
  have GM : FnOk P w K mg base CX0 1 fM fdM ["_law_seed", "_law_spin", "_law_at"] spMixed := ok_mixed FM Z
  have bM : Binds K fdM ["_law_seed", "_law_spin", "_law_at"] [] := FM.bindsN fun _ _ _ _ _ _ us hl => match us, hl with | [_, _, _], _ => rfl
  refine F.ok scDraw (fun vs H Q E h => ?_) (fun cdv A outer s H vs Q E hr h => ?_)
  · obtain ⟨p, m, N, rfl, _⟩ := h
    rfl
  · obtain ⟨p, m, N, rfl, hm1, hm2, hP, hN, hN2, k⟩ := h
    obtain ⟨A0, B, c, i, hp, hB, hA, hc, hcN⟩ := id hP
    have nd := scDraw.nd
    refine ⟨_, PSs.nox (pss_cons (ps_if (pt_cmpR op_gt (pe_ix ix_list (pv 0) pe_int (fun _ _ => rfl)) pe_int (nomark _))
        (pss_cons (ps_set (i := 2) nd rfl (Or.inl rfl) (pe_op op_mod (pe_callTy call_int1 (by rfl) Z.int (by decide +kernel) (pa_cons (pe_ix ix_list (pv 0) pe_int (fun _ _ => rfl)) pa_nil)) (pv 1)))
        (pss_cons (ps_asg (pe_op op_fdivW (pe_ix ix_list (pv 0) pe_int (fun _ _ => rfl)) (pv 1)) (pg_sub (pv 0) pe_int set_list))
        (pss_one (ps_ret (pv 2))))) pss_nil)
      (pss_cons (ps_set (i := 3) nd rfl (Or.inl rfl) pe_int)
      (pss_cons (ps_for PassesOwn.never rfl (pi_range1 rfl Z.range (pa_cons (pe_op op_add pe_int (pe_op op_fdiv (pe_bits (pv 1)) pe_int)) pa_nil)) (pg_name (i := 4) nd rfl (Or.inl rfl))
        (pss_cons (ps_asg (pe_op op_add (pe_ix ix_list (pv 0) pe_int (fun _ _ => rfl)) pe_int) (pg_sub (pv 0) pe_int set_list))
        (pss_one (ps_set (i := 3) nd rfl (Or.inl rfl) (pe_op op_add (pe_op op_mul (pv 3) pe_int) (pe_call GM hr rfl gM FM.kp bM .nil pass0
          (pa_cons (pe_ix ix_list (pv 0) pe_int (fun _ _ => rfl)) (pa_cons (pe_ix ix_list (pv 0) pe_int (fun _ _ => rfl)) (pa_cons (pe_ix ix_list (pv 0) pe_int (fun _ _ => rfl)) pa_nil)))))))))
      (pss_one (ps_ret (pe_op op_mod (pe_callTy call_int1 (by rfl) Z.int (by decide +kernel) (pa_cons (pv 3) pa_nil)) (pv 1))))))), ?_⟩
    -- if purse[0] > 0
    refine ⟨_, rfl, p, _, 0, .int A0, rfl, rfl, SqL.of hp, rfl, ?_⟩
    refine ⟨_, _, rfl, rfl, _, rfl, ?_⟩
    refine ite2 (fun hpos => ?_) (fun hneg => ?_)
    · refine ⟨_, rfl, p, _, 0, .int A0, rfl, rfl, SqL.of hp, rfl, Or.inl ⟨_, rfl, ?_⟩⟩
      refine ⟨_, rfl, _, _, rfl, rfl, (by show (0 : Int) < m; omega), ?_⟩
      refine ⟨_, rfl, p, _, 0, .int A0, rfl, rfl, SqL.of hp, rfl, ?_⟩
      refine ⟨_, rfl, _, _, rfl, rfl, ⟨by omega, hm2⟩, ?_⟩
      refine ⟨_, rfl, p, _, 0, 0, rfl, rfl, hp, rfl, ?_⟩
      refine ⟨_, rfl, ?_⟩
      refine k _ _ (Int.emod_nonneg _ (by omega)) (Int.emod_lt_of_pos _ (by omega)) But.upd ⟨A0 / m, B, c, i, upd_same, hB, Int.ediv_nonneg hA (by omega), hc, by omega⟩
    · -- found = 0; for piece in range(..)
      have hb : (0 : Int) ≤ 1 + (Builtin.Int.intBits m : Int) / 28 := by omega
      have hM : ((mixes m : Nat) : Int) = 1 + (Builtin.Int.intBits m : Int) / 28 := by
        unfold mixes
        exact Int.toNat_of_nonneg hb
      refine ⟨_, rfl, _, rfl, _, _, rfl, rfl, ⟨by decide, by decide⟩, _, _, rfl, rfl, ?_⟩
      refine ⟨1 + (Builtin.Int.intBits m : Int) / 28, rfl, by omega, by omega, ?_⟩
      refine for_range (lo := 0) (n := (1 + (Builtin.Int.intBits m : Int) / 28).toNat) (fun j σ H2 => ∃ (g : Int) (v2 v4 : Option V), σ = [some (.ref p), some (.int m), v2, some (.int g), v4] ∧ But p H H2 ∧
          ∃ c' : Int, H2 p = some (.lst [.int A0, .int B, .int c', .int i]) ∧ 0 ≤ c' ∧ c' ≤ (N : Int) + (j : Int))
        ⟨0, none, none, rfl, But.refl _ _, c, hp, hc, by omega⟩ ?_ ?_
      · rintro j σ H2 hj ⟨g, v2, v4, rfl, kb, c', hp2, h0, h1⟩
        have hj2 : (j : Int) < 2 ^ 50 := by
          have : j < mixes m := hj
          omega
        refine ⟨_, rfl, p, _, 2, .int c', rfl, rfl, SqL.of hp2, rfl, ?_⟩
        refine ⟨_, _, rfl, rfl, ?_⟩
        refine ⟨_, rfl, p, _, 2, 2, rfl, rfl, hp2, rfl, ?_⟩
        have hp3 : (L2.upd H2 p (.lst (List.set [V.int A0, .int B, .int c', .int i] 2 (.int (c' + 1))))) p = some (.lst [.int A0, .int B, .int (c' + 1), .int i]) := upd_same
        refine ⟨_, rfl, _, _, rfl, rfl, Or.inr ⟨by decide, by decide⟩, ?_⟩
        refine ⟨_, rfl, p, _, 1, .int B, rfl, rfl, SqL.of hp3, rfl, ?_⟩
        refine ⟨_, rfl, p, _, 2, .int (c' + 1), rfl, rfl, SqL.of hp3, rfl, ?_⟩
        refine ⟨_, rfl, p, _, 3, .int i, rfl, rfl, SqL.of hp3, rfl, ?_⟩
        refine ⟨B, c' + 1, i, rfl, ⟨by omega, by omega⟩, fun r hr0 hr1 => ?_⟩
        refine ⟨_, _, rfl, rfl, ?_⟩
        exact ⟨_, v2, _, rfl, But.trans kb But.upd, c' + 1, hp3, by omega, by omega⟩
      · rintro σ H2 ⟨g, v2, v4, rfl, kb, c', hp2, h0, h1⟩
        refine ⟨_, rfl, Or.inl ⟨_, rfl, ?_⟩⟩
        refine ⟨_, rfl, _, _, rfl, rfl, (by show (0 : Int) < m; omega), ?_⟩
        refine k _ _ (Int.emod_nonneg _ (by omega)) (Int.emod_lt_of_pos _ (by omega)) kb ⟨A0, B, c', i, hp2, hB, hA, h0, ?_⟩
        have : ((N + mixes m : Nat) : Int) = (N : Int) + (mixes m : Int) := by omega
        rw [this]
        exact h1
end
abbrev s_purse := sPurse
abbrev s_mixed := sMixed
abbrev s_draw := sDraw
end K19
set_option linter.all false
/-! Stabbing stretches by moments: theory alone. -/
namespace K19
/-- a moment serves a stretch -/
def stab (p : Nat) (w : Nat × Nat) : Bool := decide (w.1 < p) && decide (p ≤ w.2)
theorem stab_iff {p : Nat} {w : Nat × Nat} : stab p w = true ↔ w.1 < p ∧ p ≤ w.2 := by
  unfold stab
  rw [Bool.and_eq_true, decide_eq_true_eq, decide_eq_true_eq]
def served (ws : List (Nat × Nat)) (P : List Nat) : Bool := ws.all fun w => P.any fun p => stab p w
theorem served_iff {ws : List (Nat × Nat)} {P : List Nat} : served ws P = true ↔ ∀ w ∈ ws, ∃ p ∈ P, w.1 < p ∧ p ≤ w.2 := by
  unfold served
  rw [List.all_eq_true]
  refine forall_congr' fun w => imp_congr_right fun _ => ?_
  rw [List.any_eq_true]
  exact ⟨fun ⟨p, h, s⟩ => ⟨p, h, stab_iff.mp s⟩, fun ⟨p, h, s⟩ => ⟨p, h, stab_iff.mpr s⟩⟩
/-- stretches apart, picked from those in the order of their ends -/
def greedy : Nat → List (Nat × Nat) → List (Nat × Nat)
  | _, [] => []
  | z, w :: r => if z ≤ w.1 then w :: greedy w.2 r else greedy z r
def byEnd (ws : List (Nat × Nat)) : List (Nat × Nat) := ws.mergeSort fun u v => decide (u.2 ≤ v.2)
def apart (ws : List (Nat × Nat)) : List (Nat × Nat) := greedy 0 (byEnd ws)
def ends (ws : List (Nat × Nat)) : List Nat := (apart ws).map (·.2)
theorem greedy_sub : ∀ (ws : List (Nat × Nat)) (z : Nat), (greedy z ws).Sublist ws
  | [], _ => List.Sublist.refl _
  | w :: r, z => by
    unfold greedy
    split
    · exact (greedy_sub r _).cons_cons w
    · exact (greedy_sub r z).cons w
theorem byEnd_sorted (ws : List (Nat × Nat)) : (byEnd ws).Pairwise fun u v => u.2 ≤ v.2 := by
  have h := List.pairwise_mergeSort (le := fun u v : Nat × Nat => decide (u.2 ≤ v.2)) (fun a b c h1 h2 => by
    simp only [decide_eq_true_eq] at *
    omega) (fun a b => by
    simp only [Bool.or_eq_true, decide_eq_true_eq]
    omega) ws
  exact h.imp fun h => of_decide_eq_true h
theorem byEnd_mem {ws : List (Nat × Nat)} {w : Nat × Nat} : w ∈ byEnd ws ↔ w ∈ ws := List.mem_mergeSort
theorem greedy_stabs : ∀ {ws : List (Nat × Nat)} {z : Nat}, (∀ w ∈ ws, w.1 < w.2) → ws.Pairwise (fun u v => u.2 ≤ v.2) → ∀ w ∈ ws, w.1 < z ∨ ∃ g ∈ greedy z ws, w.1 < g.2 ∧ g.2 ≤ w.2
  | [], _, _, _, w, h => nomatch h
  | x :: r, z, hl, hp, w, hw => by
    obtain ⟨h1, h2⟩ := List.pairwise_cons.mp hp
    have hl' : ∀ w ∈ r, w.1 < w.2 := fun w h => hl w (.tail _ h)
    unfold greedy
    by_cases hz : z ≤ x.1
    · rw [if_pos hz]
      rcases List.mem_cons.mp hw with rfl | hw
      · exact .inr ⟨w, .head _, hl w (.head _), Nat.le_refl _⟩
      · rcases greedy_stabs (z := x.2) hl' h2 w hw with h | ⟨g, hg, q⟩
        · exact .inr ⟨x, .head _, h, h1 w hw⟩
        · exact .inr ⟨g, .tail _ hg, q⟩
    · rw [if_neg hz]
      rcases List.mem_cons.mp hw with rfl | hw
      · exact .inl (by omega)
      · exact greedy_stabs hl' h2 w hw
/-- one behind the other -/
def Chain : Nat → List (Nat × Nat) → Prop
  | _, [] => True
  | z, w :: r => z ≤ w.1 ∧ w.1 < w.2 ∧ Chain w.2 r
theorem greedy_chain : ∀ {ws : List (Nat × Nat)} {z : Nat}, (∀ w ∈ ws, w.1 < w.2) → Chain z (greedy z ws)
  | [], _, _ => trivial
  | x :: r, z, hl => by
    have hl' : ∀ w ∈ r, w.1 < w.2 := fun w h => hl w (.tail _ h)
    unfold greedy
    by_cases hz : z ≤ x.1
    · rw [if_pos hz]
      exact ⟨hz, hl x (.head _), greedy_chain hl'⟩
    · rw [if_neg hz]
      exact greedy_chain hl'
theorem chain_mono : ∀ {G : List (Nat × Nat)} {z y : Nat}, y ≤ z → Chain z G → Chain y G
  | [], _, _, _, _ => trivial
  | w :: r, z, y, h, ⟨a, b, c⟩ => ⟨by omega, b, c⟩
theorem chain_lt : ∀ {G : List (Nat × Nat)} {z : Nat}, Chain z G → ∀ g ∈ G, z ≤ g.1 ∧ g.1 < g.2
  | [], _, _, g, h => nomatch h
  | w :: r, z, ⟨a, b, c⟩, g, h => by
    rcases List.mem_cons.mp h with rfl | h
    · exact ⟨a, b⟩
    · have := chain_lt c g h
      exact ⟨by omega, this.2⟩
theorem chain_ends : ∀ {G : List (Nat × Nat)} {z : Nat}, Chain z G → (G.map (·.2)).Pairwise (· < ·)
  | [], _, _ => .nil
  | w :: r, z, ⟨a, b, c⟩ => by
    rw [List.map_cons, List.pairwise_cons]
    refine ⟨fun q hq => ?_, chain_ends c⟩
    obtain ⟨g, hg, rfl⟩ := List.mem_map.mp hq
    have := chain_lt c g hg
    omega
/-- ascending moments that serve a chain: as many, and none behind the chain's ends -/
theorem chain_le : ∀ {G : List (Nat × Nat)} {P : List Nat} {z : Nat}, Chain z G → P.Pairwise (· < ·) → (∀ g ∈ G, ∃ p ∈ P, g.1 < p ∧ p ≤ g.2) →
    G.length ≤ P.length ∧ (P.length = G.length → ∀ (i p : Nat) (g : Nat × Nat), P[i]? = some p → G[i]? = some g → p ≤ g.2)
  | [], P, _, _, _, _ => ⟨Nat.zero_le _, fun _ i p g _ h => by simp at h⟩
  | g :: r, [], _, _, _, hs => by
    obtain ⟨p, h, _⟩ := hs g (.head _)
    cases h
  | g :: r, x :: P, z, hc, hp, hs => by
    obtain ⟨h1, h2⟩ := List.pairwise_cons.mp hp
    obtain ⟨c1, c2, c3⟩ := hc
    by_cases hx : g.1 < x
    · have hx2 : x ≤ g.2 := by
        obtain ⟨p, hp, q⟩ := hs g (.head _)
        rcases List.mem_cons.mp hp with rfl | hp
        · exact q.2
        · have := h1 p hp
          omega
      obtain ⟨a, b⟩ := chain_le (P := P) c3 h2 fun g' hg' => by
        obtain ⟨p, hp, q⟩ := hs g' (.tail _ hg')
        have := chain_lt c3 g' hg'
        rcases List.mem_cons.mp hp with rfl | hp
        · omega
        · exact ⟨p, hp, q⟩
      refine ⟨by rw [List.length_cons, List.length_cons]; omega, fun e i p g' e1 e2 => ?_⟩
      cases i with
      | zero => cases e1; cases e2; exact hx2
      | succ i => exact b (by rw [List.length_cons, List.length_cons] at e; omega) i p g' e1 e2
    · have hs' : ∀ g' ∈ g :: r, ∃ p ∈ P, g'.1 < p ∧ p ≤ g'.2 := fun g' hg' => by
        obtain ⟨p, hp, q⟩ := hs g' hg'
        rcases List.mem_cons.mp hp with rfl | hp
        · rcases List.mem_cons.mp hg' with rfl | hg'
          · omega
          · have := chain_lt c3 g' hg'
            omega
        · exact ⟨p, hp, q⟩
      obtain ⟨a, b⟩ := chain_le (G := g :: r) (P := P) (z := z) ⟨c1, c2, c3⟩ h2 hs'
      rw [List.length_cons] at a
      exact ⟨by rw [List.length_cons, List.length_cons]; omega, fun e => by rw [List.length_cons, List.length_cons] at e; omega⟩
termination_by G P => G.length + P.length
section
variable {ws : List (Nat × Nat)} (hl : ∀ w ∈ ws, w.1 < w.2)
include hl
theorem apart_chain : Chain 0 (apart ws) := greedy_chain fun w h => hl w (byEnd_mem.mp h)
theorem ends_serve : served ws (ends ws) = true := by
  rw [served_iff]
  intro w hw
  rcases greedy_stabs (z := 0) (fun w h => hl w (byEnd_mem.mp h)) (byEnd_sorted ws) w (byEnd_mem.mpr hw) with h | ⟨g, hg, q⟩
  · omega
  · exact ⟨g.2, List.mem_map.mpr ⟨g, hg, rfl⟩, q⟩
theorem apart_mem {g : Nat × Nat} (h : g ∈ apart ws) : g ∈ ws := byEnd_mem.mp ((greedy_sub _ 0).subset h)
theorem ends_asc : (ends ws).Pairwise (· < ·) := chain_ends (apart_chain hl)
theorem ends_least {P : List Nat} (hp : P.Pairwise (· < ·)) (hs : served ws P = true) : (ends ws).length ≤ P.length ∧ (P.length = (ends ws).length → ∀ (i p q : Nat), P[i]? = some p → (ends ws)[i]? = some q → p ≤ q) := by
  have h := chain_le (apart_chain hl) hp fun g hg => served_iff.mp hs g (apart_mem hl hg)
  unfold ends
  rw [List.length_map]
  refine ⟨h.1, fun e i p q e1 e2 => ?_⟩
  rw [List.getElem?_map] at e2
  cases hg : (apart ws)[i]? with
  | none => rw [hg] at e2; cases e2
  | some g =>
    rw [hg] at e2
    cases e2
    exact h.2 e i p g e1 hg
end
end K19
set_option linter.all false
/-! Runs: barriers put in and left out: theory alone. -/
namespace K19
/-- an event of a run -/
inductive Ev where
  | wr (c : Nat)
  | bar
  | tell
deriving DecidableEq
def isB (es : List Ev) (i : Nat) : Bool := decide (es[i]? = some .bar)
def bars (es : List Ev) : List Nat := (List.range es.length).filter (isB es)
/-- how many barriers stand ahead of a place -/
def ahead (es : List Ev) (i : Nat) : Nat := (es.take i).countP fun e => decide (e = .bar)
theorem ahead_zero (es : List Ev) : ahead es 0 = 0 := rfl
theorem ahead_succ (es : List Ev) (i : Nat) : ahead es (i + 1) = ahead es i + (if isB es i = true then 1 else 0) := by
  unfold ahead isB
  rw [List.take_succ, List.countP_append]
  congr 1
  cases es[i]? with
  | none => rfl
  | some e =>
    show List.countP _ [e] = _
    rw [List.countP_cons, List.countP_nil]
    by_cases h : e = .bar
    · subst h
      rfl
    · simp [h]
theorem ahead_mono (es : List Ev) {a b : Nat} (h : a ≤ b) : ahead es a ≤ ahead es b := by
  induction b with
  | zero =>
    obtain rfl : a = 0 := by omega
    exact Nat.le_refl _
  | succ b ih =>
    by_cases e : a = b + 1
    · rw [e]; exact Nat.le_refl _
    · rw [ahead_succ]
      have := ih (by omega)
      omega
theorem isB_lt {es : List Ev} {i : Nat} (h : isB es i = true) : i < es.length := by
  unfold isB at h
  have := of_decide_eq_true h
  rcases Nat.lt_or_ge i es.length with q | q
  · exact q
  · rw [List.getElem?_eq_none q] at this
    cases this
theorem ahead_lt {es : List Ev} {a b : Nat} : ahead es a < ahead es b ↔ ∃ i, a ≤ i ∧ i < b ∧ isB es i = true := by
  constructor
  · intro h
    induction b with
    | zero =>
      rw [ahead_zero] at h
      omega
    | succ b ih =>
      by_cases q : isB es b = true
      · by_cases hab : a ≤ b
        · exact ⟨b, hab, by omega, q⟩
        · have := ahead_mono es (show b + 1 ≤ a by omega)
          omega
      · rw [ahead_succ, if_neg q] at h
        obtain ⟨i, h1, h2, h3⟩ := ih h
        exact ⟨i, h1, by omega, h3⟩
  · rintro ⟨i, h1, h2, h3⟩
    have q1 := ahead_mono es h1
    have q2 := ahead_mono es (show i + 1 ≤ b by omega)
    rw [ahead_succ, if_pos h3] at q2
    omega
theorem range_filter_len (es : List Ev) : ∀ i, ((List.range i).filter (isB es)).length = ahead es i
  | 0 => rfl
  | i + 1 => by
    rw [List.range_succ, List.filter_append, List.length_append, range_filter_len es i, ahead_succ]
    by_cases q : isB es i = true
    · rw [if_pos q, List.filter_cons, if_pos q]
      rfl
    · rw [if_neg q, List.filter_cons, if_neg q]
      rfl
theorem bars_len (es : List Ev) : (bars es).length = ahead es es.length := range_filter_len es _
theorem bars_get {es : List Ev} {p : Nat} (h : isB es p = true) : (bars es)[ahead es p]? = some p := by
  have hl := isB_lt h
  unfold bars
  have e : List.range es.length = List.range p ++ (p :: (List.range (es.length - p - 1)).map (· + (p + 1))) := by
    apply List.ext_getElem
    · simp
      omega
    · intro i h1 h2
      rw [List.getElem_range]
      rcases Nat.lt_or_ge i p with q | q
      · rw [List.getElem_append_left (by simpa using q), List.getElem_range]
      · rw [List.getElem_append_right (by simpa using q)]
        simp only [List.length_range]
        rcases Nat.lt_or_ge p i with q2 | q2
        · obtain ⟨k, rfl⟩ : ∃ k, i = p + (k + 1) := ⟨i - p - 1, by omega⟩
          simp only [show p + (k + 1) - p = k + 1 by omega, List.getElem_cons_succ, List.getElem_map, List.getElem_range]
          omega
        · obtain rfl : i = p := by omega
          simp
  rw [e, List.filter_append, List.filter_cons, if_pos h, List.getElem?_append_right (by rw [range_filter_len]; exact Nat.le_refl _), range_filter_len, Nat.sub_self]
  rfl
theorem mem_bars {es : List Ev} {p : Nat} : p ∈ bars es ↔ isB es p = true := by
  unfold bars
  rw [List.mem_filter, List.mem_range]
  exact ⟨fun h => h.2, fun h => ⟨isB_lt h, h⟩⟩
theorem bars_asc (es : List Ev) : (bars es).Pairwise (· < ·) := List.Pairwise.filter _ List.pairwise_lt_range
/-- a wait of a run -/
structure WaitOk (es : List Ev) (w : Nat × Nat) : Prop where
  lt : w.1 < w.2
  len : w.2 < es.length
  ev : ∃ c, es[w.1]? = some (.wr c) ∧ (es[w.2]? = some .tell ∨ ∃ c', es[w.2]? = some (.wr c') ∧ c' ≠ c)
theorem WaitOk.fst {es : List Ev} {w : Nat × Nat} (h : WaitOk es w) : isB es w.1 = false := by
  obtain ⟨c, h, _⟩ := h.ev
  unfold isB
  rw [h]
  rfl
theorem WaitOk.snd {es : List Ev} {w : Nat × Nat} (h : WaitOk es w) : isB es w.2 = false := by
  obtain ⟨c, _, h | ⟨c', h, _⟩⟩ := h.ev <;> (unfold isB; rw [h]; rfl)
def lexP (u v : Nat × Nat) : Prop := u.1 < v.1 ∨ u.1 = v.1 ∧ u.2 < v.2
structure WaitsOk (es : List Ev) (ws : List (Nat × Nat)) : Prop where
  ok : ∀ w ∈ ws, WaitOk es w
  asc : ws.Pairwise lexP
def keptL (es : List Ev) (ws : List (Nat × Nat)) : List (Nat × Nat) := ws.filter fun w => decide (ahead es w.1 < ahead es w.2)
def brokenL (es : List Ev) (ws : List (Nat × Nat)) : List (Nat × Nat) := ws.filter fun w => decide (ahead es w.1 = ahead es w.2)
/-! barriers put in -/
def wr (es : List Ev) (P : List Nat) : Nat → List Ev
  | 0 => []
  | i + 1 => wr es P i ++ (if P.contains i then [Ev.bar] else []) ++ es[i]?.toList
def pre (es : List Ev) (P : List Nat) (i : Nat) : List Ev := wr es P i ++ (if P.contains i then [Ev.bar] else [])
theorem wr_succ (es : List Ev) (P : List Nat) (i : Nat) : wr es P (i + 1) = pre es P i ++ es[i]?.toList := rfl
/-- the new place -/
def sent (P : List Nat) (i : Nat) : Nat := i + (P.filter fun p => decide (p < i + 1)).length
theorem cnt_succ {P : List Nat} (nd : P.Nodup) (i : Nat) : (P.filter fun p => decide (p < i + 1)).length = (P.filter fun p => decide (p < i)).length + (if P.contains i then [Ev.bar] else []).length := by
  induction P with
  | nil => rfl
  | cons x r ih =>
    obtain ⟨h1, h2⟩ := List.nodup_cons.mp nd
    have ih := ih h2
    rw [List.filter_cons, List.filter_cons, List.contains_cons]
    by_cases e : x = i
    · subst e
      have hc : r.contains x = false := by
        rw [← Bool.not_eq_true, List.contains_iff_mem]
        exact h1
      rw [hc] at ih
      simp at ih ⊢
      omega
    · have e2 : (i == x) = false := by
        rw [beq_eq_false_iff_ne]
        exact fun z => e z.symm
      rw [e2, Bool.false_or]
      by_cases l : x < i
      · rw [if_pos (decide_eq_true (show x < i + 1 by omega)), if_pos (decide_eq_true l), List.length_cons, List.length_cons, ih]
        omega
      · rw [if_neg (by rw [decide_eq_true_eq]; omega), if_neg (by rw [decide_eq_true_eq]; omega), ih]
theorem wr_len {es : List Ev} {P : List Nat} (nd : P.Nodup) : ∀ i, i ≤ es.length → (wr es P i).length = i + (P.filter fun p => decide (p < i)).length
  | 0, _ => by
    show 0 = 0 + _
    rw [List.filter_eq_nil_iff.mpr (fun p _ => by rw [decide_eq_true_eq]; omega)]
    rfl
  | i + 1, h => by
    rw [wr_succ, List.length_append, List.getElem?_eq_getElem (by omega)]
    unfold pre
    rw [List.length_append, wr_len nd i (by omega), cnt_succ nd i]
    show _ + 1 = _
    omega
theorem pre_len {es : List Ev} {P : List Nat} (nd : P.Nodup) {i : Nat} (h : i ≤ es.length) : (pre es P i).length = sent P i := by
  unfold pre sent
  rw [List.length_append, wr_len nd i h, cnt_succ nd i]
  omega
theorem wr_pre {es : List Ev} {P : List Nat} {i : Nat} : ∀ {n : Nat}, i ≤ n → ∃ r, wr es P n = wr es P i ++ r
  | n, h => by
    induction n with
    | zero =>
      obtain rfl : i = 0 := by omega
      exact ⟨[], rfl⟩
    | succ n ih =>
      by_cases e : i = n + 1
      · subst e
        exact ⟨[], (List.append_nil _).symm⟩
      · obtain ⟨r, hr⟩ := ih (by omega)
        exact ⟨r ++ (if P.contains n then [Ev.bar] else []) ++ es[n]?.toList, by rw [wr_succ]; unfold pre; rw [hr]; simp [List.append_assoc]⟩
theorem pre_pre {es : List Ev} {P : List Nat} {i n : Nat} (h : i < n) : ∃ r, wr es P n = pre es P i ++ (es[i]?.toList ++ r) := by
  obtain ⟨r, hr⟩ := wr_pre (es := es) (P := P) (show i + 1 ≤ n from h)
  exact ⟨r, by rw [hr, wr_succ, List.append_assoc]⟩
theorem wr_get {es : List Ev} {P : List Nat} (nd : P.Nodup) {i : Nat} (h : i < es.length) : (wr es P es.length)[sent P i]? = es[i]? := by
  obtain ⟨r, hr⟩ := pre_pre (es := es) (P := P) h
  rw [hr, ← pre_len nd (Nat.le_of_lt h), List.getElem?_append_right (Nat.le_refl _), Nat.sub_self, List.getElem?_eq_getElem h]
  rfl
theorem count_wr {es : List Ev} {P : List Nat} (nd : P.Nodup) : ∀ i, (wr es P i).countP (fun e => decide (e = .bar)) = ahead es i + (P.filter fun p => decide (p < i)).length
  | 0 => by
    show 0 = 0 + _
    rw [List.filter_eq_nil_iff.mpr (fun p _ => by rw [decide_eq_true_eq]; omega)]
    rfl
  | i + 1 => by
    rw [wr_succ, List.countP_append]
    unfold pre
    rw [List.countP_append, count_wr nd i, cnt_succ nd i, ahead_succ]
    have e1 : (if P.contains i then [Ev.bar] else []).countP (fun e => decide (e = .bar)) = (if P.contains i then [Ev.bar] else []).length := by
      cases P.contains i <;> rfl
    have e2 : (es[i]?.toList).countP (fun e => decide (e = .bar)) = if isB es i = true then 1 else 0 := by
      unfold isB
      cases es[i]? with
      | none => rfl
      | some e => cases e <;> rfl
    rw [e1, e2]
    omega
theorem ahead_wr {es : List Ev} {P : List Nat} (nd : P.Nodup) {i : Nat} (h : i < es.length) : ahead (wr es P es.length) (sent P i) = ahead es i + (P.filter fun p => decide (p < i + 1)).length := by
  obtain ⟨r, hr⟩ := pre_pre (es := es) (P := P) h
  unfold ahead
  rw [hr, ← pre_len nd (Nat.le_of_lt h), List.take_left]
  unfold pre
  rw [List.countP_append, count_wr nd i, cnt_succ nd i]
  have e1 : (if P.contains i then [Ev.bar] else []).countP (fun e => decide (e = .bar)) = (if P.contains i then [Ev.bar] else []).length := by
    cases P.contains i <;> rfl
  rw [e1]
  show ahead es i + _ + _ = ahead es i + _
  omega
theorem cnt_mono {P : List Nat} {a b : Nat} (h : a ≤ b) : (P.filter fun p => decide (p < a)).length ≤ (P.filter fun p => decide (p < b)).length := by
  induction P with
  | nil => exact Nat.le_refl _
  | cons x r ih =>
    rw [List.filter_cons, List.filter_cons]
    by_cases l : x < a
    · rw [if_pos (decide_eq_true l), if_pos (decide_eq_true (show x < b by omega)), List.length_cons, List.length_cons]
      omega
    · rw [if_neg (by rw [decide_eq_true_eq]; omega)]
      split
      · rw [List.length_cons]
        omega
      · exact ih
theorem cnt_lt {P : List Nat} {a b p : Nat} (hp : p ∈ P) (h1 : a ≤ p) (h2 : p < b) : (P.filter fun p => decide (p < a)).length < (P.filter fun p => decide (p < b)).length := by
  induction P with
  | nil => cases hp
  | cons x r ih =>
    rw [List.filter_cons, List.filter_cons]
    rcases List.mem_cons.mp hp with rfl | m
    · rw [if_neg (by rw [decide_eq_true_eq]; omega), if_pos (decide_eq_true h2), List.length_cons]
      have := cnt_mono (P := r) (show a ≤ b by omega)
      omega
    · have := ih m
      by_cases l : x < a
      · rw [if_pos (decide_eq_true l), if_pos (decide_eq_true (show x < b by omega)), List.length_cons, List.length_cons]
        omega
      · rw [if_neg (by rw [decide_eq_true_eq]; omega)]
        split
        · rw [List.length_cons]
          omega
        · exact this
theorem sent_lt {P : List Nat} {a b : Nat} (h : a < b) : sent P a < sent P b := by
  unfold sent
  have := cnt_mono (P := P) (show a + 1 ≤ b + 1 by omega)
  omega
theorem sent_le_len {es : List Ev} {P : List Nat} (nd : P.Nodup) {i : Nat} (h : i < es.length) : sent P i < (wr es P es.length).length := by
  have e := wr_get nd h
  rcases Nat.lt_or_ge (sent P i) (wr es P es.length).length with q | q
  · exact q
  · rw [List.getElem?_eq_none q, List.getElem?_eq_getElem h] at e
    cases e
def movedL (P : List Nat) (ws : List (Nat × Nat)) : List (Nat × Nat) := ws.map fun w => (sent P w.1, sent P w.2)
theorem waits_wr {es : List Ev} {P : List Nat} {ws : List (Nat × Nat)} (nd : P.Nodup) (h : WaitsOk es ws) : WaitsOk (wr es P es.length) (movedL P ws) := by
  refine ⟨fun v hv => ?_, ?_⟩
  · obtain ⟨w, hw, rfl⟩ := List.mem_map.mp hv
    have ok := h.ok w hw
    have l1 := ok.lt
    have l2 := ok.len
    refine ⟨sent_lt l1, sent_le_len nd l2, ?_⟩
    show ∃ c, (wr es P es.length)[sent P w.1]? = _ ∧ ((wr es P es.length)[sent P w.2]? = _ ∨ ∃ c', (wr es P es.length)[sent P w.2]? = _ ∧ _)
    rw [wr_get nd (show w.1 < es.length by omega), wr_get nd l2]
    exact ok.ev
  · unfold movedL
    rw [List.pairwise_map]
    refine h.asc.imp fun {u v} q => ?_
    rcases q with q | ⟨q1, q2⟩
    · exact .inl (sent_lt q)
    · exact .inr ⟨by show sent P u.1 = sent P v.1; rw [q1], sent_lt q2⟩
/-- all are kept when each stretch of a broken one has a new barrier -/
theorem none_broken {es : List Ev} {P : List Nat} {ws : List (Nat × Nat)} (nd : P.Nodup) (h : WaitsOk es ws) (hs : ∀ w ∈ brokenL es ws, ∃ p ∈ P, w.1 < p ∧ p ≤ w.2) : brokenL (wr es P es.length) (movedL P ws) = [] := by
  unfold brokenL movedL
  rw [List.filter_eq_nil_iff]
  intro v hv
  obtain ⟨w, hw, rfl⟩ := List.mem_map.mp hv
  have ok := h.ok w hw
  have l1 := ok.lt
  have l2 := ok.len
  rw [decide_eq_true_eq]
  show ¬ ahead (wr es P es.length) (sent P w.1) = ahead (wr es P es.length) (sent P w.2)
  rw [ahead_wr nd (by omega), ahead_wr nd l2]
  have m1 := ahead_mono es (Nat.le_of_lt l1)
  have m2 := cnt_mono (P := P) (show w.1 + 1 ≤ w.2 + 1 by omega)
  by_cases e : ahead es w.1 = ahead es w.2
  · obtain ⟨p, hp, q1, q2⟩ := hs w (List.mem_filter.mpr ⟨hw, decide_eq_true e⟩)
    have := cnt_lt hp (show w.1 + 1 ≤ p from q1) (show p < w.2 + 1 by omega)
    omega
  · omega
/-! barriers left out -/
def exB' (es : List Ev) (w : Nat × Nat) (f : Nat → Bool) : Bool := (List.range (w.2 - w.1)).any fun k => isB es (w.1 + k) && f (w.1 + k)
theorem exB_iff {es : List Ev} {w : Nat × Nat} {f : Nat → Bool} : exB' es w f = true ↔ ∃ i, w.1 ≤ i ∧ i < w.2 ∧ isB es i = true ∧ f i = true := by
  unfold exB'
  rw [List.any_eq_true]
  constructor
  · rintro ⟨k, hk, h⟩
    have hk := List.mem_range.mp hk
    rw [Bool.and_eq_true] at h
    exact ⟨w.1 + k, by omega, by omega, h.1, h.2⟩
  · rintro ⟨i, h1, h2, h3, h4⟩
    refine ⟨i - w.1, List.mem_range.mpr (by omega), ?_⟩
    rw [show w.1 + (i - w.1) = i by omega, h3, h4]
    rfl
/-- what is kept stays kept when these are gone -/
def keptB (es : List Ev) (ws : List (Nat × Nat)) (gone : List Nat) : Bool := ws.all fun w => !exB' es w (fun _ => true) || exB' es w (fun i => !gone.contains i)
theorem keptB_iff {es : List Ev} {ws : List (Nat × Nat)} {gone : List Nat} : keptB es ws gone = true ↔ ∀ w ∈ ws, ahead es w.1 < ahead es w.2 → ∃ i, w.1 ≤ i ∧ i < w.2 ∧ isB es i = true ∧ i ∉ gone := by
  unfold keptB
  rw [List.all_eq_true]
  refine forall_congr' fun w => imp_congr_right fun _ => ?_
  rw [Bool.or_eq_true, Bool.not_eq_true', exB_iff]
  have e : exB' es w (fun _ => true) = true ↔ ahead es w.1 < ahead es w.2 := by
    rw [exB_iff, ahead_lt]
    simp
  have e2 : ∀ i, ((!gone.contains i) = true ↔ i ∉ gone) := fun i => by
    rw [Bool.not_eq_true', ← Bool.not_eq_true, List.contains_iff_mem]
  constructor
  · rintro (h | ⟨i, h1, h2, h3, h4⟩) hl
    · rw [e.mpr hl] at h
      cases h
    · exact ⟨i, h1, h2, h3, (e2 i).mp h4⟩
  · intro h
    cases q : exB' es w (fun _ => true) with
    | false => exact .inl rfl
    | true =>
      obtain ⟨i, h1, h2, h3, h4⟩ := h (e.mp q)
      exact .inr ⟨i, h1, h2, h3, (e2 i).mpr h4⟩
/-- as the program tells it -/
def wantedB (es : List Ev) (ws : List (Nat × Nat)) (p : Nat) : Bool := ws.any fun w => decide (ahead es w.2 - ahead es w.1 = 1) && decide ((bars es)[ahead es w.1]? = some p)
theorem alone_iff {es : List Ev} {ws : List (Nat × Nat)} {p : Nat} (hp : isB es p = true) : keptB es ws [p] = !wantedB es ws p := by
  rw [Bool.eq_iff_iff, keptB_iff, Bool.not_eq_true', ← Bool.not_eq_true]
  unfold wantedB
  rw [List.any_eq_true]
  constructor
  · rintro h ⟨w, hw, q⟩
    rw [Bool.and_eq_true, decide_eq_true_eq, decide_eq_true_eq] at q
    obtain ⟨q1, q2⟩ := q
    obtain ⟨i, h1, h2, h3, h4⟩ := h w hw (by omega)
    have hip : i ≠ p := fun z => h4 (by rw [z]; exact List.mem_singleton.mpr rfl)
    -- the first barrier behind w.1 is p
    have gi := bars_get h3
    have m1 := ahead_mono es h1
    have m2 := ahead_mono es (show i + 1 ≤ w.2 by omega)
    rw [ahead_succ, if_pos h3] at m2
    have : ahead es i = ahead es w.1 := by omega
    rw [this, q2] at gi
    exact hip (Option.some.inj gi).symm
  · intro h w hw hl
    obtain ⟨i, h1, h2, h3⟩ := ahead_lt.mp hl
    by_cases e : i = p
    · subst e
      by_cases e2 : ahead es w.2 - ahead es w.1 = 1
      · refine absurd ⟨w, hw, ?_⟩ h
        rw [Bool.and_eq_true, decide_eq_true_eq, decide_eq_true_eq]
        refine ⟨e2, ?_⟩
        have m1 := ahead_mono es h1
        have m2 := ahead_mono es (show i + 1 ≤ w.2 by omega)
        rw [ahead_succ, if_pos h3] at m2
        rw [show ahead es w.1 = ahead es i by omega]
        exact bars_get h3
      · by_cases c : ahead es w.1 < ahead es i
        · obtain ⟨j, j1, j2, j3⟩ := ahead_lt.mp c
          exact ⟨j, j1, by omega, j3, fun z => by have := List.mem_singleton.mp z; omega⟩
        · have m1 := ahead_mono es h1
          have : ahead es (i + 1) < ahead es w.2 := by
            rw [ahead_succ, if_pos h3]
            omega
          obtain ⟨j, j1, j2, j3⟩ := ahead_lt.mp this
          exact ⟨j, by omega, j2, j3, fun z => by have := List.mem_singleton.mp z; omega⟩
    · exact ⟨i, h1, h2, h3, fun z => e (List.mem_singleton.mp z)⟩
def aloneL (es : List Ev) (ws : List (Nat × Nat)) : List Nat := (bars es).filter fun p => keptB es ws [p]
theorem alone_eq (es : List Ev) (ws : List (Nat × Nat)) : (bars es).filter (fun p => !wantedB es ws p) = aloneL es ws := by
  unfold aloneL
  refine List.filter_congr fun p hp => ?_
  rw [alone_iff (mem_bars.mp hp)]
/-- as the law tells it -/
def goneL (es : List Ev) (ws : List (Nat × Nat)) : Nat → List Nat
  | 0 => []
  | i + 1 => match (bars es)[i]? with
    | some p => if keptB es ws (goneL es ws i ++ [p]) then goneL es ws i ++ [p] else goneL es ws i
    | none => goneL es ws i
/-- as the program tells it: what goes, and the last one that stays, counted from one -/
def stayB (es : List Ev) (ws : List (Nat × Nat)) (last p on : Nat) : Bool := (keptL es ws).any fun w => decide (last ≤ w.1) && (decide (w.1 < p) && (decide (p < w.2) && decide (w.2 < on)))
def spareL (es : List Ev) (ws : List (Nat × Nat)) : Nat → List Nat × Nat
  | 0 => ([], 0)
  | i + 1 => match (bars es)[i]? with
    | some p => if stayB es ws (spareL es ws i).2 p (((bars es)[i + 1]?).getD es.length) then ((spareL es ws i).1, p + 1) else ((spareL es ws i).1 ++ [p], (spareL es ws i).2)
    | none => spareL es ws i
theorem bars_ends {es : List Ev} {i p q : Nat} (h1 : (bars es)[i]? = some p) (h2 : isB es q = true) (h : p < q) : ((bars es)[i + 1]?).getD es.length ≤ q := by
  have hp : isB es p = true := mem_bars.mp (List.mem_of_getElem? h1)
  have gq := bars_get h2
  have gp := bars_get hp
  have asc := List.pairwise_iff_getElem.mp (bars_asc es)
  obtain ⟨b1, e1⟩ := List.getElem?_eq_some_iff.mp h1
  obtain ⟨b2, e2⟩ := List.getElem?_eq_some_iff.mp gq
  have li : i < ahead es q := by
    rcases Nat.lt_trichotomy i (ahead es q) with c | c | c
    · exact c
    · subst c
      rw [h1] at gq
      have := Option.some.inj gq
      omega
    · have := asc _ _ b2 b1 c
      omega
  rw [List.getElem?_eq_getElem (show i + 1 < (bars es).length by omega), Option.getD_some]
  rcases Nat.lt_or_ge (i + 1) (ahead es q) with c | c
  · have := asc _ _ (show i + 1 < _ by omega) b2 c
    omega
  · have : (bars es)[i + 1] = (bars es)[ahead es q] := by
      congr 1
      omega
    omega
theorem bars_lt {es : List Ev} {i j p q : Nat} (h1 : (bars es)[i]? = some p) (h2 : (bars es)[j]? = some q) : i < j ↔ p < q := by
  have asc := List.pairwise_iff_getElem.mp (bars_asc es)
  obtain ⟨b1, e1⟩ := List.getElem?_eq_some_iff.mp h1
  obtain ⟨b2, e2⟩ := List.getElem?_eq_some_iff.mp h2
  constructor
  · intro h
    have := asc _ _ b1 b2 h
    omega
  · intro h
    rcases Nat.lt_trichotomy i j with c | c | c
    · exact c
    · subst c
      omega
    · have := asc _ _ b2 b1 c
      omega
theorem next_bar {es : List Ev} {i p q : Nat} (h1 : (bars es)[i]? = some p) (h2 : (bars es)[i + 1]? = some q) : p < q ∧ isB es q = true := ⟨(bars_lt h1 h2).mp (by omega), mem_bars.mp (List.mem_of_getElem? h2)⟩
/-- both tell the same; the last that stays is the greatest of those that stay -/
theorem spare_gone {es : List Ev} {ws : List (Nat × Nat)} (hw : ∀ w ∈ ws, WaitOk es w) : ∀ i, i ≤ (bars es).length → (spareL es ws i).1 = goneL es ws i ∧ keptB es ws (goneL es ws i) = true ∧ (∀ x ∈ goneL es ws i, ∃ j, j < i ∧ (bars es)[j]? = some x) ∧
    (∀ j x, j < i → (bars es)[j]? = some x → x ∉ goneL es ws i → x < (spareL es ws i).2) ∧ ((spareL es ws i).2 = 0 ∨ ∃ j x, j < i ∧ (bars es)[j]? = some x ∧ x ∉ goneL es ws i ∧ (spareL es ws i).2 = x + 1)
  | 0, _ => ⟨rfl, keptB_iff.mpr fun w m h => by
      obtain ⟨i, a, b, c⟩ := ahead_lt.mp h
      exact ⟨i, a, b, c, fun z => by cases z⟩, fun x h => (nomatch h), fun j x h => absurd h (Nat.not_lt_zero _), .inl rfl⟩
  | i + 1, hi => by
    obtain ⟨e1, e2, e3, e4, e5⟩ := spare_gone hw i (by omega)
    obtain ⟨p, hp⟩ : ∃ p, (bars es)[i]? = some p := ⟨_, List.getElem?_eq_getElem (show i < (bars es).length by omega)⟩
    have bp : isB es p = true := mem_bars.mp (List.mem_of_getElem? hp)
    have npg : p ∉ goneL es ws i := fun z => by
      obtain ⟨j, j1, j2⟩ := e3 p z
      have := (bars_lt j2 hp).mp j1
      omega
    have key : keptB es ws (goneL es ws i ++ [p]) = !stayB es ws (spareL es ws i).2 p (((bars es)[i + 1]?).getD es.length) := by
      rw [Bool.eq_iff_iff, keptB_iff, Bool.not_eq_true', ← Bool.not_eq_true]
      unfold stayB keptL
      rw [List.any_eq_true]
      constructor
      · rintro h ⟨w, hw', q⟩
        obtain ⟨hw1, hw2⟩ := List.mem_filter.mp hw'
        rw [decide_eq_true_eq] at hw2
        simp only [Bool.and_eq_true, decide_eq_true_eq] at q
        obtain ⟨q1, q2, q3, q4⟩ := q
        obtain ⟨x, x1, x2, x3, x4⟩ := h w hw1 hw2
        rw [List.mem_append, List.mem_singleton, not_or] at x4
        rcases Nat.lt_trichotomy x p with c | c | c
        · have gx := bars_get x3
          have := e4 _ x ((bars_lt gx hp).mpr c) gx x4.1
          omega
        · exact x4.2 c
        · have := bars_ends hp x3 c
          omega
      · intro h w hw1 hl
        obtain ⟨x, x1, x2, x3, x4⟩ := keptB_iff.mp e2 w hw1 hl
        by_cases exp : x = p
        · subst exp
          have ok := hw w hw1
          have nf := ok.fst
          have ns := ok.snd
          by_cases c1 : (spareL es ws i).2 ≤ w.1
          · -- the next barrier lies within
            have nw : w.1 ≠ x := fun z => by rw [z, bp] at nf; cases nf
            by_cases c2 : w.2 < ((bars es)[i + 1]?).getD es.length
            · refine absurd ⟨w, List.mem_filter.mpr ⟨hw1, decide_eq_true hl⟩, ?_⟩ h
              simp only [Bool.and_eq_true, decide_eq_true_eq]
              exact ⟨c1, by omega, x2, c2⟩
            · cases hn : (bars es)[i + 1]? with
              | none =>
                rw [hn, Option.getD_none] at c2
                have := ok.len
                omega
              | some y =>
                rw [hn, Option.getD_some] at c2
                obtain ⟨y1, y2⟩ := next_bar hp hn
                have ny : w.2 ≠ y := fun z => by rw [z, y2] at ns; cases ns
                refine ⟨y, by omega, by omega, y2, fun z => ?_⟩
                rcases List.mem_append.mp z with m | m
                · obtain ⟨j, j1, j2⟩ := e3 y m
                  have := (bars_lt j2 hp).mp j1
                  omega
                · have := List.mem_singleton.mp m
                  omega
          · rcases e5 with z | ⟨j, y, j1, j2, j3, j4⟩
            · omega
            · have yb := mem_bars.mp (List.mem_of_getElem? j2)
              have ylt := (bars_lt j2 hp).mp j1
              refine ⟨y, by omega, by omega, yb, fun z => ?_⟩
              rcases List.mem_append.mp z with m | m
              · exact j3 m
              · have := List.mem_singleton.mp m
                omega
        · exact ⟨x, x1, x2, x3, fun z => by
            rcases List.mem_append.mp z with m | m
            · exact x4 m
            · exact exp (List.mem_singleton.mp m)⟩
    have eg : goneL es ws (i + 1) = if keptB es ws (goneL es ws i ++ [p]) then goneL es ws i ++ [p] else goneL es ws i := by
      show (match (bars es)[i]? with | some p => _ | none => _) = _
      rw [hp]
    have es' : spareL es ws (i + 1) = if stayB es ws (spareL es ws i).2 p (((bars es)[i + 1]?).getD es.length) then ((spareL es ws i).1, p + 1) else ((spareL es ws i).1 ++ [p], (spareL es ws i).2) := by
      show (match (bars es)[i]? with | some p => _ | none => _) = _
      rw [hp]
    rw [eg, es', key]
    cases q : stayB es ws (spareL es ws i).2 p (((bars es)[i + 1]?).getD es.length) with
    | true =>
      simp only [Bool.not_true, if_true, Bool.false_eq_true, if_false]
      refine ⟨e1, e2, fun x hx => ?_, fun j x hj hx hn => ?_, .inr ⟨i, p, by omega, hp, npg, rfl⟩⟩
      · obtain ⟨j, j1, j2⟩ := e3 x hx
        exact ⟨j, by omega, j2⟩
      · by_cases c : j = i
        · subst c
          rw [hp] at hx
          cases hx
          omega
        · have := (bars_lt hx hp).mp (by omega)
          omega
    | false =>
      simp only [Bool.not_false, if_true, Bool.false_eq_true, if_false]
      refine ⟨by rw [e1], by rw [key, q]; rfl, fun x hx => ?_, fun j x hj hx hn => ?_, ?_⟩
      · rcases List.mem_append.mp hx with m | m
        · obtain ⟨j, j1, j2⟩ := e3 x m
          exact ⟨j, by omega, j2⟩
        · rw [List.mem_singleton.mp m]
          exact ⟨i, by omega, hp⟩
      · rw [List.mem_append, not_or] at hn
        by_cases c : j = i
        · subst c
          rw [hp] at hx
          cases hx
          exact absurd (List.mem_singleton.mpr rfl) hn.2
        · exact e4 j x (by omega) hx hn.1
      · rcases e5 with z | ⟨j, y, j1, j2, j3, j4⟩
        · exact .inl z
        · refine .inr ⟨j, y, by omega, j2, fun z => ?_, j4⟩
          rcases List.mem_append.mp z with m | m
          · exact j3 m
          · have h1 := (bars_lt j2 hp).mp j1
            have := List.mem_singleton.mp m
            omega
/-! who is served first -/
/-- the first place of a moment that serves -/
def firstAt (ms : List Nat) (w : Nat × Nat) : List Nat := ((List.range ms.length).filter fun i => decide (w.1 < ms.getD i 0) && decide (ms.getD i 0 ≤ w.2)).take 1
def servedBy (due : List (Nat × Nat)) (ms : List Nat) (i : Nat) : List Nat := (List.range due.length).filter fun k => decide (firstAt ms (due.getD k (0, 0)) = [i])
/-- as the law tells it: those served at a place, those served ahead of it -/
def ownDone (due : List (Nat × Nat)) (ms : List Nat) : Nat → List Nat
  | 0 => []
  | i + 1 => ownDone due ms i ++ (List.range due.length).filter fun k => !(ownDone due ms i).contains k && (decide ((due.getD k (0, 0)).1 < ms.getD i 0) && decide (ms.getD i 0 < (due.getD k (0, 0)).2 + 1))
def ownAt (due : List (Nat × Nat)) (ms : List Nat) (i : Nat) : List Nat := (List.range due.length).filter fun k => !(ownDone due ms i).contains k && (decide ((due.getD k (0, 0)).1 < ms.getD i 0) && decide (ms.getD i 0 < (due.getD k (0, 0)).2 + 1))
theorem take1_filter {n i : Nat} {f : Nat → Bool} : ((List.range n).filter f).take 1 = [i] ↔ i < n ∧ f i = true ∧ ∀ j, j < i → f j = false := by
  induction n with
  | zero => simp
  | succ n ih =>
    rw [List.range_succ, List.filter_append]
    cases h : (List.range n).filter f with
    | nil =>
      have hn : ∀ j, j < n → f j = false := fun j hj => by
        have := List.filter_eq_nil_iff.mp h j (List.mem_range.mpr hj)
        simpa using this
      rw [List.nil_append, List.filter_cons, List.filter_nil]
      by_cases q : f n = true
      · rw [if_pos q]
        constructor
        · intro e
          have e : [n] = [i] := e
          have : n = i := (List.cons.inj e).1
          subst this
          exact ⟨by omega, q, hn⟩
        · rintro ⟨h1, h2, h3⟩
          by_cases c : i = n
          · rw [c]; rfl
          · rw [hn i (by omega)] at h2
            cases h2
      · rw [if_neg q]
        constructor
        · intro e
          cases e
        · rintro ⟨h1, h2, h3⟩
          by_cases c : i = n
          · rw [c] at h2
            exact absurd h2 q
          · rw [hn i (by omega)] at h2
            cases h2
    | cons x r =>
      rw [h] at ih
      rw [List.cons_append, List.take_succ_cons, List.take_zero]
      rw [List.take_succ_cons, List.take_zero] at ih
      rw [ih]
      have hx : x < n ∧ f x = true := by
        have := List.mem_filter.mp (show x ∈ (List.range n).filter f by rw [h]; exact List.mem_cons_self)
        exact ⟨List.mem_range.mp this.1, this.2⟩
      constructor
      · rintro ⟨a, b, c⟩
        exact ⟨by omega, b, c⟩
      · rintro ⟨a, b, c⟩
        refine ⟨?_, b, c⟩
        rcases Nat.lt_or_ge i n with q | q
        · exact q
        · have := c x (by omega)
          rw [hx.2] at this
          cases this
theorem firstAt_iff {ms : List Nat} {w : Nat × Nat} {i : Nat} : firstAt ms w = [i] ↔ i < ms.length ∧ (w.1 < ms.getD i 0 ∧ ms.getD i 0 ≤ w.2) ∧ ∀ j, j < i → ¬ (w.1 < ms.getD j 0 ∧ ms.getD j 0 ≤ w.2) := by
  unfold firstAt
  rw [take1_filter]
  refine and_congr_right fun _ => and_congr (by simp) (forall_congr' fun j => imp_congr_right fun _ => ?_)
  rw [← Bool.not_eq_true]
  simp
theorem own_done {due : List (Nat × Nat)} {ms : List Nat} : ∀ {i : Nat}, i ≤ ms.length → ∀ k, k ∈ ownDone due ms i ↔ k < due.length ∧ ∃ j, j < i ∧ ((due.getD k (0, 0)).1 < ms.getD j 0 ∧ ms.getD j 0 ≤ (due.getD k (0, 0)).2)
  | 0, _, k => by
    constructor
    · intro h; cases h
    · rintro ⟨_, j, h, _⟩; omega
  | i + 1, hi, k => by
    show k ∈ ownDone due ms i ++ _ ↔ _
    rw [List.mem_append, own_done (by omega), List.mem_filter, List.mem_range]
    simp only [Bool.and_eq_true, Bool.not_eq_true', decide_eq_true_eq, ← Bool.not_eq_true, List.contains_iff_mem, own_done (show i ≤ ms.length by omega)]
    constructor
    · rintro (⟨h1, j, h2, h3⟩ | ⟨h1, _, h3, h4⟩)
      · exact ⟨h1, j, by omega, h3⟩
      · exact ⟨h1, i, by omega, h3, by omega⟩
    · rintro ⟨h1, j, h2, h3, h4⟩
      by_cases c : ∃ j, j < i ∧ ((due.getD k (0, 0)).1 < ms.getD j 0 ∧ ms.getD j 0 ≤ (due.getD k (0, 0)).2)
      · exact .inl ⟨h1, c⟩
      · have : j = i := by
          rcases Nat.lt_or_ge j i with q | q
          · exact absurd ⟨j, q, h3, h4⟩ c
          · omega
        subst this
        exact .inr ⟨h1, fun z => c z.2, h3, by omega⟩
theorem own_served {due : List (Nat × Nat)} {ms : List Nat} {i : Nat} (hi : i < ms.length) : ownAt due ms i = servedBy due ms i := by
  unfold ownAt servedBy
  refine List.filter_congr fun k hk => ?_
  have hk := List.mem_range.mp hk
  rw [Bool.eq_iff_iff, decide_eq_true_eq, firstAt_iff]
  simp only [Bool.and_eq_true, Bool.not_eq_true', decide_eq_true_eq, ← Bool.not_eq_true, List.contains_iff_mem, own_done (show i ≤ ms.length by omega)]
  constructor
  · rintro ⟨h1, h2, h3⟩
    refine ⟨hi, ⟨h2, by omega⟩, fun j hj z => h1 ⟨hk, j, hj, z⟩⟩
  · rintro ⟨_, ⟨h2, h3⟩, h4⟩
    exact ⟨fun ⟨_, j, hj, z⟩ => h4 j hj z, h2, by omega⟩
end K19
set_option Elab.async false
set_option linter.all false
set_option maxRecDepth 100000
set_option maxHeartbeats 4000000
/-! Set comprehensions of any members, of one clause or two: the loop of a clause once and for all. -/
namespace KB
open PySem PySem.Spec PyProof.Rows L2
/-- no error leaves -/
abbrev F0 : Value → Shared → Prop := fun _ _ => False
/-- the tests of a clause -/
abbrev tests (ifs : List Expr) (env : Env) : Sem Bool := forIn ifs true fun q r => if r = true then (do let b ← isTrue q env (eval q env); pure (ForInStep.yield b)) else pure (ForInStep.yield r)
/-- the loop c of a clause over it, the rest of a turn being B -/
structure Cl (P : Program) (w : World) (A : Around) (c : Code) (it : Value) (tg : Expr) (env : Env) (ifs : List Expr) (B : (Shared → Prop) → Shared → Prop) : Prop where
  quiet : c.quiet = true
  mono : ∀ (N N' : Shared → Prop) (s : Shared), (∀ s', N s' → N' s') → B N s → B N' s
  den : ∀ (Q : PySem.Fin → Shared → Prop) (E : Value → Shared → Prop) (s : Shared), wpAny (model P w) A (pyNext it) (fun r s1 => match r with
      | none => Q (.done .next) s1
      | some v => wpAny (model P w) A (letOwnedTupleGo tg it v) (fun _ s2 => wpAny (model P w) A (assign tg env v) (fun _ s3 => wpAny (model P w) A (tests ifs env) (fun b s4 =>
          if b = true then B (fun s5 => Q (.again c) s5) s4 else Q (.again c) s4) F0 s3) F0 s2) F0 s1) F0 s → wpAny (model P w) (A.under c) ((model P w).den c) Q E s
/-- what of the slots is known stays known, but for those of vs -/
def Kp (vs : List Nat) (σ σ' : L2.St) : Prop := σ'.length = σ.length ∧ ∀ (j : Nat) (v : V), (wipe σ vs)[j]? = some (some v) → σ'[j]? = some (some v)
theorem Kp.refl (vs : List Nat) (σ : L2.St) : Kp vs σ σ := ⟨rfl, fun _ _ e => (wipe_some e).1⟩
theorem Kp.wipe {vs vs1 : List Nat} (h : ∀ i ∈ vs1, i ∈ vs) (σ : L2.St) : Kp vs σ (wipe σ vs1) := ⟨wipe_length _ _, fun j v e => by
  obtain ⟨e1, e2⟩ := wipe_some e
  rw [wipe_out fun z => e2 (h j z)]
  exact e1⟩
/-- the turns of a clause; tb: the rest of a turn, by what has to hold behind it -/
def tCl (g : TG) (tt : TT) (tb : L2.St → Hp → (Hp → Prop) → Prop) (vs : List Nat) (σ : L2.St) (Z : Hp → Prop) (J : It) (H : Hp) : Prop :=
  ∃ W : Nat → Nat → Hp → Prop, (∃ m, W 0 m H) ∧ ∀ i m G, W i m G → (J.stop i G ∧ Z G) ∨ (J.go i G ∧ ∃ N : Hp → Prop, (∀ G', N G' → ∃ m', m' < m ∧ W (i + 1) m' G') ∧
    ∀ x G', J.yld i G x G' → g x (wipe σ vs) G' fun σ2 H2 => wipe σ2 vs = wipe σ vs ∧ tt σ2 H2 fun b H3 => if b = true then tb σ2 H3 N else N H3)
section
variable {X : Cx} {c : Code} {it : Addr} {tg : Expr} {ifs : List Expr} {B : (Shared → Prop) → Shared → Prop} {J : It} {fp : List Addr} {tn : Nat → Heap → Prop} {g : TG} {tt : TT}
  {tb : L2.St → Hp → (Hp → Prop) → Prop} {vs : List Nat} {pins : List (Addr × Obj)} {σ : L2.St} {H : Hp} {s : Shared} {Z : Hp → Prop} {R : Result → Shared → Prop}
theorem cl_run (hc : X.calm = true) (hx : X.xe = F0) (L : Cl X.prog X.w X.A c (.ref it) tg X.env ifs B) (T : Turn X.prog X.w X.K tg J fp it tn) (pg : PG X tg g) (pt : PTs X ifs tt)
    (pb : ∀ (pl : List (Addr × Obj)) (s1 : Shared) (τ : L2.St) (G : Hp) (N : Hp → Prop), Inv X pl τ G s1 → (∀ b ∈ pl, b ∈ pins ∨ b.1 ∈ fp) → tb τ G N → B (fun s2 => ∃ τ' G', Inv X pl τ' G' s2 ∧ Kp vs τ τ' ∧ N G') s1)
    (I : Inv X pins (wipe σ vs) H s) (fr : ∀ b ∈ fp, FpOk X pins H b) (t0 : tn 0 s.heap) (q : tCl g tt tb vs σ Z J H) (k : ∀ s' G, Inv X pins (wipe σ vs) G s' → (∀ b ∈ fp, G b = none) → Z G → R (.ok .next) s') :
    codeAny (model X.prog X.w) X.A c R s := by
  obtain ⟨W, ⟨m0, w0⟩, turn⟩ := q
  refine codeAny_loop L.quiet (fun n u => ∃ i G, Inv X pins (wipe σ vs) G u ∧ tn i u.heap ∧ (∀ b ∈ fp, G b = none) ∧ W i n G) ?_ m0 ⟨0, H, I, t0, fun b hb => (fr b hb).1, w0⟩
  rintro n s1 ⟨i, G, I1, t1, n1, w1⟩
  refine L.den _ _ _ ?_
  have ok1 : ∀ b ∈ fp, FpOk X pins G b := fun b hb => ⟨n1 b hb, (fr b hb).2⟩
  rcases turn i n G w1 with ⟨stp, z⟩ | ⟨go, N, hN, step⟩
  · refine thnF (T.done X rfl rfl rfl hc i pins s1 _ G F0 I1 ok1 t1 stp) fun r s2 ⟨er, I2⟩ => ?_
    subst er
    exact k _ _ I2 n1 z
  · refine thnF (T.item X rfl rfl rfl hc i pins s1 _ G F0 I1 ok1 t1 go) fun r s2 ⟨u, er, h2⟩ => ?_
    subst er
    refine thnF h2 fun _ s3 ⟨x, G3, I3, r3, y3, t3, n3⟩ => ?_
    have J3 := I3.pinned (fun b hb => ⟨n3 b hb, (fr b hb).2⟩) (T.obj _ _ t3)
    have a1 := pg.run _ s3 _ G3 x u _ J3 r3 (step x G3 y3)
    rw [hx] at a1
    refine thnF a1 fun _ s4 ⟨τ, G4, I4, ew, q4⟩ => ?_
    have a2 := pt.run _ s4 τ G4 _ I4 q4
    rw [hx] at a2
    refine thnF a2 fun ok s5 ⟨G5, I5, q5⟩ => ?_
    have fin : ∀ (τ' : L2.St) (G' : Hp) (s' : Shared), Inv X (pins ++ pinsAt fp s3.heap) τ' G' s' → Kp vs τ τ' → N G' → ∃ m, m < n ∧ ∃ i G, Inv X pins (wipe σ vs) G s' ∧ tn i s'.heap ∧ (∀ b ∈ fp, G b = none) ∧ W i m G := fun τ' G' s' I' kp nx => by
      obtain ⟨m', hm, w'⟩ := hN G' nx
      have at_ : ∀ b ∈ fp, ∀ o, s3.heap.get? b = some o → s'.heap.get? b = some o ∧ G' b = none := fun b hb o e => by
        have z := I'.pin (b, o) (List.mem_append_right _ (List.mem_append_right _ (mem_pinsAt hb e)))
        exact ⟨z.1, z.2.1⟩
      refine ⟨m', hm, i + 1, G', I'.unpinned.weak ?_ (fun j v e => kp.2 j v (by rw [ew]; exact e)), T.keep _ _ _ t3 fun b hb o e => (at_ b hb o e).1, fun b hb => ?_, w'⟩
      · rw [kp.1, ← wipe_length τ vs, ew]
      · obtain ⟨o, e, _⟩ := T.obj _ _ t3 b hb
        exact (at_ b hb o e).2
    cases ok with
    | false => exact ⟨rfl, fin _ _ _ I5 (Kp.refl _ _) q5⟩
    | true =>
      have mem : ∀ b ∈ pins ++ pinsAt fp s3.heap, b ∈ pins ∨ b.1 ∈ fp := fun b hb => by
        rcases List.mem_append.mp hb with z | z
        · exact .inl z
        · refine .inr ?_
          obtain ⟨a, ha, e⟩ := List.mem_filterMap.mp z
          obtain ⟨o, _, rfl⟩ := Option.map_eq_some_iff.mp e
          exact ha
      refine L.mono _ _ _ (fun s6 ⟨τ', G6, I6, kp, nx⟩ => ?_) (pb _ s5 τ G5 N I5 mem q5)
      exact ⟨rfl, fin _ _ _ I6 kp nx⟩
end
end KB
set_option Elab.async false
set_option linter.all false
set_option maxRecDepth 100000
set_option maxHeartbeats 4000000
namespace KB
open PySem PySem.Spec PyProof.Rows L2
abbrev sc1 (elt t0 i0 : Expr) (if0 : List Expr) (scope : Scope) (pos : Pos) : Expr := .SetComp elt [⟨t0, i0, if0, 0⟩] scope pos
abbrev sc2 (elt t0 i0 t1 i1 : Expr) (if0 if1 : List Expr) (scope : Scope) (pos : Pos) : Expr := .SetComp elt [⟨t0, i0, if0, 0⟩, ⟨t1, i1, if1, 0⟩] scope pos
section
variable {P : Program} {w : World} {A : Around} {env : Env} {elt t0 i0 t1 i1 : Expr} {if0 if1 : List Expr} {scope : Scope} {pos : Pos} {it acc : Value}
theorem turn1 : compTurn (sc1 elt t0 i0 if0 scope pos) 0 it acc env = (do
      standAt i0.pos
      match ← pyNext it with
      | none => pure (.done .next)
      | some u =>
        letOwnedTupleGo t0 it u
        assign t0 env u
        let mut b := true
        for q in if0 do
          if b then b ← isTrue q env (eval q env)
        if b then
          (do let y ← eval elt env; standAt elt.pos; let _ ← call (.builtin "set.add") [acc, y])
        again (.compLoop (sc1 elt t0 i0 if0 scope pos) 0 it acc env)) := by rfl
theorem turn2i : compTurn (sc2 elt t0 i0 t1 i1 if0 if1 scope pos) 1 it acc env = (do
      standAt i1.pos
      match ← pyNext it with
      | none => pure (.done .next)
      | some u =>
        letOwnedTupleGo t1 it u
        assign t1 env u
        let mut b := true
        for q in if1 do
          if b then b ← isTrue q env (eval q env)
        if b then
          (do let y ← eval elt env; standAt elt.pos; let _ ← call (.builtin "set.add") [acc, y])
        again (.compLoop (sc2 elt t0 i0 t1 i1 if0 if1 scope pos) 1 it acc env)) := by rfl
theorem turn2o : compTurn (sc2 elt t0 i0 t1 i1 if0 if1 scope pos) 0 it acc env = (do
      standAt i0.pos
      match ← pyNext it with
      | none => pure (.done .next)
      | some u =>
        letOwnedTupleGo t0 it u
        assign t0 env u
        let mut b := true
        for q in if0 do
          if b then b ← isTrue q env (eval q env)
        if b then
          let y ← eval i1 env
          standAt i1.pos
          let y ← foldedSetIterable i1 env y
          let _ ← runOwn (.compStart (sc2 elt t0 i0 t1 i1 if0 if1 scope pos) 1 (← holding [y] (pyIter y)) acc env) env
        again (.compLoop (sc2 elt t0 i0 t1 i1 if0 if1 scope pos) 0 it acc env)) := by rfl
/-- a member is made and put in -/
def bAdd (P : Program) (w : World) (A : Around) (elt : Expr) (env : Env) (acc : Value) : (Shared → Prop) → Shared → Prop := fun N s =>
  wpAny (model P w) A (eval elt env) (fun y s1 => wpAny (model P w) A (call (.builtin "set.add") [acc, y]) (fun _ s2 => N s2) F0 s1) F0 s
theorem noF {α : Type} {t : Sem α} {Q : α → Shared → Prop} {M : Model} {E : Value → Shared → Prop} {s : Shared} (h : wpAny M A t Q F0 s) : wpAny M A t Q E s := wpAny_mono h (fun _ _ x => x) fun _ _ z => z.elim
theorem bAdd_mono (N N' : Shared → Prop) (s : Shared) (h : ∀ s', N s' → N' s') (b : bAdd P w A elt env acc N s) : bAdd P w A elt env acc N' s :=
  wpAny_mono b (fun _ _ x => wpAny_mono x (fun _ s' z => h s' z) fun _ _ z => z) fun _ _ z => z
theorem cl_add1 : Cl P w A (.compLoop (sc1 elt t0 i0 if0 scope pos) 0 it acc env) it t0 env if0 (bAdd P w A elt env acc) := by
  refine ⟨rfl, bAdd_mono, fun Q E s h => ?_⟩
  show wpAny _ A ((compTurn (sc1 elt t0 i0 if0 scope pos) 0 it acc env).onRaise _) _ _ s
  refine wpAny_noted ?_
  rw [turn1]
  refine wpAny_bind (wpAny_standAt (wpAny_bind (noF (wpAny_mono h (fun r s1 h1 => ?_) fun _ _ z => z))))
  cases r with
  | none => exact wpAny_pure h1
  | some u =>
    refine wpAny_bind (noF (wpAny_mono h1 (fun _ s2 h2 => wpAny_bind (noF (wpAny_mono h2 (fun _ s3 h3 => wpAny_bind (noF (wpAny_mono h3 (fun b s4 h4 => ?_) fun _ _ z => z))) fun _ _ z => z))) fun _ _ z => z))
    cases b with
    | false => exact wpAny_pure h4
    | true => exact wpAny_bind (wpAny_bind (noF (wpAny_mono h4 (fun y s5 h5 => wpAny_bind (wpAny_standAt (wpAny_bind (noF (wpAny_mono h5 (fun _ s6 h6 => wpAny_pure (wpAny_pure h6)) fun _ _ z => z))))) fun _ _ z => z)))
theorem cl_add2 : Cl P w A (.compLoop (sc2 elt t0 i0 t1 i1 if0 if1 scope pos) 1 it acc env) it t1 env if1 (bAdd P w A elt env acc) := by
  refine ⟨rfl, bAdd_mono, fun Q E s h => ?_⟩
  show wpAny _ A ((compTurn (sc2 elt t0 i0 t1 i1 if0 if1 scope pos) 1 it acc env).onRaise _) _ _ s
  refine wpAny_noted ?_
  rw [turn2i]
  refine wpAny_bind (wpAny_standAt (wpAny_bind (noF (wpAny_mono h (fun r s1 h1 => ?_) fun _ _ z => z))))
  cases r with
  | none => exact wpAny_pure h1
  | some u =>
    refine wpAny_bind (noF (wpAny_mono h1 (fun _ s2 h2 => wpAny_bind (noF (wpAny_mono h2 (fun _ s3 h3 => wpAny_bind (noF (wpAny_mono h3 (fun b s4 h4 => ?_) fun _ _ z => z))) fun _ _ z => z))) fun _ _ z => z))
    cases b with
    | false => exact wpAny_pure h4
    | true => exact wpAny_bind (wpAny_bind (noF (wpAny_mono h4 (fun y s5 h5 => wpAny_bind (wpAny_standAt (wpAny_bind (noF (wpAny_mono h5 (fun _ s6 h6 => wpAny_pure (wpAny_pure h6)) fun _ _ z => z))))) fun _ _ z => z)))
/-- the second clause is run -/
def bIn (P : Program) (w : World) (A : Around) (e i1 : Expr) (env : Env) (acc : Value) : (Shared → Prop) → Shared → Prop := fun N s =>
  wpAny (model P w) A (eval i1 env) (fun y s1 => wpAny (model P w) A (pyIter y) (fun j s2 => codeAny (model P w) A (.compStart e 1 j acc env) (fun r s' => match r with
    | .ok _ => N s'
    | .error _ => False) s2) F0 s1) F0 s
theorem bIn_mono {e : Expr} (N N' : Shared → Prop) (s : Shared) (h : ∀ s', N s' → N' s') (b : bIn P w A e i1 env acc N s) : bIn P w A e i1 env acc N' s :=
  wpAny_mono b (fun _ _ x => wpAny_mono x (fun _ _ y => codeAny_mono y fun r s' z => match r, z with
    | .ok _, z => h s' z
    | .error _, z => z) fun _ _ z => z) fun _ _ z => z
theorem cl_in (hs : ∀ x, foldedSetIterable i1 env x = pure x) : Cl P w A (.compLoop (sc2 elt t0 i0 t1 i1 if0 if1 scope pos) 0 it acc env) it t0 env if0 (bIn P w A (sc2 elt t0 i0 t1 i1 if0 if1 scope pos) i1 env acc) := by
  refine ⟨rfl, bIn_mono, fun Q E s h => ?_⟩
  show wpAny _ A ((compTurn (sc2 elt t0 i0 t1 i1 if0 if1 scope pos) 0 it acc env).onRaise _) _ _ s
  refine wpAny_noted ?_
  rw [turn2o]
  refine wpAny_bind (wpAny_standAt (wpAny_bind (noF (wpAny_mono h (fun r s1 h1 => ?_) fun _ _ z => z))))
  cases r with
  | none => exact wpAny_pure h1
  | some u =>
    refine wpAny_bind (noF (wpAny_mono h1 (fun _ s2 h2 => wpAny_bind (noF (wpAny_mono h2 (fun _ s3 h3 => wpAny_bind (noF (wpAny_mono h3 (fun b s4 h4 => ?_) fun _ _ z => z))) fun _ _ z => z))) fun _ _ z => z))
    cases b with
    | false => exact wpAny_pure h4
    | true =>
      refine wpAny_bind (noF (wpAny_mono h4 (fun y s5 h5 => ?_) fun _ _ z => z))
      refine wpAny_bind (wpAny_standAt (wpAny_bind (wpAny_of_eq (hs y) (wpAny_bind (wpAny_holding (noF (wpAny_mono h5 (fun j s6 h6 => ?_) fun _ _ z => z)))))))
      refine wpAny_bind (wpAny_runOwn ?_)
      rw [Around.mark_none]
      refine codeAny_mono h6 fun r s7 z => ?_
      cases r with
      | ok f => first
        | exact wpAny_pure z
        | exact wpAny_bind (wpAny_pure (wpAny_pure z))
      | error e => exact z.elim
theorem start2 {R : Result → Shared → Prop} {s : Shared} (h0 : codeAny (model P w) A (.compLoop (sc2 elt t0 i0 t1 i1 if0 if1 scope pos) 1 it acc env) R s)
    (h : wpAny (model P w) A (pyIter it) (fun j s' => codeAny (model P w) A (.compLoop (sc2 elt t0 i0 t1 i1 if0 if1 scope pos) 1 j acc env) R s') F0 s) :
    codeAny (model P w) A (.compStart (sc2 elt t0 i0 t1 i1 if0 if1 scope pos) 1 it acc env) R s := by
  refine codeAny_of_tree ?_
  show wpAny _ _ ((compStart (sc2 elt t0 i0 t1 i1 if0 if1 scope pos) 1 it acc env).onRaise _) _ _ s
  refine wpAny_notedAt ?_
  unfold compStart
  show wpAny _ _ (ask >>= _) _ _ s
  refine wpAny_bind (wpAny_askSetting (wpAny_ite ?_))
  split
  · first
      | exact wpAny_bind (wpAny_pure (wpAny_pure ⟨rfl, h0⟩))
      | exact wpAny_pure ⟨rfl, h0⟩
  · refine wpAny_bind (wpAny_rule ?_)
    show wpAny _ _ (standAt i1.pos >>= _) _ _ s
    exact wpAny_bind (wpAny_standAt (wpAny_bind (noF (wpAny_mono h (fun j s' h' => wpAny_pure ⟨rfl, h'⟩) fun _ _ z => z))))
end
end KB
set_option Elab.async false
set_option linter.all false
set_option maxRecDepth 100000
set_option maxHeartbeats 4000000
namespace KB
open PySem PySem.Spec PyProof.Rows L2
/-- the set's methods: what add asks and does -/
abbrev AddR := V → List V → Hp → VK → Prop
/-- a member is made, and put into the set at D -/
def tAdd (r : AddR) (te : TE) (D : Addr) : L2.St → Hp → (Hp → Prop) → Prop := fun τ G N => te τ G fun y G1 => r (.ref D) [y] G1 fun _ G2 => N G2
/-- the second clause -/
def tInn (r : AddR) (wi1 : TI) (g1 : TG) (tt1 : TT) (te : TE) (vs1 : List Nat) (D : Addr) : L2.St → Hp → (Hp → Prop) → Prop := fun τ G N => wi1 τ G fun J1 G1 => tCl g1 tt1 (tAdd r te D) vs1 τ N J1 G1
/-- {elt for t0 in i0 if ..}, D the new set -/
def tSc1 (O0 : Addr → HO) (r : AddR) (wi : TI) (g : TG) (tt : TT) (te : TE) (vs : List Nat) : TE := fun σ H Q => wi σ H fun J H1 => ∀ D, H1 D = none → tCl g tt (tAdd r te D) vs σ (fun G => Q (.ref D) G) J (upd H1 D (O0 D))
/-- {elt for t0 in i0 if .. for t1 in i1 if ..} -/
def tSc2 (O0 : Addr → HO) (r : AddR) (wi : TI) (g : TG) (tt : TT) (wi1 : TI) (g1 : TG) (tt1 : TT) (te : TE) (vs vs1 : List Nat) : TE := fun σ H Q =>
  wi σ H fun J H1 => ∀ D, H1 D = none → tCl g tt (tInn r wi1 g1 tt1 te vs1 D) vs σ (fun G => Q (.ref D) G) J (upd H1 D (O0 D))
abbrev freshSet (w : World) : Obj := { cls := .type "set", dict := none, data := .set #[] 0 (.fresh 0 0 (!w.params.followText "set-order")) }
theorem ev_sc (elt : Expr) (gs : List Comprehension) (scope : Scope) (pos : Pos) (env : Env) : eval (.SetComp elt gs scope pos) env = comprehension (.SetComp elt gs scope pos) scope env (firstIterPos gs pos) (newSet (.type "set")) (firstAsync gs) (firstIter gs env) := rfl
section
variable {X : Cx} {O0 : Addr → HO} {r : AddR} {elt t0 i0 t1 i1 : Expr} {if0 if1 : List Expr} {scope : Scope} {own : List (Str × Nat)} {vs1 : List Nat} {pos : Pos} {wi wi1 : TI} {g g1 : TG} {tt tt1 : TT} {te : TE}
/-- what stands in the block, in its context -/
abbrev InBlk (X : Cx) (scope : Scope) (p : Cx → Prop) : Prop := ∀ (s : Shared) (H : Hp) (C : Addr) (cl : List (Str × Addr)) (fp : List Addr), p (X.blk s H scope (compEnvC scope cl C X.env) fp)
/-- put in: the rest of a turn -/
theorem add_ok {Y : Cx} {D : Addr} {vs : List Nat} (hx : Y.xe = F0) (he : PE Y elt te) (ha : MtR Y "set.add" r) (pl : List (Addr × Obj)) (s : Shared) (τ : L2.St) (G : Hp) (N : Hp → Prop) (I : Inv Y pl τ G s) (q : tAdd r te D τ G N) :
    bAdd Y.prog Y.w Y.A elt Y.env (.ref D) (fun s2 => ∃ τ' G', Inv Y pl τ' G' s2 ∧ Kp vs τ τ' ∧ N G') s := by
  have a1 := he.run pl s τ G _ I q
  rw [hx] at a1
  refine wpAny_mono a1 (fun u s1 ⟨y, G1, I1, r1, q1⟩ => ?_) fun _ _ z => z
  have a2 := ha pl s1 τ G1 (.ref D) [y] (.ref D) [u] _ I1 rfl (.cons r1 .nil) q1
  rw [hx] at a2
  exact wpAny_mono a2 (fun _ s2 ⟨z, G2, I2, r2, q2⟩ => ⟨τ, G2, I2, Kp.refl _ _, q2⟩) fun _ _ z => z
/-- the second clause: the rest of a turn of the first -/
theorem inn_ok {Y : Cx} {D : Addr} {vs : List Nat} (hc : Y.calm = true) (hx : Y.xe = F0) (hv : ∀ i ∈ vs1, i ∈ vs) (hi1 : PI Y t1 i1 wi1) (hg1 : PG Y t1 g1) (ht1 : PTs Y if1 tt1) (he : PE Y elt te) (ha : MtR Y "set.add" r)
    (pl : List (Addr × Obj)) (s : Shared) (τ : L2.St) (G : Hp) (N : Hp → Prop) (I : Inv Y pl τ G s) (q : tInn r wi1 g1 tt1 te vs1 D τ G N) :
    bIn Y.prog Y.w Y.A (sc2 elt t0 i0 t1 i1 if0 if1 scope pos) i1 Y.env (.ref D) (fun s2 => ∃ τ' G', Inv Y pl τ' G' s2 ∧ Kp vs τ τ' ∧ N G') s := by
  have a1 := hi1.run pl s τ G _ I q
  rw [hx] at a1
  refine wpAny_mono a1 (fun u s1 a2 => wpAny_mono a2 (fun j s2 h2 => ?_) fun _ _ z => z) fun _ _ z => z
  obtain ⟨it, fp, tn, J, G1, e, I1, T, st, fr, q1⟩ := h2
  subst e
  have run := cl_run (R := fun rr s' => match rr with
      | .ok _ => ∃ τ' G', Inv Y pl τ' G' s' ∧ Kp vs τ τ' ∧ N G'
      | .error _ => False) hc hx (cl_add2 (elt := elt) (t0 := t0) (i0 := i0) (i1 := i1) (if0 := if0) (scope := scope) (pos := pos) (acc := .ref D)) T hg1 ht1
    (fun pl' s' τ' G' N' I' _ q' => add_ok (vs := vs1) hx he ha pl' s' τ' G' N' I' q') (I1.weak (wipe_length _ _) fun i v e => (wipe_some e).1) fr st q1
    fun s' G' I' _ z => ⟨_, G', I', Kp.wipe hv τ, z⟩
  exact start2 run (T.self Y.A 0 _ _ _ st run)
/-- from the block's loop to the def's context -/
theorem blk_ok {e : Expr} (hcl : ∃ gs, e = .SetComp elt (⟨t0, i0, if0, 0⟩ :: gs) scope pos) (hN : X.N.Nodup) (hi : PI X t0 i0 wi) (ok : BlkOk X.N X.env.scope scope own)
    (new : ∀ (H : Hp) (h : Heap), ObjOk X.prog X.w H (h.push (freshSet X.w)) h.objs.size (O0 h.objs.size)) {tb : Addr → L2.St → Hp → (Hp → Prop) → Prop}
    (loop : ∀ (s : Shared) (H : Hp) (C : Addr) (cl : List (Str × Addr)) (fp : List Addr) (it : Addr) (tn : Nat → Heap → Prop) (J : It) (D : Addr) (σ : L2.St) (s1 : Shared) (Z : Hp → Prop) (R : Result → Shared → Prop),
      Inv (X.blk s H scope (compEnvC scope cl C X.env) fp) [] (wipe σ (own.map (·.2))) H s1 → Turn X.prog X.w X.K t0 J fp it tn → (∀ b ∈ fp, FpOk (X.blk s H scope (compEnvC scope cl C X.env) fp) [] H b) → tn 0 s1.heap → tCl g tt (tb D) (own.map (·.2)) σ Z J H →
      (∀ s' G, Inv (X.blk s H scope (compEnvC scope cl C X.env) fp) [] (wipe σ (own.map (·.2))) G s' → Z G → R (.ok .next) s') → codeAny (model X.prog X.w) X.A (.compLoop e 0 (.ref it) (.ref D) (compEnvC scope cl C X.env)) R s1)
    (hs : ∀ x, foldedSetIterable i0 X.env x = pure x) : PE X e (fun σ H Q => wi σ H fun J H1 => ∀ D, H1 D = none → tCl g tt (tb D) (own.map (·.2)) σ (fun G => Q (.ref D) G) J (upd H1 D (O0 D))) := by
  obtain ⟨gs, rfl⟩ := hcl
  refine ⟨fun pins s σ H Q I h => ?_⟩
  rw [ev_sc]
  have hfree : ∀ y ∈ scope.names, y.2 = .free → ∃ c, X.env.cells.lookup y.1 = some c := fun y hy e => I.ok.has _ (ok.free y hy e)
  refine wpAny_comprehension_free (use := none) rfl hs (closure_ok hfree) ok.kind (fun y hy e => by rw [ok.uniq y hy, e]) (thn (hi.run pins s σ H _ I h) fun xv s1 hx => thn hx fun itv s2 h2 => ?_)
  obtain ⟨it, fp, tn, J, H2, e, I2, T, st, fr, q⟩ := h2
  subst e
  refine PpSet.newSet_ok (newEnv_comp ?_)
  have hDn : H2 s2.heap.objs.size = none := I2.hok.fresh (Nat.le_refl _)
  have q0 := q _ hDn
  generalize hD : s2.heap.objs.size = D at hDn q0
  have I3 : Inv X pins σ (upd H2 D (O0 D)) { s2 with heap := s2.heap.push (freshSet X.w) } :=
    I2.laid (t' := s2.toks) (fun b o e => Heap.get?_push_of_some _ e) (Nat.le_of_eq hD) (hD ▸ new _ _)
  generalize h3 : ({ s2 with heap := s2.heap.push (freshSet X.w) } : Shared) = s3 at I3
  have e3 : s3.heap = s2.heap.push (freshSet X.w) := by rw [← h3]
  have lt : ∀ b ∈ fp, b < s2.heap.objs.size := fun b hb => by
    obtain ⟨o, e, _⟩ := T.obj _ _ st b hb
    exact Heap.lt_size e
  have fr3 : ∀ b ∈ fp, FpOk X pins (upd H2 D (O0 D)) b ∧ b < s3.heap.objs.size := fun b hb => by
    have l := lt b hb
    refine ⟨⟨?_, (fr b hb).2⟩, by rw [e3, Heap.size_push]; exact Nat.lt_succ_of_lt l⟩
    rw [upd_ne (by rw [← hD]; exact Nat.ne_of_lt l)]
    exact (fr b hb).1
  have st3 : tn 0 s3.heap := T.keep _ _ _ st fun b _ o e => by rw [e3]; exact Heap.get?_push_of_some _ e
  have I4 := block_start I3 ok hN fr3
  have st4 : tn 0 (pushCells (s3.heap.push { cls := .type "dict", data := .dict #[] }) scope.names) := T.keep _ _ _ st3 fun b _ o e => pushCells_keeps _ _ _ _ (Heap.get?_push_of_some _ e)
  have fr4 : ∀ b ∈ fp, FpOk (X.blk s3 (upd H2 D (O0 D)) scope (compEnvC scope (cellsFrom (s3.heap.objs.size + 1) scope.names (cloFrom X.env.cells scope.names [])) s3.heap.objs.size X.env) fp) [] (upd H2 D (O0 D)) b := fun b hb =>
    ⟨(fr3 b hb).1.1, (I4.ok.exf b hb).1, I4.ok.exfs b hb, .inl hb, fun x c e => (I4.ok.exf b hb).2 x c e, fun p hp => absurd (show p ∈ ([] : List (Addr × Obj)) ++ [] from hp) (by simp)⟩
  have run := loop s3 (upd H2 D (O0 D)) _ _ fp it tn J D σ _ _ (compPost (model X.prog X.w) X.A X.xe none (EP X pins σ Q) (.ref D) s3.heap.objs.size) I4 T fr4 st4 q0 fun s' G I' z => by
    have I7 : Inv X pins σ G s' := I3.call' (ch := fp) I'.os I'.base I'.hok I'.bare fun b hb => ⟨(fr3 b hb).1.2.2.2.1, (fr3 b hb).1.2.1, (fr3 b hb).1.2.2.2.2.1, (fr3 b hb).1.2.2.2.2.2⟩
    have nC : G s3.heap.objs.size = none := I'.free
    obtain ⟨m, hm, _⟩ := I'.loc
    obtain ⟨f0, f1, f2, f3, f4, f5⟩ := I3.fpOk (Nat.le_refl _) nC
    exact ⟨m, hm, fun h' sb => ⟨.ref D, G, I7.turned (t' := s'.toks) (fun b o hb e => (sb.2 b hb).trans e) f0 f1 f3 f4 f5, rfl, z⟩⟩
  have fin := PpSet.codeAny_compStart_set run (T.self X.A 0 _ _ _ st4 run)
  subst h3
  subst hD
  exact fin
end
end KB
set_option Elab.async false
set_option linter.all false
set_option maxRecDepth 100000
set_option maxHeartbeats 4000000
namespace KB
open PySem PySem.Spec PyProof.Rows L2
section
variable {X : Cx} {O0 : Addr → HO} {r : AddR} {elt t0 i0 t1 i1 : Expr} {if0 if1 : List Expr} {scope : Scope} {own : List (Str × Nat)} {vs1 : List Nat} {pos : Pos} {wi wi1 : TI} {g g1 : TG} {tt tt1 : TT} {te : TE}
theorem pe_sc1R (hc : X.calm = true) (hN : X.N.Nodup) (hi : PI X t0 i0 wi) (ok : BlkOk X.N X.env.scope scope own) (hg : ∀ (s : Shared) (H : Hp) (C : Addr) (cl : List (Str × Addr)) (fp : List Addr), PG (X.blk s H scope (compEnvC scope cl C X.env) fp) t0 g) (ht : ∀ (s : Shared) (H : Hp) (C : Addr) (cl : List (Str × Addr)) (fp : List Addr), PTs (X.blk s H scope (compEnvC scope cl C X.env) fp) if0 tt) (he : ∀ (s : Shared) (H : Hp) (C : Addr) (cl : List (Str × Addr)) (fp : List Addr), PE (X.blk s H scope (compEnvC scope cl C X.env) fp) elt te)
    (new : ∀ (H : Hp) (h : Heap), ObjOk X.prog X.w H (h.push (freshSet X.w)) h.objs.size (O0 h.objs.size)) (ha : ∀ (s : Shared) (H : Hp) (C : Addr) (cl : List (Str × Addr)) (fp : List Addr), MtR (X.blk s H scope (compEnvC scope cl C X.env) fp) "set.add" r) (hs : ∀ x, foldedSetIterable i0 X.env x = pure x := by intro _; rfl) :
    PE X (sc1 elt t0 i0 if0 scope pos) (tSc1 O0 r wi g tt te (own.map (·.2))) :=
  blk_ok (tb := fun D => tAdd r te D) ⟨_, rfl⟩ hN hi ok new (fun s H C cl fp it tn J D σ s1 Z R I T fr st q k =>
    cl_run (X := X.blk s H scope (compEnvC scope cl C X.env) fp) hc rfl (cl_add1 (elt := elt) (i0 := i0) (scope := scope) (pos := pos) (acc := .ref D)) T (hg s H C cl fp) (ht s H C cl fp)
      (fun pl s' τ G N I' _ q' => add_ok (Y := X.blk s H scope (compEnvC scope cl C X.env) fp) rfl (he s H C cl fp) (ha s H C cl fp) pl s' τ G N I' q') I fr st q fun s' G I' _ z => k s' G I' z) hs
theorem pe_sc2R (hc : X.calm = true) (hN : X.N.Nodup) (hi : PI X t0 i0 wi) (ok : BlkOk X.N X.env.scope scope own) (hv : ∀ i ∈ vs1, i ∈ own.map (·.2)) (hg : ∀ (s : Shared) (H : Hp) (C : Addr) (cl : List (Str × Addr)) (fp : List Addr), PG (X.blk s H scope (compEnvC scope cl C X.env) fp) t0 g) (ht : ∀ (s : Shared) (H : Hp) (C : Addr) (cl : List (Str × Addr)) (fp : List Addr), PTs (X.blk s H scope (compEnvC scope cl C X.env) fp) if0 tt)
    (hi1 : ∀ (s : Shared) (H : Hp) (C : Addr) (cl : List (Str × Addr)) (fp : List Addr), PI (X.blk s H scope (compEnvC scope cl C X.env) fp) t1 i1 wi1) (hg1 : ∀ (s : Shared) (H : Hp) (C : Addr) (cl : List (Str × Addr)) (fp : List Addr), PG (X.blk s H scope (compEnvC scope cl C X.env) fp) t1 g1) (ht1 : ∀ (s : Shared) (H : Hp) (C : Addr) (cl : List (Str × Addr)) (fp : List Addr), PTs (X.blk s H scope (compEnvC scope cl C X.env) fp) if1 tt1) (he : ∀ (s : Shared) (H : Hp) (C : Addr) (cl : List (Str × Addr)) (fp : List Addr), PE (X.blk s H scope (compEnvC scope cl C X.env) fp) elt te)
    (new : ∀ (H : Hp) (h : Heap), ObjOk X.prog X.w H (h.push (freshSet X.w)) h.objs.size (O0 h.objs.size)) (ha : ∀ (s : Shared) (H : Hp) (C : Addr) (cl : List (Str × Addr)) (fp : List Addr), MtR (X.blk s H scope (compEnvC scope cl C X.env) fp) "set.add" r) (hs : ∀ x, foldedSetIterable i0 X.env x = pure x := by intro _; rfl) (hs1 : ∀ env x, foldedSetIterable i1 env x = pure x := by intro _ _; rfl) :
    PE X (sc2 elt t0 i0 t1 i1 if0 if1 scope pos) (tSc2 O0 r wi g tt wi1 g1 tt1 te (own.map (·.2)) vs1) :=
  blk_ok (tb := fun D => tInn r wi1 g1 tt1 te vs1 D) ⟨_, rfl⟩ hN hi ok new (fun s H C cl fp it tn J D σ s1 Z R I T fr st q k =>
    cl_run (X := X.blk s H scope (compEnvC scope cl C X.env) fp) hc rfl (cl_in (elt := elt) (t0 := t0) (i0 := i0) (t1 := t1) (if0 := if0) (if1 := if1) (scope := scope) (pos := pos) (acc := .ref D) (hs1 _)) T (hg s H C cl fp) (ht s H C cl fp)
      (fun pl s' τ G N I' _ q' => inn_ok (Y := X.blk s H scope (compEnvC scope cl C X.env) fp) hc rfl hv (hi1 s H C cl fp) (hg1 s H C cl fp) (ht1 s H C cl fp) (he s H C cl fp) (ha s H C cl fp) pl s' τ G N I' q') I fr st q fun s' G I' _ z => k s' G I' z) hs
/-- of ints -/
theorem pe_sc1I (hc : X.calm = true) (hN : X.N.Nodup) (hi : PI X t0 i0 wi) (ok : BlkOk X.N X.env.scope scope own) (hg : ∀ (s : Shared) (H : Hp) (C : Addr) (cl : List (Str × Addr)) (fp : List Addr), PG (X.blk s H scope (compEnvC scope cl C X.env) fp) t0 g) (ht : ∀ (s : Shared) (H : Hp) (C : Addr) (cl : List (Str × Addr)) (fp : List Addr), PTs (X.blk s H scope (compEnvC scope cl C X.env) fp) if0 tt) (he : ∀ (s : Shared) (H : Hp) (C : Addr) (cl : List (Str × Addr)) (fp : List Addr), PE (X.blk s H scope (compEnvC scope cl C X.env) fp) elt te) (hs : ∀ x, foldedSetIterable i0 X.env x = pure x := by intro _; rfl) :
    PE X (sc1 elt t0 i0 if0 scope pos) (tSc1 (fun D => SetO X.w D (fun _ => false) 0) (rSAdd X.w) wi g tt te (own.map (·.2))) :=
  pe_sc1R hc hN hi ok hg ht he (fun _ _ => setO_new (setR_fresh X.w)) (fun _ _ _ _ _ => mt_sadd) hs
theorem pe_sc2I (hc : X.calm = true) (hN : X.N.Nodup) (hi : PI X t0 i0 wi) (ok : BlkOk X.N X.env.scope scope own) (hv : ∀ i ∈ vs1, i ∈ own.map (·.2)) (hg : ∀ (s : Shared) (H : Hp) (C : Addr) (cl : List (Str × Addr)) (fp : List Addr), PG (X.blk s H scope (compEnvC scope cl C X.env) fp) t0 g) (ht : ∀ (s : Shared) (H : Hp) (C : Addr) (cl : List (Str × Addr)) (fp : List Addr), PTs (X.blk s H scope (compEnvC scope cl C X.env) fp) if0 tt)
    (hi1 : ∀ (s : Shared) (H : Hp) (C : Addr) (cl : List (Str × Addr)) (fp : List Addr), PI (X.blk s H scope (compEnvC scope cl C X.env) fp) t1 i1 wi1) (hg1 : ∀ (s : Shared) (H : Hp) (C : Addr) (cl : List (Str × Addr)) (fp : List Addr), PG (X.blk s H scope (compEnvC scope cl C X.env) fp) t1 g1) (ht1 : ∀ (s : Shared) (H : Hp) (C : Addr) (cl : List (Str × Addr)) (fp : List Addr), PTs (X.blk s H scope (compEnvC scope cl C X.env) fp) if1 tt1) (he : ∀ (s : Shared) (H : Hp) (C : Addr) (cl : List (Str × Addr)) (fp : List Addr), PE (X.blk s H scope (compEnvC scope cl C X.env) fp) elt te)
    (hs : ∀ x, foldedSetIterable i0 X.env x = pure x := by intro _; rfl) (hs1 : ∀ env x, foldedSetIterable i1 env x = pure x := by intro _ _; rfl) :
    PE X (sc2 elt t0 i0 t1 i1 if0 if1 scope pos) (tSc2 (fun D => SetO X.w D (fun _ => false) 0) (rSAdd X.w) wi g tt wi1 g1 tt1 te (own.map (·.2)) vs1) :=
  pe_sc2R hc hN hi ok hv hg ht hi1 hg1 ht1 he (fun _ _ => setO_new (setR_fresh X.w)) (fun _ _ _ _ _ => mt_sadd) hs hs1
end
/-- a clause over what a Walk tells: I holds ahead of each turn -/
theorem cl_walk {J : It} {n : Nat} {G0 : Hp → Prop} {Y : Nat → Hp → V → Hp → Prop} {g : TG} {tt : TT} {tb : L2.St → Hp → (Hp → Prop) → Prop} {vs : List Nat} {σ : L2.St} {Z : Hp → Prop} {H : Hp} (w : Walk J n G0 Y) (I : Nat → Hp → Prop) (h0 : I 0 H) (hp : ∀ i G, i ≤ n → I i G → G0 G)
    (turn : ∀ (i : Nat) (x : V) (G G' : Hp), i < n → I i G → Y i G x G' → g x (wipe σ vs) G' fun σ2 H2 => wipe σ2 vs = wipe σ vs ∧ tt σ2 H2 fun b H3 => if b = true then tb σ2 H3 (I (i + 1)) else I (i + 1) H3) (fin : ∀ G, I n G → Z G) :
    tCl g tt tb vs σ Z J H := by
  refine ⟨fun i m G => m = n - i ∧ i ≤ n ∧ I i G, ⟨n, by simp, Nat.zero_le _, h0⟩, ?_⟩
  rintro i m G ⟨rfl, hi, z⟩
  by_cases lt : i < n
  · exact .inr ⟨w.goes i G lt (hp i G hi z), I (i + 1), fun G' z' => ⟨n - (i + 1), by omega, rfl, lt, z'⟩, fun x G' y => turn i x G G' lt z (w.yields i G x G' lt (hp i G hi z) y)⟩
  · obtain rfl : i = n := by omega
    exact .inl ⟨w.stops G (hp i G hi z), fin G z⟩
end KB
set_option Elab.async false
set_option linter.all false
set_option maxRecDepth 100000
set_option maxHeartbeats 4000000
/-! max(xs, default=d), xs a list of ints. -/
namespace KB
open PySem PySem.Spec PyProof.Rows L2
def kwD (dv : Value) : List (Str × Value) := [(Str.ofString "default", dv)]
abbrev mxC (J S : Addr) (dv : Value) : Code := .builtin "max.loop" ⟨[.ref J, .none, .ref S], kwD dv⟩
section
variable {prog : Program} {w : World} {A : Around} {R : Result → Shared → Prop} {J S : Addr} {fq wq : List Addr} {N : Nat} {Iv : Nat → Value → Prop} {Sv : Nat → Heap → Prop} {dv : Value}
theorem mx_name : (toString "max" ++ toString ".loop" : String) = "max.loop" := by decide
/-- what is promised of the end -/
def MxEnd (R : Result → Shared → Prop) (S : Addr) (wq : List Addr) (G : Value → Prop) (s : Shared) : Prop :=
  ∀ (v : Value) (h' : Heap) (tk : Nat), G v → (∀ (b : Addr) (o : Obj), b ∉ wq → b ≠ S → s.heap.get? b = some o → h'.get? b = some o) → R (.ok (.ret v)) { s with heap := h', toks := tk }
theorem MxEnd.on {G : Value → Prop} {s : Shared} {h1 : Heap} {t1 : Nat} (m : MxEnd R S wq G s) (k : ∀ (b : Addr) (o : Obj), b ∉ wq → b ≠ S → s.heap.get? b = some o → h1.get? b = some o) : MxEnd R S wq G { s with heap := h1, toks := t1 } :=
  fun v h' tk g kk => m v h' tk g fun b o n1 n2 e => kk b o n1 n2 (k b o n1 n2 e)
theorem mx_turns (Wk : Walks prog w A.in1 J fq wq N Iv Sv) (bt : Nat → Nat → Bool) (C : CmpOf prog w A.in1 .Gt Iv bt) (nS : S ∉ fq) (d : Nat) : ∀ (i : Nat) (s : Shared) (u : Value) (cap : Nat), N = (i + 1) + d → Sv (i + 1) s.heap → Iv (argBest bt i) u →
    s.heap.get? S = some { cls := .type "list", dict := none, data := .seq #[u, u] cap, slots := #[] } → MxEnd R S wq (Iv (argBest bt (N - 1))) s → codeAny (model prog w) A (mxC J S dv) R s := by
  have nw : S ∉ wq := fun m => nS (Wk.sub _ m)
  induction d with
  | zero =>
    intro i s u cap hN hSt hI hS hE
    have eN : i + 1 = N := by omega
    refine codeAny_builtin PySem.F.entry_max_loop ?_
    rw [Around.under_plainId PySem.F.plain_max_loop _]
    show wpAny _ A.in1 (seqItems? (.ref S) >>= _) _ _ s
    refine wpAny_bind (wpAny_seqItems hS rfl ?_)
    show wpAny _ A.in1 (tryCatch (pyNext (.ref J)) _ >>= _) _ _ s
    refine wpAny_bind (wpAny_tryCatch (Wk.done s _ _ (by rw [← eN]; exact hSt) fun h1 t1 k1 => ?_))
    have hS1 := k1 S _ nw hS
    show wpAny _ A.in1 (updateSeq S (fun _ => #[]) >>= _) _ _ _
    refine wpAny_bind (wpAny_updateSeq hS1 rfl (wpAny_bind (wpAny_letGo (wpAny_pure ?_))))
    refine hE u _ t1 (by rw [← eN]; exact hI) fun b o n1 n2 e => ?_
    exact (Heap.get?_update_other _ _ (Ne.symm n2)).trans (k1 b o n1 e)
  | succ d ih =>
    intro i s u cap hN hSt hI hS hE
    have hi : i + 1 < N := by omega
    refine codeAny_builtin PySem.F.entry_max_loop ?_
    rw [Around.under_plainId PySem.F.plain_max_loop _]
    show wpAny _ A.in1 (seqItems? (.ref S) >>= _) _ _ s
    refine wpAny_bind (wpAny_seqItems hS rfl ?_)
    show wpAny _ A.in1 (tryCatch (pyNext (.ref J)) _ >>= _) _ _ s
    refine wpAny_bind (wpAny_tryCatch (Wk.item (i + 1) s _ _ hi hSt fun v h1 t1 hv hSt1 k1 => ?_))
    have hS1 := k1 S _ nw hS
    show wpAny _ A.in1 (tryCatch (holding [v, v] (richCompare .Gt v u >>= _)) _ >>= _) _ _ _
    refine wpAny_bind (wpAny_tryCatch (wpAny_holding (wpAny_bind (C (i + 1) (argBest bt i) v u _ _ _ hv hI ?_))))
    refine wpAny_bind (wpAny_holding (wpAny_truthy_bool (wpAny_bind (wpAny_letGo (wpAny_pure ?_)))))
    cases q : bt (i + 1) (argBest bt i) with
    | true =>
      have eB : argBest bt (i + 1) = i + 1 := by simp only [argBest, q, if_true]
      simp only [if_true]
      refine wpAny_bind (wpAny_updateSeq hS1 rfl (wpAny_bind (wpAny_letGo ?_)))
      rw [mx_name]
      refine wpAny_pure ⟨plainId_quiet PySem.F.plain_max_loop _, ih (i + 1) _ v _ (by omega) (Wk.frame _ _ _ hSt1 fun b hb o e => ?_) (by rw [eB]; exact hv) (Heap.get?_update_self _ hS1 rfl) (hE.on fun b o n1 n2 e => ?_)⟩
      · exact (Heap.get?_update_other _ _ (fun z : S = b => nS (z ▸ hb))).trans e
      · exact (Heap.get?_update_other _ _ (Ne.symm n2)).trans (k1 b o n1 e)
    | false =>
      have eB : argBest bt (i + 1) = argBest bt i := by simp only [argBest, q, Bool.false_eq_true, if_false]
      simp only [Bool.false_eq_true, if_false]
      refine wpAny_bind (wpAny_letGo ?_)
      rw [mx_name]
      exact wpAny_pure ⟨plainId_quiet PySem.F.plain_max_loop _, ih (i + 1) _ u cap (by omega) hSt1 (by rw [eB]; exact hI) hS1 (hE.on fun b o n1 n2 e => k1 b o n1 e)⟩
/-- from the first turn on -/
theorem mx_first (Wk : Walks prog w A.in1 J fq wq N Iv Sv) (bt : Nat → Nat → Bool) (C : CmpOf prog w A.in1 .Gt Iv bt) (nS : S ∉ fq) {s : Shared} {cap : Nat} (hSt : Sv 0 s.heap)
    (hS : s.heap.get? S = some { cls := .type "list", dict := none, data := .seq #[] cap, slots := #[] }) (h0 : N = 0 → MxEnd R S wq (fun v => v = dv) s) (h1 : 0 < N → MxEnd R S wq (Iv (argBest bt (N - 1))) s) : codeAny (model prog w) A (mxC J S dv) R s := by
  have nw : S ∉ wq := fun m => nS (Wk.sub _ m)
  refine codeAny_builtin PySem.F.entry_max_loop ?_
  rw [Around.under_plainId PySem.F.plain_max_loop _]
  show wpAny _ A.in1 (seqItems? (.ref S) >>= _) _ _ s
  refine wpAny_bind (wpAny_seqItems hS rfl ?_)
  show wpAny _ A.in1 (tryCatch (pyNext (.ref J)) _ >>= _) _ _ s
  rcases Nat.eq_zero_or_pos N with e | hN
  · refine wpAny_bind (wpAny_tryCatch (Wk.done s _ _ (by rw [e]; exact hSt) fun h' tk k' => ?_))
    show wpAny _ A.in1 (rule (toString "max" ++ toString ".default") >>= fun _ => ret dv) _ _ _
    refine wpAny_bind (wpAny_rule ?_)
    exact wpAny_pure (h0 e dv h' tk rfl fun b o n1 n2 ee => k' b o n1 ee)
  · refine wpAny_bind (wpAny_tryCatch (Wk.item 0 s _ _ hN hSt fun v h' tk hv hSt1 k' => ?_))
    have hS1 := k' S _ nw hS
    show wpAny _ A.in1 (updateSeq S (fun _ => #[v, v]) >>= _) _ _ _
    refine wpAny_bind (wpAny_updateSeq hS1 rfl ?_)
    rw [mx_name]
    refine wpAny_pure ⟨plainId_quiet PySem.F.plain_max_loop _, mx_turns Wk bt C nS (N - 1) 0 _ v _ (by omega) (Wk.frame _ _ _ hSt1 fun b hb o e => ?_) hv (Heap.get?_update_self _ hS1 rfl) ((h1 hN).on fun b o n1 n2 e => ?_)⟩
    · exact (Heap.get?_update_other _ _ (fun z : S = b => nS (z ▸ hb))).trans e
    · exact (Heap.get?_update_other _ _ (Ne.symm n2)).trans (k' b o n1 e)
end
section
variable {prog : Program} {w : World} {A : Around} {E : Value → Shared → Prop} {s : Shared} {l : Addr}
theorem mx_args (a v : Value) : argsOk "max" ⟨[a], kwD v⟩ := by unfold argsOk kwD; kernel_rfl
theorem max_dflt {xs : Array (Int × Tok)} {dv : Value} {Q : Value → Shared → Prop} (hh : A.handled = none) (hl : s.heap.IsList l (intItems xs))
    (k0 : xs.size = 0 → ∀ h' tk, (∀ b o, s.heap.get? b = some o → h'.get? b = some o) → Q dv { s with heap := h', toks := tk })
    (k1 : 0 < xs.size → ∀ v h' tk, (intItems xs)[argBest (fun i j => decide (numAt xs i > numAt xs j)) (xs.size - 1)]? = some v → (∀ b o, s.heap.get? b = some o → h'.get? b = some o) → Q v { s with heap := h', toks := tk }) :
    wpAny (model prog w) A (call (.builtin "max") [.ref l] (kwD dv)) Q E s := by
  have fin : wpAny (model prog w) A.in1 (Builtin.«max» ⟨[.ref l], kwD dv⟩) (fun z s' => match z with
      | .done f => (match (Except.ok f : Result) with | .ok (.ret v) => Q v s' | .ok _ => False | .error e => E e s')
      | .again c' => c'.quiet = true ∧ codeAny (model prog w) A c' (fun r s' => match r with | .ok (.ret v) => Q v s' | .ok _ => False | .error e => E e s') s') E s := by
    show wpAny _ A.in1 (Builtin.Builtins.bindParams "max" ["key", "default"] 0 ⟨[], kwD dv⟩ >>= _) _ _ s
    refine wpAny_bind (wpAny_of_eq (show Builtin.Builtins.bindParams "max" ["key", "default"] 0 ⟨[], kwD dv⟩ = pure [none, some dv] from rfl) ?_)
    refine wpAny_bind (wpAny_pure ?_)
    refine wpAny_bind (iter_intList hl fun s2 e hI hlt ne => ?_)
    subst e
    refine wpAny_bind (wpAny_newObj_type ?_)
    rw [mx_name]
    have nS : s.heap.objs.size + 1 ∉ [s.heap.objs.size, l] := fun m => by
      have hl' : l < s.heap.objs.size := by
        obtain ⟨_, e, _⟩ := hl
        exact Heap.lt_size e
      rcases List.mem_cons.mp m with e | m
      · exact absurd e (Nat.succ_ne_self _)
      · rw [List.mem_singleton] at m
        rw [← m] at hl'
        exact Nat.lt_irrefl _ (Nat.lt_of_succ_lt hl')
    have sz : (s.heap.push { cls := .type "list_iterator", data := .fields #[.ref l, .int 0 0] }).objs.size = s.heap.objs.size + 1 := Heap.size_push ..
    have Wk := Walks.list (prog := prog) (w := w) (A := A.in1) hh s.heap.objs.size l ne (intItems xs)
    have old : ∀ (b : Addr) (o : Obj), s.heap.get? b = some o → b ∉ [s.heap.objs.size] ∧ b ≠ s.heap.objs.size + 1 := fun b o e => by
      have := Heap.lt_size e
      refine ⟨fun m => ?_, Nat.ne_of_lt (Nat.lt_succ_of_lt this)⟩
      rw [List.mem_singleton] at m
      exact Nat.ne_of_lt this m
    refine wpAny_pure ⟨plainId_quiet PySem.F.plain_max_loop _, ?_⟩
    rw [sz]
    refine mx_first (S := s.heap.objs.size + 1) (dv := dv) Wk (fun i j => decide (numAt xs i > numAt xs j)) (CmpOf.ints_gt (numAt xs) fun _ _ => intItems_at) nS (Wk.frame _ _ _ hI fun b _ o e => Heap.get?_push_of_some _ e) (by rw [← sz]; exact Heap.get?_push_size _ rfl) (fun h0 v h' tk g k => ?_) (fun h1 v h' tk g k => ?_)
    · subst g
      exact k0 (by simpa [intItems] using h0) h' tk fun b o e => k b o (old b o e).1 (old b o e).2 (Heap.get?_push_of_some _ (Heap.get?_push_of_some _ e))
    · exact k1 (by simpa [intItems] using h1) v h' tk (by simpa [intItems] using g) fun b o e => k b o (old b o e).1 (old b o e).2 (Heap.get?_push_of_some _ (Heap.get?_push_of_some _ e))
  refine wpAny_call (codeAny_call_builtin PySem.F.plain_max PySem.F.entry_max ?_)
  simp only [checkBuiltinCall, PySem.F.kind_max]
  cases q : Manifest.signature? "max" with
  | none => exact wpAny_pure fin
  | some sig =>
    have ha := mx_args (.ref l) dv
    simp only [argsOk, q] at ha
    show wpAny _ A.in1 (Bind.checkArgs "max" sig ⟨[.ref l], kwD dv⟩) _ _ s
    rw [show Bind.checkArgs "max" sig ⟨[.ref l], kwD dv⟩ = pure () from ha]
    exact wpAny_pure fin
end
section
variable {X : Cx}
/-- max(xs, default=d) -/
def rMaxDf (K : PySem.W.Frag) : List V → List V → Hp → VK → Prop := fun vs zs H Q => ∃ (a : Addr) (ns : List Int) (d : Int), vs = [.ref a] ∧ zs = [.int d] ∧ SqL K H a (ns.map V.int) ∧ ∀ m : Int, (ns = [] → m = d) → (ns ≠ [] → m ∈ ns ∧ ∀ y ∈ ns, y ≤ m) → Q (.int m) H
theorem cr_maxDf (hc : X.calm = true) : CallRK X (.builtin "max") [Str.ofString "default"] (rMaxDf X.K) := by
  intro pins s σ H vs zs us ws Q I r rz h
  obtain ⟨a, ns, d, rfl, rfl, hs, q⟩ := h
  obtain ⟨dv, rfl, rd⟩ := rz.one
  obtain ⟨its, rv, hl, _⟩ := I.list hs
  rw [Vals.ref1 r]
  obtain ⟨xs, e⟩ := rv.ints.allInts.items
  have hn : numsOf (intItems xs).toList = ns := by
    rw [← e]
    exact rv.ints.numsOf
  rw [nums_intItems] at hn
  have hl' := hl.isList
  rw [e] at hl'
  have ln : ns.length = xs.size := by rw [← hn, List.length_map, Array.length_toList]
  refine max_dflt (I.ok.hd hc) hl' (fun h0 h' tk k => ?_) (fun h1 v h' tk hv k => ?_)
  · have e0 : ns = [] := List.eq_nil_of_length_eq_zero (by omega)
    exact ⟨.int d, H, I.kept k, rd, q d (fun _ => rfl) fun z => absurd e0 z⟩
  · obtain ⟨t, rfl⟩ := intItems_at hv
    obtain ⟨b1, b2⟩ := argBest_gt (numAt xs) (xs.size - 1)
    have ne : ns ≠ [] := fun z => by
      rw [z] at ln
      simp at ln
      omega
    refine ⟨.int _, H, I.kept k, ⟨_, rfl⟩, q _ (fun z => absurd z ne) fun _ => ⟨?_, fun y hy => ?_⟩⟩
    · rw [numAt_eq, hn]
      exact PySem.getD_mem (by omega)
    · obtain ⟨j, hj, rfl⟩ := mem_getD hy
      rw [← hn, ← numAt_eq]
      exact b2 j (by omega)
end
end KB
set_option Elab.async false
set_option linter.all false
set_option maxRecDepth 100000
set_option maxHeartbeats 4000000
/-! Lives as data; dictionaries from numbers to things. -/
namespace K19
open PySem PySem.Spec PyProof.Rows L2 KB
structure FreeS (mg : Str → Option Value) : Prop extends Free mg where
  tstr : mg "str" = none
  sorted : mg "sorted" = none
theorem SqT_up {K : PySem.W.Frag} {H H' : Hp} {a : Addr} {xs : List V} (k : Same H H') (h : SqT K H a xs) : SqT K H' a xs := by
  rcases h with (h | ⟨o, h⟩) | h
  · exact .inl (.inl (k _ _ h))
  · exact .inl (.inr ⟨o, k _ _ h⟩)
  · exact .inr h
theorem SqT_but {K : PySem.W.Frag} {H H' : Hp} {a pu : Addr} {xs : List V} (k : But pu H H') (h : SqT K H a xs) (q : ∃ ys, H pu = some (.lst ys)) : SqT K H' a xs := by
  obtain ⟨ys, q⟩ := q
  rcases h with (h | ⟨o, h⟩) | h
  · refine .inl (.inl (k _ _ (fun z => ?_) h))
    rw [z, q] at h
    cases h
  · refine .inl (.inr ⟨o, k _ _ (fun z => ?_) h⟩)
    rw [z, q] at h
    cases h
  · exact .inr h
theorem sqT_ty {K : PySem.W.Frag} {H : Hp} {a : Addr} {xs : List V} (h : SqT K H a xs) : TyX K H (.ref a) (.type "tuple") := by
  rcases h with (h | ⟨o, h⟩) | ⟨o, its, n, e1, e2, _⟩
  · exact .base (.tup h)
  · exact .fTuple h
  · exact .kTuple e1 e2
def Ev.v : Ev → List V
  | .wr c => [.str "write", .int (c : Int)]
  | .bar => [.str "barrier"]
  | .tell => [.str "tell"]
def Ev.d : Ev → PyData
  | .wr c => .tuple [.str "write", .int (c : Int)]
  | .bar => .tuple [.str "barrier"]
  | .tell => .tuple [.str "tell"]
def numsV (l : List Nat) : List V := l.map fun x : Nat => V.int (x : Int)
/-- a dictionary made over what a Walk tells -/
theorem dc_walk {J : It} {n : Nat} {G0 : Hp → Prop} {Y : Nat → Hp → V → Hp → Prop} {g : TG} {tt : TT} {tk tv : TE} {vs : List Nat} {σ : L2.St} {H1 : Hp} {D : Addr} {Z : Hp → Prop} (w : Walk J n G0 Y) (I : Nat → Hp → Prop) (h0 : I 0 (upd H1 D (.dK []))) (hp : ∀ i G, i ≤ n → I i G → G0 G)
    (turn : ∀ (i : Nat) (x : V) (G G' : Hp), i < n → I i G → Y i G x G' → g x (wipe σ vs) G' fun σ2 H2 => wipe σ2 vs = wipe σ vs ∧ tt σ2 H2 fun b H3 =>
      if b = true then tk σ2 H3 fun y H4 => tv σ2 H4 fun z H5 => ∃ kvs k, y = kV k ∧ H5 D = some (.dK kvs) ∧ kvs.length < sizeLine ∧ I (i + 1) (upd H5 D (.dK (putK kvs k z))) else I (i + 1) H3) (fin : ∀ G, I n G → Z G) :
    ∃ W : Nat → Nat → Hp → Prop, (∃ m, W 0 m (upd H1 D (.dK []))) ∧ ∀ i m H, W i m H → (J.stop i H ∧ Z H) ∨ (J.go i H ∧ ∃ Nx : Hp → Prop, (∀ H', Nx H' → ∃ m', m' < m ∧ W (i + 1) m' H') ∧ ∀ x H', J.yld i H x H' → g x (wipe σ vs) H' fun σ2 H2 => wipe σ2 vs = wipe σ vs ∧ tt σ2 H2 fun b H3 =>
      if b = true then tk σ2 H3 fun y H4 => tv σ2 H4 fun z H5 => ∃ kvs k, y = kV k ∧ H5 D = some (.dK kvs) ∧ kvs.length < sizeLine ∧ Nx (upd H5 D (.dK (putK kvs k z))) else Nx H3) := by
  refine ⟨fun i m G => m = n - i ∧ i ≤ n ∧ I i G, ⟨n, by simp, Nat.zero_le _, h0⟩, ?_⟩
  rintro i m G ⟨rfl, hi, z⟩
  by_cases lt : i < n
  · exact .inr ⟨w.goes i G lt (hp i G hi z), I (i + 1), fun G' z' => ⟨n - (i + 1), by omega, rfl, lt, z'⟩, fun x G' y => turn i x G G' lt z (w.yields i G x G' lt (hp i G hi z) y)⟩
  · obtain rfl : i = n := by omega
    exact .inl ⟨w.stops G (hp i G hi z), fin G z⟩
abbrev ky (p : Nat) : Key := Sum.inl (p : Int)
def dV (ps : List Nat) (f : Nat → V) : List (Key × V) := ps.map fun p => (ky p, f p)
theorem ky_inj {p q : Nat} : ky p = ky q ↔ p = q := by
  constructor
  · intro h
    have := Sum.inl.inj h
    omega
  · exact fun h => h ▸ rfl
theorem dV_len (ps : List Nat) (f : Nat → V) : (dV ps f).length = ps.length := List.length_map _
theorem dV_val {ps : List Nat} {f : Nat → V} {p : Nat} (h : p ∈ ps) : valV (dV ps f) (ky p) = some (f p) := by
  induction ps with
  | nil => cases h
  | cons q ps ih =>
    by_cases e : q = p
    · subst e
      exact valV_pos rfl
    · have h' : p ∈ ps := by
        rcases List.mem_cons.mp h with h | h
        · exact absurd h.symm e
        · exact h
      unfold valV at ih ⊢
      have ne : ¬ (ky q = ky p) := fun z => e (ky_inj.mp z)
      show ((dV (q :: ps) f).find? _).map _ = _
      unfold dV
      rw [List.map_cons, List.find?_cons_of_neg (by simpa using ne)]
      exact ih h'
theorem dV_none {ps : List Nat} {f : Nat → V} {p : Nat} (h : p ∉ ps) : valV (dV ps f) (ky p) = none := by
  unfold valV dV
  rw [Option.map_eq_none_iff, List.find?_eq_none]
  intro kv hkv
  obtain ⟨q, hq, rfl⟩ := List.mem_map.mp hkv
  intro z
  exact h (ky_inj.mp (of_decide_eq_true z) ▸ hq)
def put (f : Nat → V) (p : Nat) (v : V) : Nat → V := fun q => if q = p then v else f q
theorem dV_any {ps : List Nat} {f : Nat → V} {p : Nat} : ((dV ps f).any fun kv => decide (kv.1 = ky p)) = decide (p ∈ ps) := by
  unfold dV
  rw [List.any_map]
  by_cases h : p ∈ ps
  · rw [decide_eq_true h, List.any_eq_true]
    exact ⟨p, h, decide_eq_true rfl⟩
  · rw [decide_eq_false h, List.any_eq_false]
    intro q hq z
    exact h (ky_inj.mp (of_decide_eq_true z) ▸ hq)
theorem dV_put {ps : List Nat} {f : Nat → V} {p : Nat} {v : V} (h : p ∈ ps) : putK (dV ps f) (ky p) v = dV ps (put f p v) := by
  unfold putK
  rw [dV_any, decide_eq_true h, if_pos rfl]
  unfold dV
  rw [List.map_map]
  refine List.map_congr_left fun q hq => ?_
  show (if ky q = ky p then (ky q, v) else (ky q, f q)) = (ky q, put f p v q)
  unfold put
  by_cases e : q = p
  · rw [if_pos e, if_pos (ky_inj.mpr e)]
  · rw [if_neg e, if_neg fun z => e (ky_inj.mp z)]
theorem dV_new {ps : List Nat} {f : Nat → V} {p : Nat} {v : V} (h : p ∉ ps) : putK (dV ps f) (ky p) v = dV (ps ++ [p]) (put f p v) := by
  unfold putK
  rw [dV_any, decide_eq_false h, if_neg Bool.false_ne_true]
  unfold dV
  rw [List.map_append]
  refine congr (congrArg _ (List.map_congr_left fun q hq => ?_)) ?_
  · unfold put
    rw [if_neg (fun e : q = p => h (e ▸ hq))]
  · simp [put]
theorem dV_congr {ps : List Nat} {f g : Nat → V} (h : ∀ p ∈ ps, f p = g p) : dV ps f = dV ps g := List.map_congr_left fun p hp => by rw [h p hp]
/-- marks: a number for each page -/
abbrev mV (ps : List Nat) (m : Nat → Nat) : List (Key × V) := dV ps fun p => .int (m p : Int)
def putN (m : Nat → Nat) (p n : Nat) : Nat → Nat := fun q => if q = p then n else m q
theorem mV_put {ps : List Nat} {m : Nat → Nat} {p n : Nat} (h : p ∈ ps) : putK (mV ps m) (ky p) (.int (n : Int)) = mV ps (putN m p n) := by
  rw [dV_put h]
  refine dV_congr fun q _ => ?_
  unfold put putN
  by_cases e : q = p
  · rw [if_pos e, if_pos e]
  · rw [if_neg e, if_neg e]
theorem merge_dV : ∀ {qs ps : List Nat} {f : Nat → V}, (ps ++ qs).Nodup → mergeK (dV ps f) (dV qs f) = dV (ps ++ qs) f
  | [], ps, f, _ => by
    rw [List.append_nil]
    rfl
  | q :: qs, ps, f, h => by
    have nq : q ∉ ps := fun m => by
      have := List.nodup_append.mp h
      exact this.2.2 q m q List.mem_cons_self rfl
    have e : mergeK (dV ps f) (dV (q :: qs) f) = mergeK (putK (dV ps f) (ky q) (f q)) (dV qs f) := rfl
    have e2 : dV (ps ++ [q]) (put f q (f q)) = dV (ps ++ [q]) f := dV_congr fun p _ => by
      unfold put
      split
      · next z => rw [z]
      · rfl
    rw [e, dV_new nq, e2, merge_dV (by rw [List.append_assoc]; exact h), List.append_assoc]
    rfl
theorem merge_dV0 {qs : List Nat} {f : Nat → V} (h : qs.Nodup) : mergeK [] (dV qs f) = dV qs f := merge_dV (ps := []) h
end K19
set_option Elab.async false
set_option linter.all false
namespace KB
open PySem PySem.Spec PyProof.Rows L2
/-- all but what stands at D -/
def off (H : Hp) (D : Addr) : Hp := fun b => if b = D then none else H b
theorem off_at {H : Hp} {D b : Addr} (n : b ≠ D) : off H D b = H b := if_neg n
theorem off_same {H H' : Hp} (D : Addr) (k : Same H H') : Same (off H D) (off H' D) := fun b o e => by
  by_cases n : b = D
  · unfold off at e
    rw [if_pos n] at e
    cases e
  · rw [off_at n] at e ⊢
    exact k _ _ e
theorem off_le (H : Hp) (D : Addr) : Same (off H D) H := fun b o e => by
  by_cases n : b = D
  · unfold off at e
    rw [if_pos n] at e
    cases e
  · rw [off_at n] at e
    exact e
theorem off_upd (H : Hp) (D : Addr) (o : HO) : off (upd H D o) D = off H D := by
  funext b
  unfold off
  by_cases n : b = D
  · rw [if_pos n, if_pos n]
  · rw [if_neg n, if_neg n, upd_ne n]
theorem off_in {H G : Hp} {D : Addr} (k : Same H G) (n : H D = none) : Same H (off G D) := fun b o e => by
  rw [off_at (ne_of_none e n)]
  exact k b o e
end KB
set_option Elab.async false
set_option linter.all false
set_option maxRecDepth 100000
set_option maxHeartbeats 8000000
namespace K19
open PySem PySem.Spec PyProof.Rows L2 KB RZ
abbrev s_exact : Stmt := top 38
abbrev N_exact : List Str := ["_law_mine", "_law_theirs", "_law_alike", "_law_a", "_law_b", "_law_key"]
theorem sc_exact : FnScope N_exact ["_law_mine", "_law_theirs"] (defScope s_exact) := ⟨rfl, rfl, rfl, by decide +kernel, rfl, by decide +kernel, by decide +kernel⟩
/-- as Tr, with dictionaries of marks -/
def TD (K : PySem.W.Frag) (H : Hp) : Nat → V → PyData → Prop
  | 0, x, d => FlatD x d
  | n + 1, x, d => FlatD x d ∨ (∃ (a : Addr) (xs : List V) (ds : List PyData), x = .ref a ∧ xs.length = ds.length ∧ ds.length ≤ 1000 ∧ ((H a = some (.lst xs) ∧ d = .list ds) ∨ (SqT K H a xs ∧ d = .tuple ds)) ∧
      ∀ (i : Nat) (u : V) (e : PyData), xs[i]? = some u → ds[i]? = some e → TD K H n u e) ∨ ∃ (a : Addr) (ps : List Nat) (m : Nat → Nat), x = .ref a ∧ (1 ≤ n ∧ ps.length ≤ 1000 ∧ ps.Nodup) ∧ H a = some (.dK (mV ps m)) ∧ d = .dict (ps.map fun p : Nat => (.int (p : Int), .int (m p : Int)))
theorem TD.same {K : PySem.W.Frag} {H H' : Hp} (k : Same H H') : ∀ {n : Nat} {x : V} {d : PyData}, TD K H n x d → TD K H' n x d
  | 0, _, _, h => h
  | n + 1, _, _, h => by
    rcases h with h | ⟨a, xs, ds, e, l, l1, t, c⟩ | ⟨a, ps, m, e, n1, ha, ed⟩
    · exact .inl h
    · refine .inr (.inl ⟨a, xs, ds, e, l, l1, ?_, fun i u v e1 e2 => TD.same k (c i u v e1 e2)⟩)
      rcases t with ⟨t1, t2⟩ | ⟨t1, t2⟩
      · exact .inl ⟨k _ _ t1, t2⟩
      · exact .inr ⟨SqT_up k t1, t2⟩
    · exact .inr (.inr ⟨a, ps, m, e, n1, k _ _ ha, ed⟩)
theorem TD.of {K : PySem.W.Frag} {H : Hp} : ∀ {n : Nat} {x : V} {d : PyData}, Tr H n x d → TD K H n x d
  | 0, _, _, h => h
  | n + 1, _, _, h => by
    rcases h with h | ⟨a, xs, ds, e, l, l1, t, c⟩
    · exact .inl h
    · exact .inr (.inl ⟨a, xs, ds, e, l, l1, t.imp id (fun z => ⟨SqT.of z.1, z.2⟩), fun i u v e1 e2 => TD.of (c i u v e1 e2)⟩)
theorem TD.up {K : PySem.W.Frag} {H : Hp} : ∀ {n : Nat} {x : V} {d : PyData}, TD K H n x d → TD K H (n + 1) x d
  | 0, _, _, h => .inl h
  | n + 1, _, _, h => by
    rcases h with h | ⟨a, xs, ds, e, l, l1, t, c⟩ | h
    · exact .inl h
    · exact .inr (.inl ⟨a, xs, ds, e, l, l1, t, fun i u v e1 e2 => TD.up (c i u v e1 e2)⟩)
    · obtain ⟨a, ps, m, e, n1, r⟩ := h
      exact .inr (.inr ⟨a, ps, m, e, ⟨by omega, n1.2⟩, r⟩)
theorem TD.lst {K : PySem.W.Frag} {H : Hp} {n : Nat} {a : Addr} {xs : List V} {ds : List PyData} (h : H a = some (.lst xs)) (l : xs.length = ds.length) (s : ds.length ≤ 1000) (k : ∀ (i : Nat) (u : V) (e : PyData), xs[i]? = some u → ds[i]? = some e → TD K H n u e) : TD K H (n + 1) (.ref a) (.list ds) :=
  .inr (.inl ⟨a, xs, ds, rfl, l, s, .inl ⟨h, rfl⟩, k⟩)
theorem TD.dct {K : PySem.W.Frag} {H : Hp} {n : Nat} {a : Addr} {ps : List Nat} {m : Nat → Nat} (h : H a = some (.dK (mV ps m))) (l : ps.length ≤ 1000) (nd : ps.Nodup) : TD K H (n + 2) (.ref a) (.dict (ps.map fun p : Nat => (.int (p : Int), .int (m p : Int)))) := .inr (.inr ⟨a, ps, m, rfl, ⟨by omega, l, nd⟩, h, rfl⟩)
theorem TD.flat {K : PySem.W.Frag} {H : Hp} {n : Nat} {x : V} {d : PyData} (h : FlatD x d) : TD K H n x d := by
  cases n with
  | zero => exact h
  | succ n => exact .inl h
theorem td_cons {K : PySem.W.Frag} {H : Hp} {n : Nat} {x : V} {xs : List V} {d : PyData} {ds : List PyData} (h : TD K H n x d) (k : ∀ (i : Nat) (u : V) (e : PyData), xs[i]? = some u → ds[i]? = some e → TD K H n u e) : ∀ (i : Nat) (u : V) (e : PyData), (x :: xs)[i]? = some u → (d :: ds)[i]? = some e → TD K H n u e := fun i u e h1 h2 => by
  cases i with
  | zero =>
    cases h1
    cases h2
    exact h
  | succ i => exact k i u e h1 h2
theorem td_nil {K : PySem.W.Frag} {H : Hp} {n : Nat} : ∀ (i : Nat) (u : V) (e : PyData), ([] : List V)[i]? = some u → ([] : List PyData)[i]? = some e → TD K H n u e := fun i u e h1 h2 => by simp at h1
theorem dict_inj : ∀ {ps qs : List Nat} {m m' : Nat → Nat}, (ps.map fun p : Nat => (PyData.int (p : Int), PyData.int (m p : Int))) = (qs.map fun p : Nat => (PyData.int (p : Int), PyData.int (m' p : Int))) → ps = qs ∧ ∀ p ∈ ps, m p = m' p
  | [], [], _, _, _ => ⟨rfl, fun p h => nomatch h⟩
  | [], q :: qs, _, _, e => by cases e
  | p :: ps, [], _, _, e => by cases e
  | p :: ps, q :: qs, m, m', e => by
    rw [List.map_cons, List.map_cons] at e
    obtain ⟨e1, e2⟩ := List.cons.inj e
    have h1 := PyData.int.inj (congrArg Prod.fst e1)
    have h2 := PyData.int.inj (congrArg Prod.snd e1)
    have hp : p = q := by omega
    subst hp
    obtain ⟨h3, h4⟩ := dict_inj e2
    refine ⟨by rw [h3], fun r hr => ?_⟩
    rcases List.mem_cons.mp hr with rfl | hr
    · omega
    · exact h4 r hr
theorem mV_val {ps : List Nat} {m : Nat → Nat} {p : Nat} (h : p ∈ ps) : valV (mV ps m) (ky p) = some (.int (m p : Int)) := dV_val h
def spExactD (K : PySem.W.Frag) (n : Nat) : Sp := fun vs H Q _ => ∃ (x y : V) (d : PyData), vs = [x, y] ∧ TD K H n x d ∧ TD K H n y d ∧ ∀ H', Same H H' → Q (.bl true) H'
section
variable {P : Program} {w : World} {K : PySem.W.Frag} {mg : Str → Option Value} {base : Heap} {f : Addr} {fd : FuncData}
theorem ok_exact (F : FnP K "_law_exact" s_exact f fd) (Z : FreeS mg) (gE : mg "_law_exact" = some (.ref f)) : ∀ n : Nat, FnOk P w K mg base CX0 (n + 1) f fd ["_law_mine", "_law_theirs"] (spExactD K n) := by
  have bE : Binds K fd ["_law_mine", "_law_theirs"] [] := F.bindsN fun _ _ _ _ _ _ us hl => match us, hl with | [_, _], _ => rfl
  have kitF : ∀ {t : String}, kitB t "list" = some false → kitB t "tuple" = some false → PySem.W.kitAny K (.type t) [.type "list", .type "tuple"] = some false := fun h1 h2 =>
    kitAny_cons (kit_ty h1) (fun _ => kitAny_cons (kit_ty h2) (fun _ => kitAny_nil) (fun z => nomatch z)) (fun z => nomatch z)
  have la : kitB "list" "list" = some true := by decide +kernel
  have lt : kitB "list" "tuple" = some false := by decide +kernel
  have ta : kitB "tuple" "tuple" = some true := by decide +kernel
  have tl : kitB "tuple" "list" = some false := by decide +kernel
  intro n
  induction n with
  | zero =>
    refine F.ok sc_exact (fun vs H Q E h => ?_) (fun cdv A outer s H vs Q E hr h => ?_)
    · obtain ⟨x, y, d, rfl, _⟩ := h
      rfl
    · obtain ⟨x, y, d, rfl, hx, hy, k⟩ := h
      have hx : FlatD x d := hx
      obtain rfl : y = x := FlatD.eq hy hx
      have nd := sc_exact.nd
      refine ⟨_, PSs.nox (pss_cons (ps_if (pt_val (pe_callB call_isiT (by rfl) Z.isi (by decide +kernel) (pa_cons (pv 0) (pa_cons (pe_tup (pa_cons (pe_bltn (v := .ty "list") (by rfl) Z.tlist (by decide +kernel) rfl) (pa_cons (pe_bltn (v := .ty "tuple") (by rfl) Z.ttuple (by decide +kernel) rfl) (pa_nil)))) pa_nil)))) (pss_cons ps_dead (pss_one ps_dead)) (pss_nil))
      (pss_cons (ps_if (pt_val (pe_callB call_isi (by rfl) Z.isi (by decide +kernel) (pa_cons (pv 0) (pa_cons (pe_bltn (v := .ty "dict") (by rfl) Z.tdict (by decide +kernel) rfl) pa_nil)))) (pss_cons ps_dead (pss_one ps_dead)) (pss_nil))
      (pss_cons (ps_set (i := 2) nd rfl (Or.inl rfl) (pe_cmpR op_eq (pe_callB call_isi (by rfl) Z.isi (by decide +kernel) (pa_cons (pv 0) (pa_cons (pe_bltn (v := .ty "int") (by rfl) Z.int (by decide +kernel) rfl) pa_nil))) (pe_callB call_isi (by rfl) Z.isi (by decide +kernel) (pa_cons (pv 1) (pa_cons (pe_bltn (v := .ty "int") (by rfl) Z.int (by decide +kernel) rfl) pa_nil))) (nomark _)))
      (pss_one (ps_ret (pe_and (pv 2) (pe_and (pe_cmpR op_eq (pe_callB call_isi (by rfl) Z.isi (by decide +kernel) (pa_cons (pv 0) (pa_cons (pe_bltn (v := .ty "bool") (by rfl) Z.tbool (by decide +kernel) rfl) pa_nil))) (pe_callB call_isi (by rfl) Z.isi (by decide +kernel) (pa_cons (pv 1) (pa_cons (pe_bltn (v := .ty "bool") (by rfl) Z.tbool (by decide +kernel) rfl) pa_nil))) (nomark _)) (pe_one (pe_cmpR op_eq (pv 0) (pv 1) (nomark _)))))))))), ?_⟩
      refine ⟨_, rfl, (by show 2 ≤ sizeLine; decide), fun T hT => ?_⟩
      have s1 : Same H (upd H T (.tup [.ty "list", .ty "tuple"])) := Same.updf hT
      obtain ⟨t', ty', k1', k2', k3', i', b', k4', k5'⟩ := FlatD.ty (K := K) (H := upd H T (.tup [.ty "list", .ty "tuple"])) hx
      refine ⟨y, T, [.ty "list", .ty "tuple"], .type t', [.type "list", .type "tuple"], false, rfl, upd_same, .cons (.ty _) (.cons (.ty _) .nil), ty', kitF k1' k2', false, rfl, iteF ?_⟩
      refine ⟨_, rfl, y, .ty "dict", .type t', .type "dict", false, rfl, .ty _, ty', kit_ty k3', false, rfl, iteF ?_⟩
      refine ⟨_, rfl, y, .ty "int", .type t', .type "int", i', rfl, .ty _, ty', kit_ty k4', _, rfl, y, .ty "int", .type t', .type "int", i', rfl, .ty _, ty', kit_ty k4', rfl, ?_⟩
      rw [decide_eq_true (rfl : V.bl i' = V.bl i')]
      refine ⟨_, rfl, true, rfl, iteT ?_⟩
      refine ⟨_, rfl, y, .ty "bool", .type t', .type "bool", b', rfl, .ty _, ty', kit_ty k5', _, rfl, y, .ty "bool", .type t', .type "bool", b', rfl, .ty _, ty', kit_ty k5', rfl, ?_⟩
      rw [decide_eq_true (rfl : V.bl b' = V.bl b')]
      refine ⟨true, rfl, iteT ?_⟩
      refine ⟨_, rfl, _, rfl, FlatD.scal hx, ?_⟩
      rw [decide_eq_true (rfl : y = y)]
      exact k _ s1
  | succ n ih =>
    refine F.ok sc_exact (fun vs H Q E h => ?_) (fun cdv A outer s H vs Q E hr h => ?_)
    · obtain ⟨x, y, d, rfl, _⟩ := h
      rfl
    · obtain ⟨x, y, d, rfl, hx, hy, k⟩ := h
      have hu : (A.deeper (envOfC "_law_exact" (defScope s_exact) s.heap.objs.size f cdv)).units + 1 < cLine := by
        have := hr.units
        omega
      have nd := sc_exact.nd
      refine ⟨_, PSs.nox (pss_cons (ps_if (pt_val (pe_callB call_isiT (by rfl) Z.isi (by decide +kernel) (pa_cons (pv 0) (pa_cons (pe_tup (pa_cons (pe_bltn (v := .ty "list") (by rfl) Z.tlist (by decide +kernel) rfl) (pa_cons (pe_bltn (v := .ty "tuple") (by rfl) Z.ttuple (by decide +kernel) rfl) (pa_nil)))) pa_nil)))) (pss_cons (ps_set (i := 2) nd rfl (Or.inl rfl) (pe_and (pe_cmpR op_eq (pe_callB call_isi (by rfl) Z.isi (by decide +kernel) (pa_cons (pv 1) (pa_cons (pe_bltn (v := .ty "list") (by rfl) Z.tlist (by decide +kernel) rfl) pa_nil))) (pe_callB call_isi (by rfl) Z.isi (by decide +kernel) (pa_cons (pv 0) (pa_cons (pe_bltn (v := .ty "list") (by rfl) Z.tlist (by decide +kernel) rfl) pa_nil))) (nomark _)) (pe_one (pe_cmpR op_eq (pe_callB call_isi (by rfl) Z.isi (by decide +kernel) (pa_cons (pv 1) (pa_cons (pe_bltn (v := .ty "tuple") (by rfl) Z.ttuple (by decide +kernel) rfl) pa_nil))) (pe_callB call_isi (by rfl) Z.isi (by decide +kernel) (pa_cons (pv 0) (pa_cons (pe_bltn (v := .ty "tuple") (by rfl) Z.ttuple (by decide +kernel) rfl) pa_nil))) (nomark _)))))
      (pss_one (ps_ret (pe_and (pv 2) (pe_and (pe_cmpR op_eq (pe_callB call_len_seq (by rfl) Z.len (by decide +kernel) (pa_cons (pv 0) (pa_nil))) (pe_callB call_len_seq (by rfl) Z.len (by decide +kernel) (pa_cons (pv 1) (pa_nil))) (nomark _)) (pe_one (pe_callB (cr_all rfl) (by rfl) Z.all (by decide +kernel) (pa_cons (pe_lc (own := [("_law_a", 3), ("_law_b", 4)]) (g := gTup K 2 (gCons (gName 3) (gCons (gName 4) (gNil)))) (tt := tYes) (te := tCall (spExactD K n) [] E0 (tCons (tVar 3) (tCons (tVar 4) tNil))) (by rfl) nd (pi_zipA (by rfl) Z.zip (pa_cons (pv 0) (pa_cons (pv 1) pa_nil)))
          (blkOk_by (own := [("_law_a", 3), ("_law_b", 4)]) (N := N_exact) (sc := defScope s_exact) (by decide +kernel)) (fun _ _ _ _ _ => pg_tup rfl (pgs_cons (pg_name (i := 3) nd rfl (Or.inl rfl)) (pgs_cons (pg_name (i := 4) nd rfl (Or.inl rfl)) (pgs_nil)))) (fun _ _ _ _ _ => pts_nil)
          (fun _ _ _ _ _ => pe_call ih hr rfl gE F.kp bE .nil pass0 (pa_cons (pv 3) (pa_cons (pv 4) pa_nil)))) (pa_nil))))))))) (pss_nil))
      (pss_cons (ps_if (pt_val (pe_callB call_isi (by rfl) Z.isi (by decide +kernel) (pa_cons (pv 0) (pa_cons (pe_bltn (v := .ty "dict") (by rfl) Z.tdict (by decide +kernel) rfl) pa_nil)))) (pss_cons (ps_set (i := 2) nd rfl (Or.inl rfl) (pe_and (pe_callB call_isi (by rfl) Z.isi (by decide +kernel) (pa_cons (pv 1) (pa_cons (pe_bltn (v := .ty "dict") (by rfl) Z.tdict (by decide +kernel) rfl) pa_nil))) (pe_one (pe_call ih hr rfl gE F.kp bE .nil pass0 (pa_cons (pe_callTy (call_list_dK rfl) (by rfl) Z.tlist (by decide +kernel) (pa_cons (pv 0) pa_nil)) (pa_cons (pe_callTy (call_list_dK rfl) (by rfl) Z.tlist (by decide +kernel) (pa_cons (pv 1) pa_nil)) pa_nil))))))
      (pss_one (ps_ret (pe_and (pv 2) (pe_one (pe_callB (cr_all rfl) (by rfl) Z.all (by decide +kernel) (pa_cons (pe_lock (pe_lc (own := [("_law_key", 5)]) (g := gName 5) (tt := tYes) (te := tCall (spExactD K n) [] E0 (tCons (tDGet (tVar 0) (tVar 5)) (tCons (tDGet (tVar 1) (tVar 5)) tNil))) (by rfl) nd (pi_keys (pv 0))
          (blkOk_by (own := [("_law_key", 5)]) (N := N_exact) (sc := defScope s_exact) (by decide +kernel)) (fun _ _ _ _ _ => pg_name (i := 5) nd rfl (Or.inl rfl)) (fun _ _ _ _ _ => pts_nil)
          (fun _ _ _ _ _ => pe_call ih hr rfl gE F.kp bE .nil pass0 (pa_cons (pe_dget hu (pv 0) (pv 5) (fun _ _ => rfl)) (pa_cons (pe_dget hu (pv 1) (pv 5) (fun _ _ => rfl)) pa_nil))))) (pa_nil)))))))) (pss_nil))
      (pss_cons (ps_set (i := 2) nd rfl (Or.inl rfl) (pe_cmpR op_eq (pe_callB call_isi (by rfl) Z.isi (by decide +kernel) (pa_cons (pv 0) (pa_cons (pe_bltn (v := .ty "int") (by rfl) Z.int (by decide +kernel) rfl) pa_nil))) (pe_callB call_isi (by rfl) Z.isi (by decide +kernel) (pa_cons (pv 1) (pa_cons (pe_bltn (v := .ty "int") (by rfl) Z.int (by decide +kernel) rfl) pa_nil))) (nomark _)))
      (pss_one (ps_ret (pe_and (pv 2) (pe_and (pe_cmpR op_eq (pe_callB call_isi (by rfl) Z.isi (by decide +kernel) (pa_cons (pv 0) (pa_cons (pe_bltn (v := .ty "bool") (by rfl) Z.tbool (by decide +kernel) rfl) pa_nil))) (pe_callB call_isi (by rfl) Z.isi (by decide +kernel) (pa_cons (pv 1) (pa_cons (pe_bltn (v := .ty "bool") (by rfl) Z.tbool (by decide +kernel) rfl) pa_nil))) (nomark _)) (pe_one (pe_cmpR op_eq (pv 0) (pv 1) (nomark _)))))))))), ?_⟩
      rcases hx with hx | ⟨a, xs, ds, rfl, lx, l1, tx, kx⟩ | ⟨a, ps, m, rfl, n1, ha, rfl⟩
      · have hy : FlatD y d := by
          rcases hy with hy | ⟨b, ys, es, rfl, ly, l2, ty, ky⟩ | ⟨b, qs, m', rfl, _, hb, rfl⟩
          · exact hy
          · rcases ty with ⟨_, rfl⟩ | ⟨_, rfl⟩
            · exact (FlatD.noL hx).elim
            · exact (FlatD.noT hx).elim
          · cases hx
        obtain rfl : y = x := FlatD.eq hy hx
        refine ⟨_, rfl, (by show 2 ≤ sizeLine; decide), fun T hT => ?_⟩
        have s1 : Same H (upd H T (.tup [.ty "list", .ty "tuple"])) := Same.updf hT
        obtain ⟨t', ty', k1', k2', k3', i', b', k4', k5'⟩ := FlatD.ty (K := K) (H := upd H T (.tup [.ty "list", .ty "tuple"])) hx
        refine ⟨y, T, [.ty "list", .ty "tuple"], .type t', [.type "list", .type "tuple"], false, rfl, upd_same, .cons (.ty _) (.cons (.ty _) .nil), ty', kitF k1' k2', false, rfl, iteF ?_⟩
        refine ⟨_, rfl, y, .ty "dict", .type t', .type "dict", false, rfl, .ty _, ty', kit_ty k3', false, rfl, iteF ?_⟩
        refine ⟨_, rfl, y, .ty "int", .type t', .type "int", i', rfl, .ty _, ty', kit_ty k4', _, rfl, y, .ty "int", .type t', .type "int", i', rfl, .ty _, ty', kit_ty k4', rfl, ?_⟩
        rw [decide_eq_true (rfl : V.bl i' = V.bl i')]
        refine ⟨_, rfl, true, rfl, iteT ?_⟩
        refine ⟨_, rfl, y, .ty "bool", .type t', .type "bool", b', rfl, .ty _, ty', kit_ty k5', _, rfl, y, .ty "bool", .type t', .type "bool", b', rfl, .ty _, ty', kit_ty k5', rfl, ?_⟩
        rw [decide_eq_true (rfl : V.bl b' = V.bl b')]
        refine ⟨true, rfl, iteT ?_⟩
        refine ⟨_, rfl, _, rfl, FlatD.scal hx, ?_⟩
        rw [decide_eq_true (rfl : y = y)]
        exact k _ s1
      · rcases hy with hy | ⟨b, ys, es, rfl, ly, l2, ty, ky⟩ | ⟨b, qs, m', rfl, _, hb, e⟩
        · rcases tx with ⟨_, rfl⟩ | ⟨_, rfl⟩
          · exact (FlatD.noL hy).elim
          · exact (FlatD.noT hy).elim
        rotate_left
        · rcases tx with ⟨_, rfl⟩ | ⟨_, rfl⟩ <;> cases e
        refine ⟨_, rfl, (by show 2 ≤ sizeLine; decide), fun T hT => ?_⟩
        have s1 : Same H (upd H T (.tup [.ty "list", .ty "tuple"])) := Same.updf hT
        have ll : (1000 : Nat) ≤ 100000 := by decide
        have fin : ∀ (H2 : Hp), Same H H2 → ∀ (D : Addr), H2 D = some (.lst ((List.range xs.length).filterMap fun _ => some (V.bl true))) → ∃ (a : Addr) (bs : List Bool), [V.ref D] = [V.ref a] ∧ SqL K H2 a (bs.map V.bl) ∧ Q (.bl (bs.all id)) H2 := fun H2 s2 D hR => by
          obtain ⟨bs, hB, hb'⟩ := all_bits (K := K) hR
          refine ⟨D, bs, rfl, hB, ?_⟩
          rw [hb']
          exact k H2 s2
        rcases tx with ⟨ha, rfl⟩ | ⟨ha, rfl⟩
        · rcases ty with ⟨hb, e⟩ | ⟨hb, e⟩
          · cases e
            have ha1 := s1 _ _ ha
            have hb1 := s1 _ _ hb
            refine ⟨.ref a, T, [.ty "list", .ty "tuple"], .type "list", [.type "list", .type "tuple"], true, rfl, upd_same, .cons (.ty _) (.cons (.ty _) .nil), .base (.lst ha1), kitAny_cons (kit_ty la) (fun z => nomatch z) (fun _ => rfl), true, rfl, iteT ?_⟩
            refine ⟨_, rfl, .ref b, .ty "list", .type "list", .type "list", true, rfl, .ty _, .base (.lst hb1), kit_ty la, _, rfl, .ref a, .ty "list", .type "list", .type "list", true, rfl, .ty _, .base (.lst ha1), kit_ty la, rfl, true, rfl, iteT ?_⟩
            refine ⟨_, rfl, .ref b, .ty "tuple", .type "list", .type "tuple", false, rfl, .ty _, .base (.lst hb1), kit_ty lt, _, rfl, .ref a, .ty "tuple", .type "list", .type "tuple", false, rfl, .ty _, .base (.lst ha1), kit_ty lt, rfl, ?_⟩
            refine ⟨_, rfl, true, rfl, iteT ?_⟩
            refine ⟨_, rfl, a, xs, rfl, Or.inl (SqL.of ha1), _, rfl, b, ys, rfl, Or.inl (SqL.of hb1), rfl, ?_⟩
            rw [decide_eq_true (show V.int (xs.length : Int) = V.int (ys.length : Int) by rw [lx, ly])]
            refine ⟨true, rfl, iteT ?_⟩
            refine ⟨_, rfl, _, rfl, a, b, xs, ys, rfl, Or.inl ⟨SqL.of ha1, SqL.of hb1, fun D hD => ?_⟩⟩
            refine lc_sel (n := xs.length) (walk_zip (K := K) (a := a) (b := b) (xs := xs) (ys := ys) (by omega)) (fun _ => some (.bl true)) (by omega) hD (fun H2 s2 => ⟨SqL.of (s2 _ _ ha1), SqL.of (s2 _ _ hb1)⟩) ?_ ?_
            · rintro i v H2 H3 Qy Qn hi sH ⟨T2, x1, x2, rfl, nT, rfl, g1, g2⟩ ky' kn
              dsimp only at g1 g2
              refine ⟨T2, [_, _], rfl, .inl (.inl upd_same), rfl, _, [_], rfl, _, [], rfl, rfl, ?_⟩
              have sT : Same H2 (upd H2 T2 (.tup [x1, x2])) := Same.updf nT
              have gd : ds[i]? = some (ds[i]'(by omega)) := List.getElem?_eq_getElem _
              exact ⟨rfl, _, rfl, _, rfl, x1, x2, _, rfl, (kx i x1 _ g1 gd).same (s1.trans (sH.trans sT)), (ky i x2 _ g2 gd).same (s1.trans (sH.trans sT)), fun H5 s5 => ky' _ _ (sT.trans s5) rfl⟩
            · intro H2 s2 hR
              exact fin H2 (s1.trans s2) D hR
          · cases e
        · rcases ty with ⟨hb, e⟩ | ⟨hb, e⟩
          · cases e
          · cases e
            have ha1 := SqT_up s1 ha
            have hb1 := SqT_up s1 hb
            refine ⟨.ref a, T, [.ty "list", .ty "tuple"], .type "tuple", [.type "list", .type "tuple"], true, rfl, upd_same, .cons (.ty _) (.cons (.ty _) .nil), sqT_ty ha1, kitAny_cons (kit_ty tl) (fun _ => kitAny_cons (kit_ty ta) (fun z => nomatch z) (fun _ => rfl)) (fun z => nomatch z), true, rfl, iteT ?_⟩
            refine ⟨_, rfl, .ref b, .ty "list", .type "tuple", .type "list", false, rfl, .ty _, sqT_ty hb1, kit_ty tl, _, rfl, .ref a, .ty "list", .type "tuple", .type "list", false, rfl, .ty _, sqT_ty ha1, kit_ty tl, rfl, true, rfl, iteT ?_⟩
            refine ⟨_, rfl, .ref b, .ty "tuple", .type "tuple", .type "tuple", true, rfl, .ty _, sqT_ty hb1, kit_ty ta, _, rfl, .ref a, .ty "tuple", .type "tuple", .type "tuple", true, rfl, .ty _, sqT_ty ha1, kit_ty ta, rfl, ?_⟩
            refine ⟨_, rfl, true, rfl, iteT ?_⟩
            refine ⟨_, rfl, a, xs, rfl, Or.inr ha1, _, rfl, b, ys, rfl, Or.inr hb1, rfl, ?_⟩
            rw [decide_eq_true (show V.int (xs.length : Int) = V.int (ys.length : Int) by rw [lx, ly])]
            refine ⟨true, rfl, iteT ?_⟩
            refine ⟨_, rfl, _, rfl, a, b, xs, ys, rfl, Or.inr ⟨ha1, hb1, fun D hD => ?_⟩⟩
            refine lc_sel (n := xs.length) (walk_zipT (K := K) (a := a) (b := b) (xs := xs) (ys := ys) (by omega)) (fun _ => some (.bl true)) (by omega) hD (fun H2 s2 => ⟨SqT_up s2 ha1, SqT_up s2 hb1⟩) ?_ ?_
            · rintro i v H2 H3 Qy Qn hi sH ⟨T2, x1, x2, rfl, nT, rfl, g1, g2⟩ ky' kn
              dsimp only at g1 g2
              refine ⟨T2, [_, _], rfl, .inl (.inl upd_same), rfl, _, [_], rfl, _, [], rfl, rfl, ?_⟩
              have sT : Same H2 (upd H2 T2 (.tup [x1, x2])) := Same.updf nT
              have gd : ds[i]? = some (ds[i]'(by omega)) := List.getElem?_eq_getElem _
              exact ⟨rfl, _, rfl, _, rfl, x1, x2, _, rfl, (kx i x1 _ g1 gd).same (s1.trans (sH.trans sT)), (ky i x2 _ g2 gd).same (s1.trans (sH.trans sT)), fun H5 s5 => ky' _ _ (sT.trans s5) rfl⟩
            · intro H2 s2 hR
              exact fin H2 (s1.trans s2) D hR
      · rcases hy with hy | ⟨b, ys, es, rfl, ly, l2, ty, ky⟩ | ⟨b, qs, m', rfl, _, hb, e⟩
        · cases hy
        · rcases ty with ⟨_, e⟩ | ⟨_, e⟩ <;> cases e
        obtain ⟨rfl, em⟩ := dict_inj (PyData.dict.inj e)
        refine ⟨_, rfl, (by show 2 ≤ sizeLine; decide), fun T hT => ?_⟩
        have s1 : Same H (upd H T (.tup [.ty "list", .ty "tuple"])) := Same.updf hT
        have ha1 := s1 _ _ ha
        have hb1 := s1 _ _ hb
        have dl : kitB "dict" "list" = some false := by decide +kernel
        have dt : kitB "dict" "tuple" = some false := by decide +kernel
        refine ⟨.ref a, T, [.ty "list", .ty "tuple"], .type "dict", [.type "list", .type "tuple"], false, rfl, upd_same, .cons (.ty _) (.cons (.ty _) .nil), .base (.dK ha1), kitF dl dt, false, rfl, iteF ?_⟩
        refine ⟨_, rfl, .ref a, .ty "dict", .type "dict", .type "dict", true, rfl, .ty _, .base (.dK ha1), kit_ty (by decide +kernel), true, rfl, iteT ?_⟩
        refine ⟨_, rfl, .ref b, .ty "dict", .type "dict", .type "dict", true, rfl, .ty _, .base (.dK hb1), kit_ty (by decide +kernel), true, rfl, iteT ?_⟩
        have kl : ∀ f : Nat → Nat, ((mV ps f).map fun kv => kV kv.1) = numsV ps := fun f => by
          unfold mV dV numsV
          rw [List.map_map]
          rfl
        refine ⟨_, rfl, a, _, rfl, ha1, fun l1 hl1 => ?_⟩
        rw [kl]
        have s2 := Same.updf (o := .lst (numsV ps)) hl1
        refine ⟨_, rfl, b, _, rfl, s2 _ _ hb1, fun l2 hl2 => ?_⟩
        rw [kl]
        have s3 := Same.updf (o := .lst (numsV ps)) hl2
        have tdl : ∀ (G : Hp) (l : Addr), G l = some (.lst (numsV ps)) → TD K G n (.ref l) (.list (ps.map fun p : Nat => .int (p : Int))) := fun G l e => by
          obtain ⟨n', rfl⟩ : ∃ n', n = n' + 1 := ⟨n - 1, by omega⟩
          refine TD.lst e (by unfold numsV; rw [List.length_map, List.length_map]) (by rw [List.length_map]; exact n1.2.1) fun i u v e1 e2 => ?_
          unfold numsV at e1
          rw [List.getElem?_map] at e1 e2
          obtain ⟨p, q1, rfl⟩ := Option.map_eq_some_iff.mp e1
          rw [q1] at e2
          cases e2
          exact TD.flat (.int _)
        refine ⟨.ref l1, .ref l2, _, rfl, tdl _ _ (s3 _ _ upd_same), tdl _ _ upd_same, fun G s4 => ?_⟩
        have s14 := s1.trans ((s2.trans s3).trans s4)
        have haG := s14 _ _ ha
        have hbG := s14 _ _ hb
        refine ⟨_, rfl, true, rfl, iteT ?_⟩
        refine ⟨a, _, haG, trivial, fun od => ?_⟩
        refine ⟨_, rfl, a, od, rfl, .inl ⟨_, upd_same, fun D hD => ?_⟩⟩
        have nDa : D ≠ a := fun z => by
          rw [z, upd_same] at hD
          cases hD
        have hDG : G D = none := by
          rw [upd_ne nDa] at hD
          exact hD
        refine lc_sel (n := ps.length) (by have := walk_keys (d := a) (o := od) (kvs := mV ps m); rw [dV_len] at this; exact this) (fun _ => some (.bl true)) (by have := n1.2.1; omega) hD (fun H2 q2 => q2 _ _ upd_same) ?_ ?_
        · rintro i v H2 H3 Qy Qn hi sH ⟨rfl, k', v', ek, rfl⟩ ky' kn
          have ei : (mV ps m)[i]? = some (ky ps[i], .int (m ps[i] : Int)) := by
            unfold mV dV
            rw [List.getElem?_map, List.getElem?_eq_getElem hi]
            rfl
          rw [ei] at ek
          cases ek
          have mp := List.getElem_mem hi
          have fa := sH _ _ upd_same
          have da : DGet H3 a (.int (ps[i] : Int)) (some (.int (m ps[i] : Int))) := .inl ⟨_, ky ps[i], .inr ⟨od, fa⟩, rfl, (mV_val mp).symm⟩
          have db : DGet H3 b (.int (ps[i] : Int)) (some (.int (m' ps[i] : Int))) := by
            by_cases z : b = a
            · have e1 : mV ps m = mV ps m' := dV_congr fun p hp => by rw [em p hp]
              rw [z]
              exact .inl ⟨_, ky ps[i], .inr ⟨od, by rw [← e1]; exact fa⟩, rfl, (mV_val mp).symm⟩
            · exact .inl ⟨_, ky ps[i], .inl (sH _ _ (by rw [upd_ne z]; exact hbG)), rfl, (mV_val mp).symm⟩
          refine ⟨rfl, _, rfl, _, rfl, a, _, rfl, da, _, rfl, _, rfl, b, _, rfl, db, ?_⟩
          rw [← em _ mp]
          exact ⟨_, _, _, rfl, TD.flat (.int _), TD.flat (.int _), fun H5 s5 => ky' _ _ s5 rfl⟩
        · intro H2 q2 hR
          refine ⟨q2 _ _ upd_same, ?_⟩
          obtain ⟨bs, hB, hb'⟩ := all_bits (K := K) hR
          have hR2 : (upd H2 a (.dK (mV ps m))) D = some (.lst ((List.range ps.length).filterMap fun _ => some (V.bl true))) := by
            rw [upd_ne nDa]
            exact hR
          obtain ⟨bs, hB, hb'⟩ := all_bits (K := K) hR2
          refine ⟨D, bs, rfl, hB, ?_⟩
          rw [hb']
          refine k _ fun c o e => ?_
          by_cases z : c = a
          · rw [z, ha] at e
            cases e
            rw [z, upd_same]
          · rw [upd_ne z]
            exact q2 _ _ (by rw [upd_ne z]; exact s14 _ _ e)
end
end K19
set_option Elab.async false
set_option linter.all false
set_option maxRecDepth 100000
set_option maxHeartbeats 4000000
/-! x in l, l a list of dictionaries from keys to ints, x such a one. -/
namespace PySem.SeqAt
open AutoSeq1 (wpAny_loadPart')
open MeetsSeq MeetsSeq2 MeetsSeq3 SeqRoads2
section
variable {prog : Program} {w : World}
theorem kim_loop (l : Addr) (items : Array Value) (n : Nat) (dd : Option Addr) (sl : Array (Option Value)) (x : Value) (e : Nat → Bool) (k : Nat) :
    ∀ i : Nat, items.size - i = k → MeetsIn prog w (Builtin.«list.__contains__.loop» ⟨[.ref l, x, rawInt i], []⟩)
      (fun A R s => s.heap.get? l = some { cls := .type "list", dict := dd, data := .seq items n, slots := sl } ∧ (∀ j (h : j < items.size), EqP prog w A.in1 s items[j] x (e j)) ∧ R (.ok (.ret (.bool (((List.range items.size).drop i).any e)))) s) := by
  induction k with
  | zero =>
    intro i hk A R s h
    obtain ⟨hp, g, d, tk, os⟩ := s; obtain ⟨hl, he, h⟩ := h
    wp_walk using wpAny_loadPart' hl
    have hi : items[((i : Nat) : Int).toNat]? = none := by simp; omega
    have hd : (List.range items.size).drop i = [] := by simp; omega
    rw [hd] at h
    rw [hi]
    wp_walk
    exact h
  | succ k ih =>
    intro i hk A R s h
    obtain ⟨hp, g, d, tk, os⟩ := s; obtain ⟨hl, he, h⟩ := h
    wp_walk using wpAny_loadPart' hl
    have hlt : i < items.size := by omega
    have hi : items[((i : Nat) : Int).toNat]? = some items[i] := by simp [hlt]
    have hd : (List.range items.size).drop i = i :: (List.range items.size).drop (i + 1) := by simp [List.drop_eq_getElem_cons, hlt]
    rw [hd, List.any_cons] at h
    rw [hi]
    refine wpAny_bind (he i hlt _ _ ?_)
    cases hb : e i with
    | true =>
      rw [hb] at h
      wp_walk
      exact h
    | false =>
      rw [hb] at h
      have hc : ((i : Int) + 1) = ((i + 1 : Nat) : Int) := by push_cast; rfl
      wp_walk
      rw [hc]
      exact ⟨plainId_quiet plain_contains_loop _, codeAny_builtin entry_contains_loop (by
        rw [Around.under_plainId plain_contains_loop _]
        exact ih (i + 1) (by omega) A R _ ⟨hl, he, by simpa using h⟩)⟩
theorem kim_contains (l : Addr) (items : Array Value) (n : Nat) (dd : Option Addr) (sl : Array (Option Value)) (x : Value) (e : Nat → Bool) :
    MeetsIn prog w (Builtin.«list.__contains__» ⟨[.ref l, x], []⟩)
      (fun A R s => s.heap.get? l = some { cls := .type "list", dict := dd, data := .seq items n, slots := sl } ∧ (∀ j (h : j < items.size), EqP prog w A.in1 s items[j] x (e j)) ∧ R (.ok (.ret (.bool ((List.range items.size).any e)))) s) := by
  intro A R s h
  obtain ⟨hp, g, d, tk, os⟩ := s; obtain ⟨hl, he, h⟩ := h
  wp_walk using wpAny_loadPart' hl
  exact ⟨plainId_quiet plain_contains_loop _, codeAny_builtin entry_contains_loop (by
    rw [Around.under_plainId plain_contains_loop _]
    exact kim_loop l items n dd sl x e _ 0 rfl A R _ ⟨hl, he, by simpa using h⟩)⟩
theorem kim_in {A : Around} {E : Value → Shared → Prop} {s : Shared} {l : Addr} {items : Array Value} {x : Value} {Q : Value → Shared → Prop} (e : Nat → Bool) (hl : s.heap.IsList l items) (he : ∀ j (h : j < items.size), EqP prog w A.in1 s items[j] x (e j))
    (h : Q (.bool ((List.range items.size).any e)) s) : wpAny (model prog w) A (compareOp .In x (.ref l)) Q E s := by
  obtain ⟨⟨cls, dd, data, sl⟩, ho, hc, n, hd⟩ := id hl
  simp only at hc hd
  subst hc hd
  have hT : s.TypeIs (.ref l) "list" := ⟨_, ho, rfl⟩
  show wpAny _ A (do return .bool (← contains (.ref l) x)) Q E s
  refine wpAny_bind (wpAny_contains_slot hT F.slot_list_contains (wpAny_mono (call_meetsIn F.slot_list_contains hT F.entry_list_contains (F.args_list_contains_2 _ _) (kim_contains l items n dd sl x e) ⟨ho, he, (show wants (fun v s' => ∃ b, v = .bool b ∧ Q (.bool b) s') E _ s from ⟨_, rfl, h⟩)⟩) (fun v s' hv => ?_) fun _ _ e => e))
  obtain ⟨b, rfl, hq⟩ := hv
  exact wpAny_truthy_bool (wpAny_pure hq)
theorem kim_notIn {A : Around} {E : Value → Shared → Prop} {s : Shared} {l : Addr} {items : Array Value} {x : Value} {Q : Value → Shared → Prop} (e : Nat → Bool) (hl : s.heap.IsList l items) (he : ∀ j (h : j < items.size), EqP prog w A.in1 s items[j] x (e j))
    (h : Q (.bool (!(List.range items.size).any e)) s) : wpAny (model prog w) A (compareOp .NotIn x (.ref l)) Q E s := by
  obtain ⟨⟨cls, dd, data, sl⟩, ho, hc, n, hd⟩ := id hl
  simp only at hc hd
  subst hc hd
  have hT : s.TypeIs (.ref l) "list" := ⟨_, ho, rfl⟩
  show wpAny _ A (do return .bool (!(← contains (.ref l) x))) Q E s
  refine wpAny_bind (wpAny_contains_slot hT F.slot_list_contains (wpAny_mono (call_meetsIn F.slot_list_contains hT F.entry_list_contains (F.args_list_contains_2 _ _) (kim_contains l items n dd sl x e) ⟨ho, he, (show wants (fun v s' => ∃ b, v = .bool b ∧ Q (.bool (!b)) s') E _ s from ⟨_, rfl, h⟩)⟩) (fun v s' hv => ?_) fun _ _ e => e))
  obtain ⟨b, rfl, hq⟩ := hv
  exact wpAny_truthy_bool (wpAny_pure hq)
end
end PySem.SeqAt
namespace L2
open PySem PySem.Spec PyProof.Rows
theorem kim_hits {A : Around} {s : Shared} {kvs : List (Key × V)} {vb : List (Key × Value)} (rb : KV kvs vb) {ks : List (Key × V)} {va : List (Key × Value)} (ra : KV ks va) {P : Program} {w : World} :
    (∀ p ∈ ks, ∃ i j : Int, p.2 = .int i ∧ valV kvs p.1 = some (.int j)) → PySem.W.KeqHitsP P w A s vb va (ks.all fun p => decide (valV kvs p.1 = some p.2)) := by
  unfold KV at ra
  induction ra with
  | nil => intro _; exact .nil
  | @cons p q ps qs h t ih =>
    intro hp
    obtain ⟨h1, h2⟩ := h
    obtain ⟨i, j, e1, e2⟩ := hp p List.mem_cons_self
    have rr : RelO (some (V.int j)) (valueAt vb p.1) := by rw [← e2]; exact rb.val p.1
    obtain ⟨y, hy, ry⟩ := rr.some_of
    obtain ⟨k, v⟩ := q
    have h1' : p.1 = k := h1
    rw [h1'] at hy
    rw [List.all_cons]
    have h2' : RelV p.2 v := h2
    rw [e1] at h2'
    obtain ⟨t1, rfl⟩ := h2'
    obtain ⟨t2, rfl⟩ := ry
    have eb : decide (valV kvs p.1 = some p.2) = (i == j) := by
      rw [e1, e2, Bool.eq_iff_iff]
      simp
      exact eq_comm
    rw [eb]
    exact .hit hy ((MeetsSeq.EqGives.int i j t1 t2).at A s).eqP (ih fun p' hm => hp p' (List.mem_cons_of_mem _ hm))
/-- e i: whether the i-th of xs is equal to the dictionary ls -/
def EqMs (H : Hp) (a : Addr) (ls : List (Key × V)) (xs : List V) (e : Nat → Bool) : Prop :=
  ∀ (i : Nat) (v : V), xs[i]? = some v → ∃ (c : Addr) (ks : List (Key × V)), v = .ref c ∧ c ≠ a ∧ H c = some (.dK ks) ∧ ks.length = ls.length ∧ (∀ p ∈ ks, ∃ i j : Int, p.2 = .int i ∧ valV ls p.1 = some (.int j)) ∧ e i = ks.all fun p => decide (valV ls p.1 = some p.2)
section
variable {X : Cx} {pins : List (Addr × Obj)} {σ : St} {H : Hp} {s : Shared}
theorem kim_eqs (I : Inv X pins σ H s) {A : Around} (hu : A.units < cLine) {a : Addr} {ls : List (Key × V)} {xs : List V} {its : List Value} (ea : H a = some (.dK ls)) (hx : Vals xs its) {e : Nat → Bool} (h : EqMs H a ls xs e) :
    ∀ j (hj : j < its.toArray.size), SeqAt.EqP X.prog X.w A s its.toArray[j] (.ref a) (e j) := by
  intro j hj
  have lj : j < its.length := by simpa using hj
  have lx : j < xs.length := by
    have := hx.length
    omega
  obtain ⟨c, ks, ev, ne, ec, len, hp, eb⟩ := h j _ (List.getElem?_eq_getElem lx)
  obtain ⟨u0, eu, rj⟩ := hx.get (List.getElem?_eq_getElem lx)
  rw [List.getElem?_eq_getElem lj] at eu
  cases eu
  rw [ev] at rj
  have rj' : its[j] = Value.ref c := rj
  have e0 : its.toArray[j] = Value.ref c := by simpa using rj'
  rw [e0]
  obtain ⟨_, ya, va, ra, da⟩ := (show ObjOk X.prog X.w H s.heap a (.dK ls) from I.hok a _ ea)
  obtain ⟨_, yc, vc, rc, dc⟩ := (show ObjOk X.prog X.w H s.heap c (.dK ks) from I.hok c _ ec)
  have hl : vc.length = va.length := by rw [← ra.length, ← rc.length]; exact len
  refine SeqAt.eqP_refs ne fun E Q q => PySem.W.rcP_dicts (knd := mixKind X.prog X.w) (r := e j) yc ya dc da hu (fun _ => by rw [eb]; exact kim_hits ra rc hp) E Q ?_
  rw [show (vc.length == va.length) = true by simpa using hl, Bool.true_and]
  exact q
def rInM (K : PySem.W.Frag) (neg : Bool) : R2 := fun x y H Q => ∃ (a L : Addr) (ls : List (Key × V)) (xs : List V) (e : Nat → Bool), x = .ref a ∧ y = .ref L ∧ H a = some (.dK ls) ∧ SqL K H L xs ∧ EqMs H a ls xs e ∧ Q (.bl (((List.range xs.length).any e) != neg)) H
theorem op_notInM (hu : X.A.units + 1 < cLine) : OpR X (compareOp .NotIn) (rInM X.K true) := by
  intro pins s σ H x y v u Q I rx ry h
  obtain ⟨a, L, ls, xs, e, rfl, rfl, ea, hs, he, q⟩ := h
  obtain rfl : v = Value.ref a := rx
  obtain rfl : u = Value.ref L := ry
  obtain ⟨its, rv, ho, hlen⟩ := I.list hs
  obtain ⟨⟨cls, dd, data, sls⟩, n, ho, hc, hdn, hdt⟩ := ho
  have hL : s.heap.IsList L its.toArray := ⟨_, ho, hc, n, hdt⟩
  refine SeqAt.kim_notIn e hL (kim_eqs I (show X.A.in1.units < cLine from hu) ea rv he) ⟨.bl _, H, I, rfl, ?_⟩
  have l := rv.length
  have es : its.toArray.size = xs.length := by simp [l]
  rw [es]
  have z : ∀ b : Bool, (b != true) = !b := by decide
  rw [z] at q
  exact q
theorem op_inM (hu : X.A.units + 1 < cLine) : OpR X (compareOp .In) (rInM X.K false) := by
  intro pins s σ H x y v u Q I rx ry h
  obtain ⟨a, L, ls, xs, e, rfl, rfl, ea, hs, he, q⟩ := h
  obtain rfl : v = Value.ref a := rx
  obtain rfl : u = Value.ref L := ry
  obtain ⟨its, rv, ho, hlen⟩ := I.list hs
  obtain ⟨⟨cls, dd, data, sls⟩, n, ho, hc, hdn, hdt⟩ := ho
  have hL : s.heap.IsList L its.toArray := ⟨_, ho, hc, n, hdt⟩
  refine SeqAt.kim_in e hL (kim_eqs I (show X.A.in1.units < cLine from hu) ea rv he) ⟨.bl _, H, I, rfl, ?_⟩
  have l := rv.length
  have es : its.toArray.size = xs.length := by simp [l]
  rw [es]
  have z : ∀ b : Bool, (b != false) = b := by decide
  rw [z] at q
  exact q
end
end L2
set_option Elab.async false
set_option linter.all false
set_option maxRecDepth 100000
set_option maxHeartbeats 4000000
/-! Comprehensions whose items are new objects: a relation for each turn. -/
namespace L2
open PySem PySem.Spec PyProof.Rows KB
theorem paired_snoc {α β : Type} {F : α → β → Prop} : ∀ {xs : List α} {ys : List β} {x : α} {y : β}, Paired F xs ys → F x y → Paired F (xs ++ [x]) (ys ++ [y])
  | _, _, _, _, .nil, h => .cons h .nil
  | _, _, _, _, .cons r t, h => .cons r (paired_snoc t h)
theorem paired_mono {α β : Type} {F G : α → β → Prop} : ∀ {xs : List α} {ys : List β}, (∀ x y, F x y → G x y) → Paired F xs ys → Paired G xs ys
  | _, _, _, .nil => .nil
  | _, _, k, .cons r t => .cons (k _ _ r) (paired_mono k t)
theorem off_upd_le {H : Hp} {D : Addr} {o : HO} : Same (KB.off H D) (upd H D o) := fun b u e => by
  by_cases n : b = D
  · unfold KB.off at e
    rw [if_pos n] at e
    cases e
  · rw [off_at n] at e
    rw [upd_ne n]
    exact e
/-- turn i gives, if c i, an item y with R i y; what stood stays -/
theorem lc_rel {J : It} {n : Nat} {G : Hp → Prop} {Y : Nat → Hp → V → Hp → Prop} (w : Walk J n G Y) {g : TG} {tt : TT} {te : TE} {vs : List Nat} {σ : St} {H1 : Hp} {D : Addr} {Qd : Hp → Prop} (c : Nat → Bool) (R : Nat → V → Hp → Prop)
    (hR : ∀ i y H H', Same H H' → R i y H → R i y H') (hn : n ≤ 100000) (hD : H1 D = none) (hG : ∀ H, Same H1 H → G H)
    (hs : ∀ i x H H' (Qy : V → Hp → Prop) (Qn : Hp → Prop), i < n → Same H1 H → (∃ acc, H D = some (.lst acc)) → Y i H x H' → (∀ y H4, c i = true → Same H H4 → R i y (KB.off H4 D) → Qy y H4) → (∀ H4, c i = false → Same H H4 → Qn H4) →
      g x (wipe σ vs) H' fun σ2 H2 => wipe σ2 vs = wipe σ vs ∧ tt σ2 H2 fun b H3 => if b = true then te σ2 H3 Qy else Qn H3)
    (hd : ∀ H ys, Same H1 H → H D = some (.lst ys) → Paired (fun i y => R i y (KB.off H D)) ((List.range n).filter c) ys → Qd H) :
    ∃ W : Nat → Nat → Hp → Prop, (∃ m, W 0 m (upd H1 D (.lst []))) ∧ ∀ i m H, W i m H →
      (J.stop i H ∧ Qd H) ∨ (J.go i H ∧ ∃ Nx : Hp → Prop, (∀ H', Nx H' → ∃ m', m' < m ∧ W (i + 1) m' H') ∧ ∀ x H', J.yld i H x H' → g x (wipe σ vs) H' fun σ2 H2 => wipe σ2 vs = wipe σ vs ∧ tt σ2 H2 fun b H3 =>
        if b = true then te σ2 H3 fun y H4 => ∃ acc, H4 D = some (.lst acc) ∧ acc.length < sizeLine ∧ Nx (upd H4 D (.lst (acc ++ [y]))) else Nx H3) := by
  refine lc_it w (fun i H => Same H1 H ∧ ∃ ys, H D = some (.lst ys) ∧ ys.length ≤ i ∧ Paired (fun i y => R i y (KB.off H D)) ((List.range i).filter c) ys) ⟨Same.updf hD, [], upd_same, Nat.le_refl _, .nil⟩ (fun i H _ h => hG H h.1) (fun i x H H' hi hP hy => ?_) (fun H h => ?_)
  · obtain ⟨s1, ys, hD', ly, py⟩ := hP
    refine hs i x H H' _ _ hi s1 ⟨ys, hD'⟩ hy (fun y H4 e s4 r => ?_) (fun H4 e s4 => ?_)
    · have l2 : (100000 : Nat) < sizeLine := by decide
      refine ⟨ys, s4 _ _ hD', by omega, fun b o eb => ?_, ys ++ [y], upd_same, by rw [List.length_append]; exact Nat.succ_le_succ ly, ?_⟩
      · rw [upd_ne (ne_of_none eb hD)]
        exact s4 _ _ (s1 _ _ eb)
      · rw [List.range_succ, List.filter_append, List.filter_cons, if_pos e, List.filter_nil, off_upd]
        exact paired_snoc (paired_mono (fun i y h => hR i y _ _ (off_same D s4) h) py) r
    · refine ⟨s1.trans s4, ys, s4 _ _ hD', by omega, ?_⟩
      rw [List.range_succ, List.filter_append, List.filter_cons, if_neg (by rw [e]; exact Bool.false_ne_true), List.filter_nil, List.append_nil]
      exact paired_mono (fun i y h => hR i y _ _ (off_same D s4) h) py
  · obtain ⟨s1, ys, hD', ly, py⟩ := h
    exact hd H ys s1 hD' py
/-- pairs on the heap, taken for a dictionary's -/
theorem pairs_addr {K : PySem.W.Frag} {H : Hp} : ∀ {is : List Nat} {ys : List V} {f : Nat → Key × V}, Paired (fun i y => ∃ T, y = .ref T ∧ H T = some (.tup [kV (f i).1, (f i).2])) is ys →
    ∃ ps : List Addr, ys = ps.map V.ref ∧ Paired (fun p kv => SqT K H p [kV kv.1, kv.2]) ps (is.map f)
  | _, _, _, .nil => ⟨[], rfl, .nil⟩
  | _, _, _, .cons r t => by
    obtain ⟨T, rfl, h⟩ := r
    obtain ⟨ps, rfl, p⟩ := pairs_addr t
    exact ⟨T :: ps, rfl, .cons (SqT.of h) p⟩
end L2
namespace KB
open PySem PySem.Spec PyProof.Rows L2
def rDictP (K : PySem.W.Frag) : List V → Hp → VK → Prop := fun xs H Q => ∃ (a : Addr) (ps : List Addr) (kvs : List (Key × V)), xs = [.ref a] ∧ SqL K H a (ps.map V.ref) ∧ Paired (fun p kv => SqT K H p [kV kv.1, kv.2]) ps kvs ∧
    ∀ p, H p = none → Q (.ref p) (upd H p (.dK (mergeK [] kvs)))
theorem call_dictPR {X : Cx} (hc : X.calm = true) : CallR X (.type "dict") (rDictP X.K) := call_dictP hc
def rDictD : List V → Hp → VK → Prop := fun xs H Q => ∃ (a : Addr) (kvs : List (Key × V)), xs = [V.ref a] ∧ Rd H a (.dK kvs) ∧ ∀ p, H p = none → Q (.ref p) (upd H p (.dK kvs))
theorem call_dictDR {X : Cx} : CallR X (.type "dict") rDictD := call_dictD
end KB
namespace KB
open PySem PySem.Spec PyProof.Rows L2
def rSortDI : List V → Hp → VK → Prop := fun xs H Q => ∃ (a : Addr) (kvs : List (Key × V)) (ks : List Int), xs = [V.ref a] ∧ Rd H a (.dK kvs) ∧ kvs.map (·.1) = ks.map Sum.inl ∧ ks.length < 64 ∧
    ∀ (ys : List Int) (p : Addr), ys.Perm ks → ys.Pairwise (· ≤ ·) → H p = none → Q (.ref p) (upd H p (.lst (ys.map V.int)))
theorem cr_sortedDI {X : Cx} (hc : X.calm = true) : CallR X (.builtin "sorted") rSortDI := call_sortedDI hc
end KB
set_option Elab.async false
set_option linter.all false
set_option maxRecDepth 100000
set_option maxHeartbeats 4000000
/-! An own exception class over ValueError called with keywords: the same object comes as without. -/
namespace PySem
namespace KwX
open PySem.W PySem.Calls PyProof.Rows PySem.HandSPX
section
variable {M : Model} {A : Around} {E : Value → Shared → Prop} {h : Heap} {g : Array GenState} {d : Drawn} {t : Nat} {os : OsState}
variable {nm q : Str} {C N : Addr} {bs bm bmB : List Value} {hdct : Bool} {sn : List Str} {sub : List Value} {ab : Bool} {col : Option Bool} {dd : Option Addr}
variable {k0 k1 k2 k3 k5 : Option Value} {B newId initId : String} {kw : List (Str × Value)}

theorem chk (F : ExcBaseFacts B newId initId bmB) (hT : ∀ X : String, bm.contains (.type X) = bmB.contains (.type X))
    {rest : List Value} {Q : Unit → Shared → Prop}
    (hC : h.get? C = some (excClassObj nm q C N bs bm hdct sn sub ab col dd k0 k1 k2 k3 k5 newId))
    (hq : Q () ⟨h, g, d, t, os⟩) :
    wpAny M A (checkBuiltinCall newId ⟨.ref C :: rest, kw⟩) Q E ⟨h, g, d, t, os⟩ := by
  have hB : (Value.ref C :: bm).contains (.type B) = true := by
    rw [List.contains_cons, hT, F.hasB, Bool.or_true]
  have hs := F.noStar
  simp only [checkBuiltinCall, F.newKind, F.newSplit, F.newRow]
  repeat (first
    | refine wpAny_loadPart_at hC ?_
    | (refine wpAny_isSubtype_exc hC ?_; rw [hB])
    | refine wpAny_staticBase_exc hC ?_
    | refine wpAny_madeBy_exc hC ?_
    | simp only [bne_self_eq_false, Bool.false_eq_true, if_false]
    | wp_step)
  exact hq
end

section
variable {prog : Program} {w : World} {A : Around} {E : Value → Shared → Prop} {R : Result → Shared → Prop} {h : Heap} {g : Array GenState} {d : Drawn} {t : Nat} {os : OsState}
variable {nm q : Str} {C N : Addr} {bs bm bmB : List Value} {hdct : Bool} {sn : List Str} {sub : List Value} {ab : Bool} {col : Option Bool} {dd : Option Addr}
variable {k0 k1 k2 k3 k5 : Option Value} {B newId initId : String} {kw : List (Str × Value)}

theorem made (F : ExcBaseFacts B newId initId bmB) (hT : ∀ X : String, bm.contains (.type X) = bmB.contains (.type X)) {rest : List Value}
    (hC : h.get? C = some (excClassObj nm q C N bs bm hdct sn sub ab col dd k0 k1 k2 k3 k5 newId))
    (hq : R (.ok (.ret (.ref (h.objs.size + 1)))) ⟨(h.push (W.kdv_tup rest)).push (excO C h.objs.size), g, d, t, os⟩)
    (hrest : rest.length ≤ sizeLine) : codeAny (model prog w) A (.builtin newId ⟨.ref C :: rest, kw⟩) R ⟨h, g, d, t, os⟩ := by
  have he := F.ends
  have hB : (Value.ref C :: bm).contains (.type B) = true := by
    rw [List.contains_cons, hT, F.hasB, Bool.or_true]
  have hA : (Value.ref C :: bm).contains (.type "AttributeError") = false := by
    rw [List.contains_cons, hT, F.noAttr]
    rfl
  have hN : (Value.ref C :: bm).contains (.type "NameError") = false := by
    rw [List.contains_cons, hT, F.noName]
    rfl
  refine codeAny_builtinAt F.entry ?_
  unfold Builtin.«BaseException.__new__»
  refine wpAt_bind ?_
  show wpAt _ _ _ (stack >>= _) _ _ _
  refine wpAt_bind (wpAt_stack fun p below => wpAt_of_wpAny ?_)
  wp_walk
  refine wpAt_of_wpAny ?_
  rw [F.owner]
  repeat (first
    | with_reducible refine wpAny_madeHere_exc F.canon hC ?_
    | with_reducible refine wpAny_loadPart_at hC ?_
    | (with_reducible refine wpAny_isSubtype_exc hC ?_; first | rw [hB] | rw [hA] | rw [hN])
    | wp_step)
  show R _ _
  rw [Heap.size_push]
  exact hq

theorem tcall (F : ExcBaseFacts B newId initId bmB) (hT : ∀ X : String, bm.contains (.type X) = bmB.contains (.type X)) {rest : List Value} {fI : Addr} {Q : Fin → Shared → Prop}
    (hC : h.get? C = some (excClassObj nm q C N bs bm hdct sn sub ab col dd k0 k1 k2 k3 k5 newId))
    (hi : W.Looks (model prog w) h (typeLookup (.ref C) "__init__") (some (.ref fI)))
    (hb : ∀ self, W.Looks (model prog w) h (bindSpecial (.ref fI) self) (.ref fI, [self])) (hrest : rest.length ≤ sizeLine)
    (hq : codeAny (model prog w) A (.call (.ref fI) ⟨.ref (h.objs.size + 1) :: rest, kw⟩)
      (fun r s' => match r with
        | .ok (.ret v) => v = .none ∧ Q (.done (.ret (.ref (h.objs.size + 1)))) s'
        | .ok _ => False
        | .error e => E e s') ⟨(h.push (W.kdv_tup rest)).push (excO C h.objs.size), g, d, t, os⟩) :
    wpAny (model prog w) A (Builtin.«type.__call__» ⟨.ref C :: rest, kw⟩) Q E ⟨h, g, d, t, os⟩ := by
  repeat (first
    | with_reducible refine wpAny_loadPart_at hC ?_
    | with_reducible refine wpAny_madeBy_exc hC ?_
    | wp_step)
  refine codeAny_call_builtin_code (Code.quiet_builtin _ F.quiet) (chk F hT hC ?_)
  refine made F hT hC ?_ hrest
  show wpAny _ _ _ _ _ _
  have k : ∀ b o, h.get? b = some o → ((h.push (W.kdv_tup rest)).push (excO C h.objs.size)).get? b = some o :=
    fun b o e => Heap.get?_push_of_some _ (Heap.get?_push_of_some _ e)
  have c1 := k _ _ hC
  have hg : ((h.push (W.kdv_tup rest)).push (excO C h.objs.size)).get? (h.objs.size + 1) = some (excO C h.objs.size) := by heap_get
  have cc : (Value.ref C :: bm).contains (.ref C) = true := by simp
  have i1 := hi.keeps k
  have b1 := (hb (.ref (h.objs.size + 1))).keeps k
  unfold isInstance
  repeat (first
    | with_reducible refine wpAny_loadPart_at hg ?_
    | (with_reducible refine wpAny_isSubtype_exc c1 ?_; rw [cc])
    | wp_step)
  show wpAny _ _ (typeLookup (.ref C) _) _ _ _
  refine i1.at (wpAny_holding (wpAny_bind (b1.at ?_)))
  refine wpAny_bind (wpAny_call (codeAny_mono hq fun r s' z => ?_))
  rcases r with e | (v | _ | _ | _) <;> first | exact z | exact z.elim | skip
  obtain ⟨rfl, z⟩ := z
  first
    | exact wpAny_pure (wpAny_pure z)
    | (wp_walk; exact z)

/-- C(.., k = v): the object, then __init__ with the same arguments -/
theorem callk (F : ExcBaseFacts B newId initId bmB) (hT : ∀ X : String, bm.contains (.type X) = bmB.contains (.type X)) {rest : List Value} {fI : Addr}
    (hC : h.get? C = some (excClassObj nm q C N bs bm hdct sn sub ab col dd k0 k1 k2 k3 k5 newId))
    (hi : W.Looks (model prog w) h (typeLookup (.ref C) "__init__") (some (.ref fI)))
    (hb : ∀ self, W.Looks (model prog w) h (bindSpecial (.ref fI) self) (.ref fI, [self])) (hrest : rest.length ≤ sizeLine)
    (hq : codeAny (model prog w) (A.under (.builtin "type.__call__" ⟨.ref C :: rest, kw⟩)) (.call (.ref fI) ⟨.ref (h.objs.size + 1) :: rest, kw⟩)
      (W.InitBack (h.objs.size + 1) R) ⟨(h.push (W.kdv_tup rest)).push (excO C h.objs.size), g, d, t, os⟩) :
    codeAny (model prog w) A (.call (.ref C) ⟨rest, kw⟩) R ⟨h, g, d, t, os⟩ := by
  have f1 := tc_lookup
  have f2 := tc_bind (.ref C)
  have hTy : (⟨h, g, d, t, os⟩ : Shared).TypeIs (.ref C) "type" := ⟨_, hC, rfl⟩
  refine codeAny_of_tree ?_
  show wpAny _ _ (callAny (.ref C) _) _ _ _
  repeat (any_goals (first
    | assumption
    | with_reducible refine wpAny_loadPart_at hC ?_
    | wp_step))
  refine ⟨rfl, ?_⟩
  refine codeAny_call_builtin_at (Code.quiet_builtin _ (by decide +kernel)) entry_typeCall (wpAny_check_type_call_sub hC (tcall F hT hC hi hb hrest ?_))
  refine codeAny_mono hq fun r s' z => ?_
  rcases r with e | (v | _ | _ | _) <;> exact z
end
end KwX
end PySem
set_option Elab.async false
set_option linter.all false
set_option maxRecDepth 100000
set_option maxHeartbeats 4000000
/-! Errors of the program's own as values: made, asked for their class, read. -/
namespace PySem.W
open PySem PySem.Spec PySem.Calls PyProof.Rows
section
variable {prog : Program} {w : World} {A : Around} {E : Value → Shared → Prop} {s : Shared} {K : Frag} {x D : Addr} {ox : Obj} {od : Option Obj}
theorem err_find (hc : (clsIn K D).isSome = true) (ha : findIn K (.ref D) "__class__" = some (some (.builtin "object.__class__")))
    (hg : specialIn K (.builtin "object.__class__") "__get__" = some (some (.builtin "getset_descriptor.__get__"))) (ht : takesIn K (.builtin "object.__class__") = some true) :
    findObj K D od "__class__" = some (.bind (.builtin "getset_descriptor.__get__") (.builtin "object.__class__")) := by
  cases od with
  | none => exact findObj_dataN hc ha hg ht
  | some o => exact findObj_data hc ha hg ht
/-- x.__class__ of an error, with a dict of its own or without one -/
theorem err_class {Q : Option Value → Shared → Prop} (T : L2.ExcC K D) (X : K.In s.heap) (I : InstAt s.heap x ox D od)
    (h : Q (some (.ref D)) { s with toks := s.toks + 1 }) : wpAny (model prog w) A (getAttr? (.ref x) "__class__") Q E s := by
  have hf := err_find (od := od) (K := K) (D := D) (by obtain ⟨cd, hc, _⟩ := any_some T.hd; rw [hc]; rfl) T.ha T.hn T.ht
  obtain ⟨hp, g, d, t, os⟩ := s
  have A0 := I.type (M := model prog w)
  have A1 := looks_findIn (M := model prog w) X T.hg
  have A2 := looks_findIn (M := model prog w) X T.hk
  have A3 := looks_find (M := model prog w) X I hf
  have A4 : Looks (model prog w) hp (isInstance (.ref x) (.type "BaseException")) true := A0.andThen (looks_subIn X T.hs)
  have n0 : (false && onTheHeap (Value.builtin "BaseException.__getattribute__")) = false := rfl
  have n2 : (Value.builtin "BaseException.__getattribute__" == Value.builtin "object.__getattribute__") = false := by decide +kernel
  have n1 : (onTheHeap (Value.ref D) && Value.builtin "BaseException.__getattribute__" == Value.builtin "object.__getattribute__") = false := by
    rw [n2]
    rfl
  unfold getAttr? getAttrBy? getAttrBy
  refine wpAny_bind (wpAny_mkText (wpAny_bind (wpAny_attempt (wpAny_holding (wpAny_bind (A0.at (wpAny_bind (A1.at ?_))))))))
  show wpAny _ _ (if (onTheHeap (Value.ref D) && Value.builtin "BaseException.__getattribute__" == Value.builtin "object.__getattribute__") = true then _ else _) _ _ _
  rw [n1, if_neg Bool.false_ne_true]
  unfold getAttrByItsOwn hookBefore
  refine wpAny_bind ?_
  rw [if_pos (show onTheHeap (Value.ref D) = true from rfl)]
  refine A2.at (wpAny_bind (wpAny_attempt (wpAny_holding ?_)))
  unfold callGetattribute
  rw [n0, if_neg Bool.false_ne_true]
  unfold boundAndCalled
  rw [PySem.F.excAttr_ValueError.ga.bind (.ref x)]
  refine wpAny_bind (wpAny_pure ?_)
  show wpAny _ _ (call (.builtin "BaseException.__getattribute__") [.ref x, .str "__class__" t]) _ _ _
  refine wpAny_call (codeAny_call_builtin PySem.F.excAttr_ValueError.ga.plain PySem.F.entry_bexc_ga ?_)
  refine @check_slot (model prog w) _ _ ⟨hp, g, d, t + 1, os⟩ "BaseException.__getattribute__" "BaseException" "__getattribute__" (.ref x) [.str "__class__" t] [] _
    (by decide +kernel) (by decide +kernel) A4 (PySem.F.args_bexc_ga (.ref x) (.str "__class__" t)) ?_
  unfold Builtin.«object.__getattribute__»
  refine wpAny_bind (wpAny_of_eq (a := ((Value.ref x : Value), [Value.str "__class__" t])) (by first | rfl | (simp only [slotArgs]; rfl)) ?_)
  refine wpAny_bind (wpAny_pure (wpAny_bind (A0.at (wpAny_bind (A3.at ?_)))))
  show wpAny _ _ (holding [Value.builtin "object.__class__"] (call (.builtin "getset_descriptor.__get__") [.builtin "object.__class__", .ref x, .ref D]) >>= ret) _ _ _
  refine wpAny_bind (wpAny_holding (wpAny_call (class_get (s := ⟨hp, g, d, t + 1, os⟩) (ox := ox) (od := od) X I T.hm ?_)))
  refine wpAny_pure ?_
  show wpAny _ _ (handedOut (.ref D)) _ _ _
  rw [handedOut_of (v := .ref D) rfl]
  first
    | exact wpAny_pure (wpAny_pure h)
    | exact wpAny_pure h
    | exact wpAny_pure (wpAny_bind (wpAny_pure (wpAny_pure h)))
theorem err_kit (T : L2.ExcC K D) : KitX K (.ref x) (.ref D) (fun h => ∃ ox od, InstAt h x ox D od) where
  ty := fun _ _ _ ⟨_, _, I⟩ => I.type
  it := fun _ _ X _ => by
    obtain ⟨cd, hc, _⟩ := any_some T.hd
    unfold clsIn at hc
    split at hc
    · rename_i c1 d1 cd1 sl1 ho
      intro A' Q' E' s' k q
      unfold isType loadHead
      exact wpAny_bind (wpAny_loadPart (k _ _ (X _ _ ho)) (wpAny_pure q))
    · cases hc
  ne := fun h tp dd its n sl X htp => by
    obtain ⟨cd, hc, _⟩ := any_some T.hd
    refine Bool.eq_false_iff.mpr fun q => ?_
    have e : D = tp := Value.ref.inj (beq_iff_eq.mp q)
    subst e
    unfold clsIn at hc
    split at hc
    · rename_i c1 d1 cd1 sl1 ho
      have z := (X _ _ ho).symm.trans htp
      cases z
    · cases hc
  ca := fun X ⟨_, _, I⟩ k => err_class T X I k
end
end PySem.W
set_option Elab.async false
set_option linter.all false
set_option maxRecDepth 100000
set_option maxHeartbeats 4000000
namespace L2
open PySem PySem.Spec PyProof.Rows
/-- what the written part says of a class of errors at C whose __init__ stands at fI -/
structure ErrC (K : PySem.W.Frag) (C fI : Addr) : Prop where
  ox : OexC K C
  xf : XfC K C
  xc : ExcC K C
  iC : PySem.W.findIn K (.ref C) "__init__" = some (some (.ref fI))
  tI : PySem.W.typeIn K (.ref fI) = some (.type "function")
  nv : PySem.W.findIn K (.ref C) "value" = some none
/-- x is an error of the class at C whose field holds v -/
def ErrAt (H : Hp) (C : Addr) (v x : V) : Prop := ∃ e d, x = .ref e ∧ H e = some (exo e C (some d)) ∧ H d = some (exd d [("value", v)])
theorem ErrAt.same {H H' : Hp} {C : Addr} {v x : V} (k : Same H H') (h : ErrAt H C v x) : ErrAt H' C v x := by
  obtain ⟨e, d, e1, e2, e3⟩ := h
  exact ⟨e, d, e1, k _ _ e2, k _ _ e3⟩
/-- its __init__ -/
def spErr (C : Addr) : Sp := fun vs H Q _ => ∃ (e : Addr) (v : V), vs = [.ref e, v] ∧ H e = some (exo e C none) ∧
  ∀ d, H d = none → d ≠ e → Q .non (upd (upd H d (exd d [("value", v)])) e (exo e C (some d)))
def errScope : Scope := { kind := .function, names := [("self", .local), ("value", .local)], isGenerator := false, isCoroutine := false, more := [] }
def errBody (p1 p2 p3 p4 : Pos) : List Stmt := [.Assign [.Attribute (.Name "self" p1) "value" p2] (.Name "value" p3) p4]
theorem errSc : FnScope ["self", "value"] ["self", "value"] errScope := ⟨rfl, rfl, rfl, by decide +kernel, rfl, by decide +kernel, by decide +kernel⟩
section
variable {P : Program} {w : World} {K : PySem.W.Frag} {mg : Str → Option Value} {base : Heap}
theorem ok_err {qual : Str} {params : Arguments} {C fI : Addr} {fd : FuncData} {p1 p2 p3 p4 : Pos} (F : FunD K "__init__" qual params (errBody p1 p2 p3 p4) errScope [.non] [] fI fd) (T : ErrC K C fI) :
    FnOk P w K mg base CX0 1 fI fd ["self", "value"] (spErr C) := by
  refine F.ok errSc (fun vs H Q E h => ?_) (fun cdv A outer s H vs Q E hr h => ?_)
  · obtain ⟨e, v, rfl, _⟩ := h
    rfl
  · obtain ⟨e, v, rfl, he, k⟩ := h
    refine ⟨_, PSs.nox (pss_one (ps_ost (pv 0) (pv 1))), ?_⟩
    exact ⟨_, rfl, _, rfl, e, C, rfl, T.ox, T.nv, Or.inl ⟨he, fun d h1 h2 => k d h1 h2⟩⟩
end
section
variable {X : Cx} {pins : List (Addr × Obj)} {σ : St} {H : Hp} {s : Shared} {C fI : Addr} {fd : FuncData} {k : Nat}
/-- C(..), however the value comes to its parameter -/
theorem run_err {Q : VK} {us : List Value} {kw : List (Str × Value)} {u : Value} {v : V} (T : ErrC X.K C fI) (F1 : FnOk X.prog X.w X.K X.mg X.base CX0 k fI fd ["self", "value"] (spErr C)) (hr : Room (k + 1) X.A)
    (hus : us.length ≤ sizeLine) (hb : ∀ (s' : Shared) (e : Addr), X.K.In s'.heap → BindsTo s' fd ⟨.ref e :: us, kw⟩ ((["self", "value"] : List Str).zip [.ref e, u])) (rv : RelV v u)
    (I : Inv X pins σ H s) (h : ∀ e H', Same H H' → ErrAt H' C v (.ref e) → Q (.ref e) H') :
    wpAny (model X.prog X.w) X.A (call (.ref C) us kw) (EP X pins σ Q) X.xe s := by
  obtain ⟨nm, q, N, bs, bm, sn, sub, ab, col, dd, k0, k1, k2, k3, k5, hC, hbm⟩ := T.ox.cls
  obtain ⟨hp, g, dr, tk, os⟩ := s
  have hsz : hp.objs.size ≤ hp.objs.size + 1 := Nat.le_succ _
  have hn : H (hp.objs.size + 1) = none := I.hok.fresh hsz
  have kk : ∀ b o, hp.get? b = some o → ((hp.push (PySem.W.kdv_tup us)).push (PySem.HandSPX.excO C hp.objs.size)).get? b = some o :=
    fun b o e => Heap.get?_push_of_some _ (Heap.get?_push_of_some _ e)
  have hget : ((hp.push (PySem.W.kdv_tup us)).push (PySem.HandSPX.excO C hp.objs.size)).get? (hp.objs.size + 1) = some (PySem.HandSPX.excO C hp.objs.size) := by heap_get
  have I2 : Inv X pins σ (upd H (hp.objs.size + 1) (exo (hp.objs.size + 1) C none)) ⟨(hp.push (PySem.W.kdv_tup us)).push (PySem.HandSPX.excO C hp.objs.size), g, dr, tk, os⟩ :=
    I.laid (t' := tk) (a := hp.objs.size + 1) (o := exo (hp.objs.size + 1) C none) (h' := (hp.push (PySem.W.kdv_tup us)).push (PySem.HandSPX.excO C hp.objs.size)) kk hsz (exo_ok hget)
  have hq : spErr C [.ref (hp.objs.size + 1), v] (upd H (hp.objs.size + 1) (exo (hp.objs.size + 1) C none))
      (fun v' H3 => v' = .non ∧ Q (.ref (hp.objs.size + 1)) H3) (fun _ _ _ => False) := by
    refine ⟨_, v, rfl, upd_same, fun d hd hne => ⟨rfl, ?_⟩⟩
    rw [upd_ne hne] at hd
    refine h _ _ (fun b o e => ?_) ⟨_, d, rfl, upd_same, ?_⟩
    · rw [upd_ne (ne_of_none e hn), upd_ne (ne_of_none e hd), upd_ne (ne_of_none e hn)]
      exact e
    · rw [upd_ne hne, upd_same]
  refine wpAny_call (PySem.KwX.callk F.excBase_ValueError (fun Y => PySem.HandSPX.refsVE_contains Y bm hbm) (I.kIn _ _ hC) (PySem.W.looks_findIn I.kIn T.iC) (fun self => PySem.W.bind_fn I.kIn self T.tI) hus
    (codeAny_mono (F1.run _ X.stack _ _ ⟨Value.ref (hp.objs.size + 1) :: us, kw⟩ [Value.ref (hp.objs.size + 1), u] [V.ref (hp.objs.size + 1), v] _ (fun _ _ _ => False) (hr.make C us kw) (I2.env0.make C us kw) (hb _ _ I2.kIn)
      (.cons rfl (.cons rv .nil)) hq) fun r s' hq' => ?_))
  cases r with
  | error er => exact absurd hq' id
  | ok fl =>
    cases fl with
    | ret u' =>
      obtain ⟨v', H', I3, rv', ev, q3⟩ := I2.after hq'
      subst ev
      have e1 : ∀ b o, hp.get? b = some o → H b = none → upd H (hp.objs.size + 1) (exo (hp.objs.size + 1) C none) b = none := fun b o e n => by
        rw [upd_ne (Nat.ne_of_lt (Nat.lt_of_lt_of_le (Heap.lt_size e) hsz))]
        exact n
      exact ⟨rv', V.ref (hp.objs.size + 1), H', I3, rfl, q3⟩
    | next => exact False.elim hq'
    | brk => exact False.elim hq'
    | cont => exact False.elim hq'
end
/-! ### the rules: C(), C(e), C(value=e) -/
section
variable {X : Cx} {C fI : Addr} {fd : FuncData} {k : Nat} {x : Str} {p pos : Pos} {e : Expr} {te : TE}
/-- how an argument comes to the parameter: none, by place, by name -/
structure ErrB (K : PySem.W.Frag) (fd : FuncData) : Prop where
  b0 : ∀ (s : Shared) (a : Value), K.In s.heap → BindsTo s fd ⟨[a], []⟩ ((["self", "value"] : List Str).zip [a, .none])
  b1 : ∀ (s : Shared) (a u : Value), K.In s.heap → BindsTo s fd ⟨[a, u], []⟩ ((["self", "value"] : List Str).zip [a, u])
  bk : ∀ (s : Shared) (a u : Value), K.In s.heap → BindsTo s fd ⟨[a], [("value", u)]⟩ ((["self", "value"] : List Str).zip [a, u])
/-- what a call of the class leaves -/
def newErr (C : Addr) (v : V) (H : Hp) (Q : VK) : Prop := ∀ e H', Same H H' → ErrAt H' C v (.ref e) → Q (.ref e) H'
def tErr (C : Addr) (te : TE) : TE := fun σ H Q => te σ H fun v H1 => newErr C v H1 Q
theorem pe_err0 (T : ErrC X.K C fI) (F1 : FnOk X.prog X.w X.K X.mg X.base CX0 k fI fd ["self", "value"] (spErr C)) (B : ErrB X.K fd) (hr : Room (k + 1) X.A) (hm : X.mg x = some (.ref C)) (hg : Gl X x := by rfl)
    (hdb : (x == ("__debug__" : Str)) = false := by decide) : PE X (.Call (.Name x p) [] [] pos) (fun _ H Q => newErr C .non H Q) := by
  refine ⟨fun pins s σ H Q I h => ?_⟩
  refine wpAny_Call_Name_kw (ld_glob I hg hm ?_ hdb)
  refine PySem.W.callWith_K0 I.kIn T.ox.kC ?_
  exact run_err (us := []) (kw := []) T F1 hr (Nat.zero_le _) (fun s' a X' => B.b0 s' _ X') (v := .non) rfl I h
theorem pe_err1 (T : ErrC X.K C fI) (F1 : FnOk X.prog X.w X.K X.mg X.base CX0 k fI fd ["self", "value"] (spErr C)) (B : ErrB X.K fd) (hr : Room (k + 1) X.A) (hm : X.mg x = some (.ref C)) (he : PE X e te) (hg : Gl X x := by rfl)
    (hdb : (x == ("__debug__" : Str)) = false := by decide) (hs : starEach [e] X.env = (false, eval e X.env) :: starEach [] X.env := by rfl) (hpl : (backTo pos (starEach [] X.env)).any (·.1) = false := by rfl) :
    PE X (.Call (.Name x p) [e] [] pos) (tErr C te) := by
  refine ⟨fun pins s σ H Q I h => ?_⟩
  refine wpAny_Call_Name_kw (ld_glob I hg hm ?_ hdb)
  refine PySem.W.callWith_K (h₀ := X.base) I.ok.mod.kin T.ox.kC ?_ hs hpl
  rw [hs]
  show wpAny _ _ (spliced ((false, eval e X.env) :: backTo pos (starEach [] X.env))) _ _ s
  refine Calls.spliced_cons (thn (he.run pins s σ H _ I h) fun u s1 ⟨v, H1, I1, r1, q1⟩ => ?_)
  refine Calls.spliced_nil ⟨I1.kIn, ?_⟩
  exact run_err (us := [u]) (kw := []) T F1 hr (by show 1 ≤ sizeLine; decide) (fun s' a X' => B.b1 s' _ u X') r1 I1 q1
theorem pe_errk {pk : Pos} (T : ErrC X.K C fI) (F1 : FnOk X.prog X.w X.K X.mg X.base CX0 k fI fd ["self", "value"] (spErr C)) (B : ErrB X.K fd) (hr : Room (k + 1) X.A) (hm : X.mg x = some (.ref C))
    {ta : TA} (hkw : PK X [⟨some "value", e, pk⟩] ta) (hg : Gl X x := by rfl) (hdb : (x == ("__debug__" : Str)) = false := by decide)
    (hall : (backToKw pos (keywordEach [⟨some "value", e, pk⟩] X.env)).all (·.1.isSome) = true := by rfl) (hks : (backToKw pos (keywordEach [⟨some "value", e, pk⟩] X.env)).filterMap (·.1) = (["value"] : List Str) := by rfl)
    (hpl : ((backTo pos (starEach [] X.env)).any (·.1) || (backToKw pos (keywordEach [⟨some "value", e, pk⟩] X.env)).any (·.1.isNone)) = false := by rfl) :
    PE X (.Call (.Name x p) [] [⟨some "value", e, pk⟩] pos) (fun σ H Q => ta σ H fun vs H1 => ∃ v, vs = [v] ∧ newErr C v H1 Q) := by
  refine ⟨fun pins s σ H Q I h => ?_⟩
  refine wpAny_Call_Name_kw (ld_glob I hg hm ?_ hdb)
  refine PySem.W.callWith_KW0 (h₀ := X.base) I.ok.mod.kin T.ox.kC hall ?_ hpl
  refine thn (hkw.run pos pins s σ H _ I h) fun us s1 ⟨vs, H1, I1, r1, v, ev, q1⟩ => ?_
  subst ev
  rw [hks]
  cases r1 with
  | @cons _ u _ _ ru rn =>
    cases rn
    exact ⟨I1.kIn, run_err (us := []) (kw := [("value", u)]) T F1 hr (Nat.zero_le _) (fun s' a X' => B.bk s' _ u X') ru I1 q1⟩
end
/-! ### isinstance, the field -/
/-- an error, with or without a field -/
def AnErr (H : Hp) (C : Addr) (x : V) : Prop := ∃ e, x = .ref e ∧ (H e = some (exo e C none) ∨ ∃ d fs, H e = some (exo e C (some d)) ∧ H d = some (exd d fs))
theorem ErrAt.an {H : Hp} {C : Addr} {v x : V} (h : ErrAt H C v x) : AnErr H C x := by
  obtain ⟨e, d, e1, e2, e3⟩ := h
  exact ⟨e, e1, .inr ⟨d, _, e2, e3⟩⟩
theorem AnErr.same {H H' : Hp} {C : Addr} {x : V} (k : Same H H') (h : AnErr H C x) : AnErr H' C x := by
  obtain ⟨e, e1, e2 | ⟨d, fs, e2, e3⟩⟩ := h
  · exact ⟨e, e1, .inl (k _ _ e2)⟩
  · exact ⟨e, e1, .inr ⟨d, fs, k _ _ e2, k _ _ e3⟩⟩
section
variable {X : Cx} {pins : List (Addr × Obj)} {σ : St} {H : Hp} {s : Shared} {C : Addr}
theorem AnErr.inst {e : Addr} (I : Inv X pins σ H s) (h : AnErr H C (.ref e)) : ∃ ox od, PySem.W.InstAt s.heap e ox C od := by
  obtain ⟨e', e1, h⟩ := h
  cases e1
  rcases h with h | ⟨d, fs, h, hd⟩
  · obtain ⟨t1, ho⟩ := exo_at I.hok h
    exact ⟨_, none, ho, rfl, rfl, trivial⟩
  · obtain ⟨t1, ho⟩ := exo_at I.hok h
    obtain ⟨mA, hn, _⟩ := exd_at I.hok hd
    obtain ⟨o, es, ep, hod, _⟩ := hn
    exact ⟨_, some o, ho, rfl, rfl, hod⟩
def rIsX (K : PySem.W.Frag) : List V → Hp → VK → Prop := fun xs H Q => ∃ (x : V) (C : Addr) (c : V) (cv : Value) (b : Bool), xs = [x, c] ∧ AnErr H C x ∧ ExcC K C ∧ ClsV c cv ∧ PySem.W.kitOne K (.ref C) cv = some b ∧ Q (.bl b) H
theorem call_isX : CallR X (.builtin "isinstance") (rIsX X.K) := by
  intro pins s σ H xs us Q I r h
  obtain ⟨x, C, c, cv, b, rfl, hx, T, kc, e, q⟩ := h
  obtain ⟨u1, u2, rfl, r1, r2⟩ := vals2 r
  have e2 := kc.eq r2
  subst e2
  obtain ⟨a, rfl, hh⟩ := id hx
  obtain rfl : u1 = Value.ref a := r1
  exact PySem.W.kia_one (PySem.W.err_kit T) I.kIn (hx.inst I) e (fun z => nomatch z) fun tk => ⟨.bl b, H, I.tok tk, rfl, q⟩
/-- e.value -/
def tErrVal (K : PySem.W.Frag) (te : TE) : TE := fun σ H Q => te σ H fun x H1 => ∃ C fI v, ErrAt H1 C v x ∧ ErrC K C fI ∧ Q v H1
theorem pe_errVal {e : Expr} {te : TE} {pos : Pos} (he : PE X e te) (hb : attributeBase e "value" X.env (eval e X.env) = eval e X.env := by rfl) : PE X (.Attribute e "value" pos) (tErrVal X.K te) := by
  refine ⟨fun pins s σ H Q I h => ?_⟩
  refine attr_of hb (thn (he.run pins s σ H _ I h) fun u s1 hh => ?_)
  obtain ⟨x, H1, I1, rx, C, fI, v, ⟨a, d, rfl, ha, hd⟩, T, q⟩ := hh
  obtain rfl : u = Value.ref a := rx
  obtain ⟨t1, ho⟩ := exo_at I1.hok ha
  obtain ⟨mA, hns, hr⟩ := exd_at I1.hok hd
  obtain ⟨od, hod, hl⟩ := lookIn_ns hns
  obtain ⟨w, hw, rw'⟩ := RelO.some_of (v := v) (o := mA "value") (hr "value")
  have J : PySem.W.InstAt s1.heap a _ C (some od) := ⟨ho, rfl, rfl, hod⟩
  exact HandSPX.exc_get I1.kIn J T.xf.ga T.xf.gg T.xf.exC (PySem.W.findObj_own T.xf.hdC T.nv rfl (by rw [hl, hw])) (handed_of rw') ⟨v, H1, I1.tok _, rw', q⟩
end
end L2
set_option Elab.async false
set_option linter.all false
set_option maxRecDepth 100000
set_option maxHeartbeats 4000000
/-! sorted(xs, key=lambda y: y[1]). -/
namespace KLam
open PySem PySem.Spec PyProof.Rows L2 LamX
/-- lambda y: y[n] called with a tuple -/
theorem lam_key {P : Program} {w : World} {A : Around} {s : Shared} {f c' t : Addr} {q y : Str} {params : Arguments} {scope : Scope} {pm ctv : Value} {p1 p2 p3 : Pos} {kk : Nat} {n : Int} {j : Nat} {z : Int} {tk : Tok} {its : Array Value}
    (hA : A.depth < recursionLimit) (lim : s.heap.NoLimit)
    (ho : s.heap.get? f = some (PySem.W.kla_obj "<lambda>" q params (.Subscript (.Name y p1) (.Constant (.int n) kk p2) p3) scope [] pm c' ctv)) (hc : s.heap.CodeRec (.ref c') q)
    (hco : scope.isCoroutine = false) (hgen : scope.isGenerator = false) (hk : scope.kind = .function) (hnc : ∀ x ∈ scope.names, x.2 ≠ .cell) (hy : scope.names.lookup y = some .local) (hd : (y == ("__debug__" : Str)) = false)
    (hb : ∀ u, bindArgs (PySem.W.kla_fn "<lambda>" q params (.Subscript (.Name y p1) (.Constant (.int n) kk p2) p3) scope [] pm (.ref c') ctv) ⟨[u], []⟩ = pure [(y, u)])
    (ht : IsTup s.heap t its) (hj : seqIndex? n its.size = some j) (hlo : -(2 ^ 63) ≤ n) (hhi : n < 2 ^ 63) (hx : its[j]? = some (.int z tk)) :
    wpAny (model P w) A (call (.ref f) [.ref t]) (PySem.W.KeyPure (.int z) s) (fun _ _ => False) s := by
  have rc : codeAny (model P w) A (.call (.ref f) ⟨[.ref t], []⟩) (fun r s' => match r with | .ok (.ret v) => PySem.W.KeyPure (.int z) s v s' | _ => False) s := by
    refine PySem.W.kla_callFunE hA ho rfl hco hgen rfl hc ?_
    rw [hb]
    refine wpAny_pure (wpAny_newFunctionEnv hnc (fun x hx => by simp at hx; rw [hx]; exact hy) (fun h₁ hns hsb => ⟨?_, ?_⟩) hk)
    · exact lim.fresh _ hsb
    · refine PySem.W.kla_codeExpr ?_
      have kp : ∀ b o, s.heap.get? b = some o → h₁.get? b = some o := fun b o e => hsb.extBut b o (Nat.ne_of_lt (Heap.lt_size e)) (Heap.get?_push_of_some _ e)
      have ht1 := ht.keeps kp
      refine Subscript_ (wpAny_Name (wpAny_loadName_local (v := .ref t) hk hy hns (by simp [List.lookup]) (wpAny_Constant_int ?_)) hd)
      refine subscriptTail_builtinR (x := .int z tk) ?_ slot_tuple_getitem.lookup (getItem_tuple (j := j) ht1 hlo hhi hj hx ⟨rfl, ?_⟩) rfl
      · exact IsTup.typeIs (s := { s with heap := h₁, toks := _ }) ht1
      · exact ⟨h₁, _, rfl, kp, .int z tk⟩
  refine wpAny_call (codeAny_mono rc fun r s' hq => ?_)
  cases r with
  | error e => exact hq
  | ok fl =>
    cases fl with
    | ret u => exact hq
    | next => exact hq.elim
    | brk => exact hq.elim
    | cont => exact hq.elim
end KLam
set_option Elab.async false
set_option linter.all false
set_option maxRecDepth 100000
set_option maxHeartbeats 4000000
/-! sorted(xs, key=lambda y: y[n]), as a rule. -/
namespace KLam
open PySem PySem.Spec PyProof.Rows L2 LamX
theorem each_vals : ∀ {xs : List V} {us : List Value}, Vals xs us → PySem.W.EachIs (fun (v : Value) (x : V) => RelV x v) us xs
  | _, _, .nil => .nil
  | _, _, .cons r t => .cons r (each_vals t)
theorem vals_each : ∀ {xs : List V} {us : List Value}, PySem.W.EachIs (fun (v : Value) (x : V) => RelV x v) us xs → Vals xs us
  | _, _, .nil => .nil
  | _, _, .cons r t => .cons r (vals_each t)
/-- the wish: T: the tables of code objects -/
def tSortLam (T : List (Addr × Str)) (K : PySem.W.Frag) (n : Int) (te : TE) : TE := fun σ H Q => te σ H fun x H1 => Tabs T H1 ∧ ∃ (a : Addr) (xs : List V) (g : V → Int), x = .ref a ∧ SqL K H1 a xs ∧
  (∀ u ∈ xs, ∃ (t : Addr) (zs : List V), u = .ref t ∧ SqT K H1 t zs ∧ atI zs n = some (.int (g u))) ∧
  ∀ H2 p, ExtN H1 H2 → Tabs T H2 → H2 p = none → Q (.ref p) (upd H2 p (.lst (xs.mergeSort fun u v => decide (g u ≤ g v))))
theorem sqT_ext {K : PySem.W.Frag} {H H' : Hp} {t : Addr} {zs : List V} (h : SqT K H t zs) (e : ExtN H H') : SqT K H' t zs := by
  rcases h with (h | ⟨o, h⟩) | h
  · exact .inl (.inl (e _ _ h fun ps z => by cases z))
  · exact .inl (.inr ⟨o, e _ _ h fun ps z => by cases z⟩)
  · exact .inr h
theorem sqL_ext {K : PySem.W.Frag} {H H' : Hp} {t : Addr} {zs : List V} (h : SqL K H t zs) (e : ExtN H H') : SqL K H' t zs := by
  rcases h with (h | ⟨o, h⟩) | h
  · exact .inl (.inl (e _ _ h fun ps z => by cases z))
  · exact .inl (.inr ⟨o, e _ _ h fun ps z => by cases z⟩)
  · exact .inr h
section
variable {X : Cx}
theorem pe_sortedLam {T : List (Addr × Str)} {c P : Addr} {params : Arguments} {scope : Scope} {y : Str} {n : Int} {kk j : Nat} {e : Expr} {te : TE} {p p1 p2 p3 lpos kpos pos : Pos} (he : PE X e te)
    (hg : Gl X "sorted") (hm : X.mg "sorted" = none)
    (TB : TabB X.base X.mg c P) (hcode : X.env.code = .ref c) (hmT : (P, X.env.qual ++ "<lambda>") ∈ T) (hu : ∀ q ∈ T, q.1 = P → q.2 = X.env.qual ++ "<lambda>") (hr : Room 3 X.A)
    (hdef : defaultsOf params X.env = ([], [])) (hcl : cloFrom X.env.cells scope.names [] = []) (hfr : ∀ z ∈ scope.names, z.2 ≠ .free)
    (hco : scope.isCoroutine = false) (hgen : scope.isGenerator = false) (hk : scope.kind = .function) (hnc : ∀ x ∈ scope.names, x.2 ≠ .cell) (hy : scope.names.lookup y = some .local) (hd : (y == ("__debug__" : Str)) = false)
    (hb : ∀ (q : Str) (pm cv ctv u : Value), bindArgs (PySem.W.kla_fn "<lambda>" q params (.Subscript (.Name y p1) (.Constant (.int n) kk p2) p3) scope [] pm cv ctv) ⟨[u], []⟩ = pure [(y, u)])
    (hstar : starEach [e] X.env = (false, eval e X.env) :: starEach [] X.env := by rfl) (ha : backTo pos (starEach [e] X.env) = (false, eval e X.env) :: backTo pos (starEach [] X.env) := by rfl) (hpl : (backTo pos (starEach [e] X.env)).any (·.1) = false := by rfl) :
    PE X (.Call (.Name "sorted" p) [e] [⟨some "key", .Lambda params (.Subscript (.Name y p1) (.Constant (.int n) kk p2) p3) scope lpos, kpos⟩] pos) (tSortLam T X.K n te) := by
  refine ⟨fun pins s σ H Q I h => ?_⟩
  refine wpAny_Call_Name_kw (ld_blt I hg hm (by rfl : bootBuiltins "sorted" = some (.builtin "sorted")) ?_ (by decide) (by decide))
  have h' : tCons te tNil σ H (fun vs H1 => match vs with
    | [x] => Tabs T H1 ∧ ∃ (a : Addr) (xs : List V) (g : V → Int), x = .ref a ∧ SqL X.K H1 a xs ∧
      (∀ u ∈ xs, ∃ (t : Addr) (zs : List V), u = .ref t ∧ SqT X.K H1 t zs ∧ atI zs n = some (.int (g u))) ∧
      ∀ H2 p, ExtN H1 H2 → Tabs T H2 → H2 p = none → Q (.ref p) (upd H2 p (.lst (xs.mergeSort fun u v => decide (g u ≤ g v))))
    | _ => False) := h
  refine PyProof.Rows.callWith_kw (thn ((pa_cons he pa_nil hstar).run pos pins s σ H _ I h') fun us s1 ⟨vs, H1, I1, r1, q1⟩ => ?_) ha hpl (by rfl) (by rfl)
  match vs, r1, q1 with
  | [], r1, q1 => exact q1.elim
  | _ :: _ :: _, r1, q1 => exact q1.elim
  | [x], r1, q1 =>
    obtain ⟨hT, a, xs, g, ex, hxs, hk1, q⟩ := q1
    subst ex
    obtain ⟨u, rfl, rx⟩ := vals1 r1
    obtain rfl : u = Value.ref a := rx
    show wpAny _ _ (evalAll ((do let v ← eval (.Lambda params (.Subscript (.Name y p1) (.Constant (.int n) kk p2) p3) scope lpos) X.env; standAt pos; pure v) :: [])) _ _ s1
    refine wpAny_evalAll_cons (wpAny_bind (lam_make2 I1 TB hcode hmT hu hT hdef (fun z hz e => absurd e (hfr z hz)) fun f c' pm' ctv H2 s2 I2 eN T2 hf hfn hfr2 hco2 => wpAny_bind (wpAny_standAt (wpAny_pure ?_))))
    refine wpAny_evalAll_nil ?_
    rw [hcl] at hf
    show wpAny _ _ (call (.builtin "sorted") [.ref a] [("key", .ref f)]) _ _ s2
    have hx2 := sqL_ext hxs eN
    obtain ⟨its, rv, hl, hz⟩ := I2.list hx2
    have lim2 : s2.heap.NoLimit := I2.nolimit
    refine PySem.W.sorted_key_data (b := false) (β := V) (bs := xs) (vs := its) (R := fun (v : Value) (x : V) => RelV x v) (fun u => .int (g u)) hl.isList (each_vals rv) (fun d hd d' hd' => ?_) (.inr fun d hd => ?_) hz (fun x hx => ?_) (ksk_s1 _ _) (fun x => ksk_l1 _ _) (fun x => ksk_t1 _ _) (fun v x rx hx h tk kp => ?_) (fun out c2 h3 tk kp fr get len each => ?_)
    · obtain ⟨x, _, rfl⟩ := List.mem_map.mp hd
      obtain ⟨x', _, rfl⟩ := List.mem_map.mp hd'
      rfl
    · obtain ⟨x, _, rfl⟩ := List.mem_map.mp hd
      exact ⟨(fun z => nomatch z), fun xs z => nomatch z⟩
    · have := hr.un
      show X.A.units + 2 + _ < cLine
      simp only [PyData.depth]
      omega
    · obtain ⟨t, zs, rfl, hsq, hat⟩ := hk1 x hx
      obtain rfl : v = Value.ref t := rx
      obtain ⟨its', rv', pl, hz'⟩ := I2.tuple (sqT_ext hsq eN)
      obtain ⟨j, j1, j2, j3, j4, j5⟩ := atI_get hat
      obtain ⟨w', ew, rw'⟩ := rv'.get j2
      obtain ⟨tk', rfl⟩ : ∃ tk', w' = .int (g (.ref t)) tk' := rw'
      have hl' := rv'.length
      have hn := line63
      refine lam_key (s := { s2 with heap := h, toks := tk }) (j := j) (its := its'.toArray) (hr.in1.in1.depth) (lim2.keeps kp) (kp _ _ hf) ?_ hco hgen hk hnc hy hd (fun u => hb _ _ _ _ u) (IsTup.keeps pl kp) (by rw [List.size_toArray, ← hl']; exact j1) (by omega) (by omega) (by simpa using ew)
      obtain ⟨⟨oc, vs, t', hoc, hdc, hvc⟩, _⟩ := I2.hok c' _ hco2
      exact ⟨c', oc, vs, t', rfl, kp _ _ hoc, hdc, hvc⟩
    · rw [PySem.W.dataLe_int] at each
      refine ⟨.ref _, upd H2 (s2.heap.objs.size + 1) (.lst (xs.mergeSort fun u v => decide (g u ≤ g v))), I2.laid (t' := tk) kp (Nat.le_succ _) ⟨by rw [List.length_mergeSort]; exact hz, _, c2, vals_each each, get⟩, rfl, q _ _ eN T2 (I2.hok.fresh (Nat.le_succ _))⟩
end
end KLam
set_option Elab.async false
set_option linter.all false
set_option maxRecDepth 100000
set_option maxHeartbeats 8000000
/-! Runs and waits, first part. -/
namespace K19
open PySem PySem.Spec PyProof.Rows L2 KB
theorem itePos {c : Bool} {A B : Prop} (h : c = true) (a : A) : if c = true then A else B := (if_pos h).symm ▸ a
theorem iteNeg {c : Bool} {A B : Prop} (h : ¬ c = true) (b : B) : if c = true then A else B := (if_neg h).symm ▸ b
theorem iteP {p : Prop} [Decidable p] {A B : Prop} (h : p) (a : A) : if decide p = true then A else B := itePos (decide_eq_true h) a
theorem iteQ {p : Prop} [Decidable p] {A B : Prop} (h : ¬ p) (b : B) : if decide p = true then A else B := iteNeg (fun z => h (of_decide_eq_true z)) b
theorem norm {a b : TS} {D : Ends} {σ σ' : L2.St} {G : Hp} (e : σ = σ') (h : tSeq a b D σ' G) : tSeq a b D σ G := e ▸ h
theorem but_off {pu : Addr} {H H' : Hp} (b : But pu H H') : Same (off H pu) (off H' pu) := fun c o e => by
  unfold off at *
  by_cases h : c = pu
  · rw [if_pos h] at e
    cases e
  · rw [if_neg h] at e ⊢
    exact b _ _ h e
/-- a list of tuples -/
structure LsT (K : PySem.W.Frag) {α : Type} (vv : α → List V) (H : Hp) (a : Addr) (xs : List α) : Prop where
  ex : ∃ ts : List Addr, H a = some (.lst (ts.map V.ref)) ∧ ts.length = xs.length ∧ ∀ (i : Nat) (t : Addr) (x : α), ts[i]? = some t → xs[i]? = some x → SqT K H t (vv x)
def wv (w : Nat × Nat) : List V := [.int (w.1 : Int), .int (w.2 : Int)]
def pd (w : Nat × Nat) : PyData := .tuple [.int (w.1 : Int), .int (w.2 : Int)]
abbrev RunAt (K : PySem.W.Frag) := LsT K Ev.v
abbrev WtAt (K : PySem.W.Frag) := LsT K wv
section
variable {K : PySem.W.Frag} {α : Type} {vv : α → List V} {H H' : Hp} {a : Addr} {xs : List α}
theorem LsT.ext (k : LamX.ExtN H H') (h : LsT K vv H a xs) : LsT K vv H' a xs := by
  obtain ⟨ts, h1, h2, h3⟩ := h
  exact ⟨ts, k _ _ h1 (fun ps z => by cases z), h2, fun i t e e1 e2 => KLam.sqT_ext (h3 i t e e1 e2) k⟩
theorem LsT.same (k : Same H H') (h : LsT K vv H a xs) : LsT K vv H' a xs := h.ext (LamX.ExtN.of k)
theorem LsT.offp {pu : Addr} {N : Nat} (h : LsT K vv H a xs) (n : a ≠ pu) (hP : Purse H pu N) : LsT K vv (off H pu) a xs := by
  obtain ⟨A, B, c, i, eP, _⟩ := hP
  obtain ⟨ts, h1, h2, h3⟩ := h
  refine ⟨ts, by rw [off_at n]; exact h1, h2, fun i t e e1 e2 => ?_⟩
  rcases h3 i t e e1 e2 with (h | ⟨o, h⟩) | h
  · exact .inl (.inl (by rw [off_at (fun z => by rw [z, eP] at h; cases h)]; exact h))
  · exact .inl (.inr ⟨o, by rw [off_at (fun z => by rw [z, eP] at h; cases h)]; exact h⟩)
  · exact .inr h
theorem LsT.nil (h : H a = some (.lst [])) : LsT K vv H a ([] : List α) := ⟨[], h, rfl, fun i t x e => by simp at e⟩
theorem LsT.of_paired {ys : List V} (h : H a = some (.lst ys)) (p : Paired (fun x y => ∃ t, y = .ref t ∧ SqT K H t (vv x)) xs ys) : LsT K vv H a xs := by
  have : ∃ ts : List Addr, ys = ts.map V.ref ∧ ts.length = xs.length ∧ ∀ (i : Nat) (t : Addr) (x : α), ts[i]? = some t → xs[i]? = some x → SqT K H t (vv x) := by
    clear h
    induction p with
    | nil => exact ⟨[], rfl, rfl, fun i t x e => by simp at e⟩
    | cons r t ih =>
      obtain ⟨u, rfl, hu⟩ := r
      obtain ⟨ts, rfl, l, k⟩ := ih
      refine ⟨u :: ts, rfl, by rw [List.length_cons, List.length_cons, l], fun i t x e1 e2 => ?_⟩
      cases i with
      | zero => cases e1; cases e2; exact hu
      | succ i => exact k i t x e1 e2
  obtain ⟨ts, rfl, l, k⟩ := this
  exact ⟨ts, h, l, k⟩
/-- the list, its items -/
theorem LsT.got (h : LsT K vv H a xs) : ∃ ts : List Addr, H a = some (.lst (ts.map V.ref)) ∧ ts.length = xs.length ∧ ∀ (i : Nat) (hi : i < xs.length), ∃ t, (ts.map V.ref)[i]? = some (.ref t) ∧ SqT K H t (vv (xs[i]'hi)) := by
  obtain ⟨ts, h1, h2, h3⟩ := h
  refine ⟨ts, h1, h2, fun i hi => ⟨ts[i], ?_, h3 i _ _ (List.getElem?_eq_getElem _) (List.getElem?_eq_getElem _)⟩⟩
  rw [List.getElem?_map, List.getElem?_eq_getElem (by omega)]
  rfl
theorem LsT.td {vd : α → PyData} (n : Nat) (hv : ∀ {G : Hp} {t : Addr} {x : α}, SqT K G t (vv x) → TD K G (n + 1) (.ref t) (vd x)) (h : LsT K vv H a xs) (l : xs.length ≤ 1000) : TD K H (n + 2) (.ref a) (.list (xs.map vd)) := by
  obtain ⟨ts, h1, h2, h3⟩ := h
  refine TD.lst h1 (by rw [List.length_map, List.length_map, h2]) (by rw [List.length_map]; exact l) fun i u e e1 e2 => ?_
  rw [List.getElem?_map] at e1 e2
  obtain ⟨t, q1, rfl⟩ := Option.map_eq_some_iff.mp e1
  obtain ⟨v, q2, rfl⟩ := Option.map_eq_some_iff.mp e2
  exact hv (h3 i t v q1 q2)
end
theorem TD.tup {K : PySem.W.Frag} {H : Hp} {n : Nat} {a : Addr} {xs : List V} {ds : List PyData} (h : SqT K H a xs) (l : xs.length = ds.length) (s : ds.length ≤ 1000) (k : ∀ (i : Nat) (u : V) (e : PyData), xs[i]? = some u → ds[i]? = some e → TD K H n u e) : TD K H (n + 1) (.ref a) (.tuple ds) :=
  .inr (.inl ⟨a, xs, ds, rfl, l, s, .inr ⟨h, rfl⟩, k⟩)
theorem Ev.td {K : PySem.W.Frag} {H : Hp} {t : Addr} {e : Ev} (n : Nat) (h : SqT K H t e.v) : TD K H (n + 1) (.ref t) e.d := by
  cases e with
  | bar => exact TD.tup h rfl (by decide) (td_cons (TD.flat (.str _)) td_nil)
  | tell => exact TD.tup h rfl (by decide) (td_cons (TD.flat (.str _)) td_nil)
  | wr m => exact TD.tup h rfl (Nat.le_of_ble_eq_true rfl) (td_cons (TD.flat (.str _)) (td_cons (TD.flat (.int _)) td_nil))
theorem pd_td {K : PySem.W.Frag} {H : Hp} {t : Addr} {w : Nat × Nat} (n : Nat) (h : SqT K H t (wv w)) : TD K H (n + 1) (.ref t) (pd w) := TD.tup h rfl (Nat.le_of_ble_eq_true rfl) (td_cons (TD.flat (.int _)) (td_cons (TD.flat (.int _)) td_nil))
theorem Ev.dp {K : PySem.W.Frag} {H : Hp} {t : Addr} {e : Ev} (h : SqT K H t e.v) : Dp K H (.ref t) e.d := by
  cases e with
  | bar => exact .tup h (.cons (.str _) .nil)
  | tell => exact .tup h (.cons (.str _) .nil)
  | wr m => exact .tup h (.cons (.str _) (.cons (.int _) .nil))
theorem shaped_ev (e : Ev) : SeqAt.shaped e.d = true := by
  cases e <;> simp [Ev.d, SeqAt.shaped, PyData.depth, PyData.depthAll, PyData.canLay0, PyData.canLayAll0] <;> decide +kernel
theorem eqv_ev (e f : Ev) : PyData.eqv e.d f.d = decide (e = f) := by
  have ie : ∀ c d : Nat, ((c : Int) == (d : Int)) = decide (Ev.wr c = Ev.wr d) := fun c d => by
    rw [Bool.eq_iff_iff, beq_iff_eq, decide_eq_true_eq]
    constructor
    · intro h
      rw [show c = d by omega]
    · intro h
      injection h with h
      rw [h]
  cases e <;> cases f <;> first | rfl | (rename_i c d; rw [← ie]; simp [Ev.d, PyData.eqv, PyData.eqvAll])
theorem td_cs {K : PySem.W.Frag} {H : Hp} {x : V} {d : PyData} : ∀ {n : Nat}, TD K H n x d → (x = .non ∧ d = .none) ∨ (∃ b, x = .bl b ∧ d = .bool b) ∨ (∃ i, x = .int i ∧ d = .int i) ∨ (∃ z, x = .str z ∧ d = .str z) ∨
    (∃ a xs ds, x = .ref a ∧ H a = some (.lst xs) ∧ d = .list ds ∧ xs.length = ds.length ∧ ds.length ≤ 1000 ∧ ∀ (i : Nat) (u : V) (e : PyData), xs[i]? = some u → ds[i]? = some e → TD K H (n - 1) u e) ∨ (∃ a xs ds, x = .ref a ∧ SqT K H a xs ∧ d = .tuple ds ∧ xs.length = ds.length ∧ ds.length ≤ 1000) ∨
    ∃ a ps m, x = .ref a ∧ H a = some (.dK (mV ps m)) ∧ d = .dict (ps.map fun p : Nat => (.int (p : Int), .int (m p : Int))) := by
  have fl : ∀ {x : V} {d : PyData}, FlatD x d → (x = .non ∧ d = .none) ∨ (∃ b, x = .bl b ∧ d = .bool b) ∨ (∃ i, x = .int i ∧ d = .int i) ∨ (∃ z, x = .str z ∧ d = .str z) := fun h => by
    cases h
    · exact .inl ⟨rfl, rfl⟩
    · exact .inr (.inl ⟨_, rfl, rfl⟩)
    · exact .inr (.inr (.inl ⟨_, rfl, rfl⟩))
    · exact .inr (.inr (.inr ⟨_, rfl, rfl⟩))
  intro n h
  cases n with
  | zero =>
    rcases fl h with h | h | h | h
    · exact .inl h
    · exact .inr (.inl h)
    · exact .inr (.inr (.inl h))
    · exact .inr (.inr (.inr (.inl h)))
  | succ n =>
    rcases h with h | ⟨a, xs, ds, rfl, l, l1, t, c⟩ | ⟨a, ps, m, rfl, _, ha, rfl⟩
    · rcases fl h with h | h | h | h
      · exact .inl h
      · exact .inr (.inl h)
      · exact .inr (.inr (.inl h))
      · exact .inr (.inr (.inr (.inl h)))
    · rcases t with ⟨ha, rfl⟩ | ⟨ha, rfl⟩
      · exact .inr (.inr (.inr (.inr (.inl ⟨a, xs, ds, rfl, ha, rfl, l, l1, c⟩))))
      · exact .inr (.inr (.inr (.inr (.inr (.inl ⟨a, xs, ds, rfl, ha, rfl, l, l1⟩)))))
    · exact .inr (.inr (.inr (.inr (.inr (.inr ⟨a, ps, m, rfl, ha, rfl⟩)))))
theorem cut_tl (xs : List V) : cutV xs (some 1) none = xs.drop 1 := by
  unfold cutV
  by_cases h : 1 ≤ xs.length
  · have e1 : HT.sIx xs.length 0 (some 1) = 1 := by
      unfold HT.sIx
      simp
      omega
    have e2 : HT.sIx xs.length xs.length none = xs.length := rfl
    rw [e1, e2, List.take_of_length_le (by rw [List.length_drop]; exact Nat.le_refl _)]
  · have e0 : xs = [] := List.length_eq_zero_iff.mp (by omega)
    rw [e0]
    rfl
theorem lexLt_of {u v : Nat × Nat} (h : lexP u v) : HT.lexLt [(u.1 : Int), (u.2 : Int)] [(v.1 : Int), (v.2 : Int)] = true := by
  rw [HT.lexLt_cons]
  rcases h with h | ⟨h1, h2⟩
  · rw [if_neg (by omega)]
    exact decide_eq_true (by omega)
  · rw [if_pos (by omega), HT.lexLt_cons, if_neg (by omega)]
    exact decide_eq_true (by omega)
def cntB : PyData → Bool
  | .int i => decide (i ≥ 0)
  | _ => false
def whB : PyData → Bool
  | .int _ => true
  | _ => false
theorem td_tyI {K : PySem.W.Frag} {H : Hp} {n : Nat} {x : V} {d : PyData} (h : TD K H n x d) : ∃ t i b, TyX K H x (.type t) ∧ kitB t "int" = some i ∧ kitB t "bool" = some b ∧ whB d = (i && !b) := by
  rcases (td_cs h) with ⟨rfl, rfl⟩ | ⟨b, rfl, rfl⟩ | ⟨i, rfl, rfl⟩ | ⟨z, rfl, rfl⟩ | ⟨a, xs, ds, rfl, ha, rfl, _⟩ | ⟨a, xs, ds, rfl, ha, rfl, _⟩ | ⟨a, ps, m, rfl, ha, rfl⟩
  · exact ⟨"NoneType", false, false, .base .non, by decide +kernel, by decide +kernel, rfl⟩
  · exact ⟨"bool", true, true, .base (.bl b), by decide +kernel, by decide +kernel, rfl⟩
  · exact ⟨"int", true, false, .base (.int i), by decide +kernel, by decide +kernel, rfl⟩
  · exact ⟨"str", false, false, .base (.str z), by decide +kernel, by decide +kernel, rfl⟩
  · exact ⟨"list", false, false, .base (.lst ha), by decide +kernel, by decide +kernel, rfl⟩
  · exact ⟨"tuple", false, false, sqT_ty ha, by decide +kernel, by decide +kernel, rfl⟩
  · exact ⟨"dict", false, false, .base (.dK ha), by decide +kernel, by decide +kernel, rfl⟩
theorem cut_tail (ns : List Nat) : cutV (numsV ns) (some 1) none = (numsV ns).drop 1 := by
  unfold cutV
  by_cases h : 1 ≤ (numsV ns).length
  · have e1 : HT.sIx (numsV ns).length 0 (some 1) = 1 := by
      unfold HT.sIx
      simp
      omega
    have e2 : HT.sIx (numsV ns).length (numsV ns).length none = (numsV ns).length := rfl
    rw [e1, e2, List.take_of_length_le (by rw [List.length_drop]; exact Nat.le_refl _)]
  · have e0 : numsV ns = [] := List.length_eq_zero_iff.mp (by omega)
    rw [e0]
    rfl
theorem all_bl' {K : PySem.W.Frag} {n : Nat} {c : Nat → Bool} {H : Hp} {D : Addr} (hR : H D = some (.lst ((List.range n).filterMap fun i => some (V.bl (c i))))) : SqL K H D (((List.range n).map c).map V.bl) := by
  have e : ((List.range n).filterMap fun i => some (V.bl (c i))) = ((List.range n).map c).map V.bl := by
    rw [List.map_map, List.filterMap_eq_map']
    rfl
  rw [e] at hR
  exact SqL.of hR
def spWhole (K : PySem.W.Frag) : Sp := fun vs H Q _ => ∃ (x : V) (d : PyData) (n : Nat), vs = [x] ∧ TD K H n x d ∧ Q (.bl (whB d)) H
def spCount (K : PySem.W.Frag) : Sp := fun vs H Q _ => ∃ (x : V) (d : PyData) (n : Nat), vs = [x] ∧ TD K H n x d ∧ Q (.bl (cntB d)) H
def belB (n : Nat) : PyData → Bool
  | .int i => decide (0 ≤ i) && decide (i < (n : Int))
  | _ => false
def tupB (n : Int) : PyData → Bool
  | .tuple ds => decide ((ds.length : Int) = n)
  | _ => false
def spBelow (K : PySem.W.Frag) : Sp := fun vs H Q _ => ∃ (x : V) (d : PyData) (m n : Nat), vs = [x, .int (n : Int)] ∧ TD K H m x d ∧ Q (.bl (belB n d)) H
def spTupOf (K : PySem.W.Frag) : Sp := fun vs H Q _ => ∃ (x : V) (d : PyData) (m : Nat) (n : Int), vs = [x, .int n] ∧ TD K H m x d ∧ Q (.bl (tupB n d)) H
def rLtB (K : PySem.W.Frag) : R2 := fun x y H Q => (rI0 fun i j => .bl (decide (i < j))) x y H Q ∨ rLtT K x y H Q
def lexB (u v : Nat × Nat) : Bool := decide (u.1 < v.1 ∨ u.1 = v.1 ∧ u.2 < v.2)
theorem lexLt_eq (u v : Nat × Nat) : HT.lexLt [(u.1 : Int), (u.2 : Int)] [(v.1 : Int), (v.2 : Int)] = lexB u v := by
  unfold lexB
  rw [HT.lexLt_cons, HT.lexLt_cons]
  by_cases h1 : u.1 = v.1
  · rw [if_pos (by omega)]
    by_cases h2 : u.2 = v.2
    · rw [if_pos (by omega), decide_eq_false (by omega)]
      rfl
    · rw [if_neg (by omega), decide_eq_decide]
      omega
  · rw [if_neg (by omega), decide_eq_decide]
    omega
def ascB (ws : List (Nat × Nat)) : Bool := (List.range (ws.length - 1)).all fun i => lexB (ws.getD i (0, 0)) (ws.getD (1 + i) (0, 0))
def spAsc (K : PySem.W.Frag) : Sp := fun vs H Q _ => ∃ (a : Addr) (c : Bool), vs = [.ref a] ∧ ((c = true ∧ ∃ ns : List Nat, H a = some (.lst (numsV ns)) ∧ ns.length ≤ 1000 ∧ ns.Pairwise (· < ·)) ∨ ∃ ws : List (Nat × Nat), WtAt K H a ws ∧ ws.length ≤ 1000 ∧ c = ascB ws) ∧ ∀ H', Same H H' → Q (.bl c) H'
section
variable {P : Program} {w : World} {K : PySem.W.Frag} {mg : Str → Option Value} {base : Heap}
abbrev s_is_whole_number : Stmt := top 6
abbrev N_is_whole_number : List Str := ["value"]
theorem sc_is_whole_number : FnScope N_is_whole_number ["value"] (defScope s_is_whole_number) := ⟨rfl, rfl, rfl, by decide +kernel, rfl, by decide +kernel, by decide +kernel⟩
theorem ok_is_whole_number {f : Addr} {fd : FuncData} (F : FnP K "is_whole_number" s_is_whole_number f fd) (Z : FreeS mg) :
    FnOk P w K mg base CX0 1 f fd ["value"] (spWhole K) := by
  refine F.ok sc_is_whole_number (fun vs H Q E h => ?_) (fun cdv A outer s H vs Q E hr h => ?_)
  · obtain ⟨x, d, n, rfl, _⟩ := h
    rfl
  · obtain ⟨x, d, n, rfl, hx, k⟩ := h
    have nd := sc_is_whole_number.nd
    refine ⟨_, PSs.nox (pss_one (ps_ret (pe_and (pe_callB call_isi (by rfl) Z.isi (by decide +kernel) (pa_cons (pv 0) (pa_cons (pe_bltn (v := .ty "int") (by rfl) Z.int (by decide +kernel) rfl) pa_nil))) (pe_one (pe_not (pe_callB call_isi (by rfl) Z.isi (by decide +kernel) (pa_cons (pv 0) (pa_cons (pe_bltn (v := .ty "bool") (by rfl) Z.tbool (by decide +kernel) rfl) pa_nil)))))))), ?_⟩
    obtain ⟨t, i, b, ty, k1, k2, e⟩ := td_tyI (K := K) hx
    rw [e] at k
    cases i with
    | false => exact ⟨_, rfl, x, .ty "int", .type t, .type "int", false, rfl, .ty _, ty, kit_ty k1, false, rfl, iteF k⟩
    | true =>
      refine ⟨_, rfl, x, .ty "int", .type t, .type "int", true, rfl, .ty _, ty, kit_ty k1, true, rfl, iteT ?_⟩
      exact ⟨_, rfl, x, .ty "bool", .type t, .type "bool", b, rfl, .ty _, ty, kit_ty k2, b, rfl, k⟩
abbrev s_is_count : Stmt := top 7
abbrev N_is_count : List Str := ["value"]
theorem sc_is_count : FnScope N_is_count ["value"] (defScope s_is_count) := ⟨rfl, rfl, rfl, by decide +kernel, rfl, by decide +kernel, by decide +kernel⟩
theorem ok_is_count {f : Addr} {fd : FuncData} (F : FnP K "is_count" s_is_count f fd) (Z : FreeS mg)
    {f_is_whole_number : Addr} {d_is_whole_number : FuncData} (g_is_whole_number : mg "is_whole_number" = some (.ref f_is_whole_number)) (F_is_whole_number : FnP K "is_whole_number" s_is_whole_number f_is_whole_number d_is_whole_number) (G_is_whole_number : FnOk P w K mg base CX0 1 f_is_whole_number d_is_whole_number ["value"] (spWhole K)) :
    FnOk P w K mg base CX0 2 f fd ["value"] (spCount K) := by
  have b_is_whole_number : Binds K d_is_whole_number ["value"] [] := F_is_whole_number.bindsN fun _ _ _ _ _ _ us hl => match us, hl with | [_], _ => rfl
  refine F.ok sc_is_count (fun vs H Q E h => ?_) (fun cdv A outer s H vs Q E hr h => ?_)
  · obtain ⟨x, d, n, rfl, _⟩ := h
    rfl
  · obtain ⟨x, d, n, rfl, hx, k⟩ := h
    have nd := sc_is_count.nd
    refine ⟨_, PSs.nox (pss_one (ps_ret (pe_and (pe_call G_is_whole_number (hr.mono (by decide)) rfl g_is_whole_number F_is_whole_number.kp b_is_whole_number .nil pass0 (pa_cons (pv 0) (pa_nil))) (pe_one (pe_cmpR op_ge (pv 0) (pe_int) (nomark _)))))), ?_⟩
    refine ⟨_, rfl, x, d, n, rfl, hx, _, rfl, ?_⟩
    rcases td_cs hx with ⟨rfl, rfl⟩ | ⟨b, rfl, rfl⟩ | ⟨i, rfl, rfl⟩ | ⟨z, rfl, rfl⟩ | ⟨a, xs, ds, rfl, ha, rfl, _⟩ | ⟨a, xs, ds, rfl, ha, rfl, _⟩ | ⟨a, ps, m, rfl, ha, rfl⟩
    · exact iteF k
    · exact iteF k
    · exact iteT ⟨_, rfl, _, _, rfl, rfl, k⟩
    · exact iteF k
    · exact iteF k
    · exact iteF k
    · exact iteF k
abbrev s_is_count_below : Stmt := top 8
abbrev N_is_count_below : List Str := ["value", "bound"]
theorem sc_is_count_below : FnScope N_is_count_below ["value", "bound"] (defScope s_is_count_below) := ⟨rfl, rfl, rfl, by decide +kernel, rfl, by decide +kernel, by decide +kernel⟩
theorem ok_is_count_below {f : Addr} {fd : FuncData} (F : FnP K "is_count_below" s_is_count_below f fd) (Z : FreeS mg)
    {f_is_count : Addr} {d_is_count : FuncData} (g_is_count : mg "is_count" = some (.ref f_is_count)) (F_is_count : FnP K "is_count" s_is_count f_is_count d_is_count) (G_is_count : FnOk P w K mg base CX0 2 f_is_count d_is_count ["value"] (spCount K)) :
    FnOk P w K mg base CX0 3 f fd ["value", "bound"] (spBelow K) := by
  have b_is_count : Binds K d_is_count ["value"] [] := F_is_count.bindsN fun _ _ _ _ _ _ us hl => match us, hl with | [_], _ => rfl
  refine F.ok sc_is_count_below (fun vs H Q E h => ?_) (fun cdv A outer s H vs Q E hr h => ?_)
  · obtain ⟨x, d, m, n, rfl, _⟩ := h
    rfl
  · obtain ⟨x, d, m, n, rfl, hx, k⟩ := h
    have nd := sc_is_count_below.nd
    refine ⟨_, PSs.nox (pss_one (ps_ret (pe_and (pe_call G_is_count (hr.mono (by decide)) rfl g_is_count F_is_count.kp b_is_count .nil pass0 (pa_cons (pv 0) (pa_nil))) (pe_one (pe_cmpR op_lt (pv 0) (pv 1) (nomark _)))))), ?_⟩
    refine ⟨_, rfl, x, d, m, rfl, hx, _, rfl, ?_⟩
    rcases td_cs hx with ⟨rfl, rfl⟩ | ⟨b, rfl, rfl⟩ | ⟨i, rfl, rfl⟩ | ⟨z, rfl, rfl⟩ | ⟨a, xs, ds, rfl, ha, rfl, _⟩ | ⟨a, xs, ds, rfl, ha, rfl, _⟩ | ⟨a, ps, m, rfl, ha, rfl⟩
    · exact iteF k
    · exact iteF k
    · by_cases c : i ≥ 0
      · refine itePos (decide_eq_true c) ⟨_, rfl, _, rfl, _, _, rfl, rfl, ?_⟩
        have e : belB n (.int i) = decide (i < (n : Int)) := by
          show (decide (0 ≤ i) && decide (i < (n : Int))) = _
          rw [decide_eq_true c, Bool.true_and]
        rw [e] at k
        exact k
      · have e : belB n (.int i) = false := by
          show (decide (0 ≤ i) && decide (i < (n : Int))) = _
          rw [decide_eq_false c, Bool.false_and]
        rw [e] at k
        exact iteNeg (by rw [show cntB (.int i) = false from decide_eq_false c]; exact Bool.false_ne_true) k
    · exact iteF k
    · exact iteF k
    · exact iteF k
    · exact iteF k
abbrev s_is_tuple_of : Stmt := top 9
abbrev N_is_tuple_of : List Str := ["value", "length"]
theorem sc_is_tuple_of : FnScope N_is_tuple_of ["value", "length"] (defScope s_is_tuple_of) := ⟨rfl, rfl, rfl, by decide +kernel, rfl, by decide +kernel, by decide +kernel⟩
theorem ok_is_tuple_of {f : Addr} {fd : FuncData} (F : FnP K "is_tuple_of" s_is_tuple_of f fd) (Z : FreeS mg) :
    FnOk P w K mg base CX0 1 f fd ["value", "length"] (spTupOf K) := by
  refine F.ok sc_is_tuple_of (fun vs H Q E h => ?_) (fun cdv A outer s H vs Q E hr h => ?_)
  · obtain ⟨x, d, m, n, rfl, _⟩ := h
    rfl
  · obtain ⟨x, d, m, n, rfl, hx, k⟩ := h
    have nd := sc_is_tuple_of.nd
    refine ⟨_, PSs.nox (pss_one (ps_ret (pe_and (pe_callB call_isi (by rfl) Z.isi (by decide +kernel) (pa_cons (pv 0) (pa_cons (pe_bltn (v := .ty "tuple") (by rfl) Z.ttuple (by decide +kernel) rfl) pa_nil))) (pe_one (pe_cmpR op_eq (pe_callB call_len_seq (by rfl) Z.len (by decide +kernel) (pa_cons (pv 0) (pa_nil))) (pv 1) (nomark _)))))), ?_⟩
    rcases td_cs hx with ⟨rfl, rfl⟩ | ⟨b, rfl, rfl⟩ | ⟨i, rfl, rfl⟩ | ⟨z, rfl, rfl⟩ | ⟨a, xs, ds, rfl, ha, rfl, _⟩ | ⟨a, xs, ds, rfl, ha, rfl, ll, _⟩ | ⟨a, ps, m, rfl, ha, rfl⟩
    · exact ⟨_, rfl, _, .ty "tuple", .type "NoneType", .type "tuple", false, rfl, .ty _, .base .non, kit_ty (by decide +kernel), false, rfl, iteF k⟩
    · exact ⟨_, rfl, _, .ty "tuple", .type "bool", .type "tuple", false, rfl, .ty _, .base (.bl b), kit_ty (by decide +kernel), false, rfl, iteF k⟩
    · exact ⟨_, rfl, _, .ty "tuple", .type "int", .type "tuple", false, rfl, .ty _, .base (.int i), kit_ty (by decide +kernel), false, rfl, iteF k⟩
    · exact ⟨_, rfl, _, .ty "tuple", .type "str", .type "tuple", false, rfl, .ty _, .base (.str z), kit_ty (by decide +kernel), false, rfl, iteF k⟩
    · exact ⟨_, rfl, _, .ty "tuple", .type "list", .type "tuple", false, rfl, .ty _, .base (.lst ha), kit_ty (by decide +kernel), false, rfl, iteF k⟩
    · refine ⟨_, rfl, .ref a, .ty "tuple", .type "tuple", .type "tuple", true, rfl, .ty _, sqT_ty ha, kit_ty (by decide +kernel), true, rfl, iteT ?_⟩
      refine ⟨_, rfl, a, xs, rfl, Or.inr ha, _, rfl, rfl, ?_⟩
      have e : decide (V.int (xs.length : Int) = V.int n) = decide ((ds.length : Int) = n) := by
        rw [ll]
        by_cases h : (ds.length : Int) = n
        · rw [decide_eq_true h, decide_eq_true (congrArg V.int h)]
        · rw [decide_eq_false h, decide_eq_false fun z => h (V.int.inj z)]
      rw [e]
      exact k
    · exact ⟨_, rfl, _, .ty "tuple", .type "dict", .type "tuple", false, rfl, .ty _, .base (.dK ha), kit_ty (by decide +kernel), false, rfl, iteF k⟩
abbrev s_ascends : Stmt := top 10
abbrev N_ascends : List Str := ["values", "one", "other"]
theorem sc_ascends : FnScope N_ascends ["values"] (defScope s_ascends) := ⟨rfl, rfl, rfl, by decide +kernel, rfl, by decide +kernel, by decide +kernel⟩
theorem ok_ascends {f : Addr} {fd : FuncData} (F : FnP K "ascends" s_ascends f fd) (Z : FreeS mg) :
    FnOk P w K mg base CX0 1 f fd ["values"] (spAsc K) := by
  refine F.ok sc_ascends (fun vs H Q E h => ?_) (fun cdv A outer s H vs Q E hr h => ?_)
  · obtain ⟨a, c, rfl, _⟩ := h
    rfl
  · obtain ⟨a, c, rfl, hh, k⟩ := h
    have hu0 := hr.units
    have nd := sc_ascends.nd
    refine ⟨_, PSs.nox (pss_one (ps_ret (pe_callB (cr_all rfl) (by rfl) Z.all (by decide +kernel) (pa_cons (pe_lc (own := [("one", 1), ("other", 2)]) (g := gTup K 2 (gCons (gName 1) (gCons (gName 2) (gNil)))) (tt := tYes) (te := tOp ((rLtB K)) (tVar 1) (tVar 2)) (by rfl) nd (pi_zip (by rfl) Z.zip (pa_cons (pv 0) (pa_cons (pe_slice sl_list (pv 0) (po_some (pe_int)) (po_none)) (pa_nil))))
          (blkOk_by (own := [("one", 1), ("other", 2)]) (N := N_ascends) (sc := defScope s_ascends) (by decide +kernel)) (fun _ _ _ _ _ => pg_tup rfl (pgs_cons (pg_name (i := 1) nd rfl (Or.inl rfl)) (pgs_cons (pg_name (i := 2) nd rfl (Or.inl rfl)) (pgs_nil)))) (fun _ _ _ _ _ => pts_nil)
          (fun _ _ _ _ _ => pe_cmpR (OpR.or op_lt (op_ltT (Nat.lt_of_le_of_lt (Nat.le_add_right _ 64) hr.units))) (pv 1) (pv 2) (nomark _))) (pa_nil))))), ?_⟩
    obtain ⟨xs, f, ha, lx, hc, hp⟩ : ∃ (xs : List V) (f : Nat → Bool), H a = some (.lst xs) ∧ xs.length ≤ 1000 ∧ c = (List.range (xs.length - 1)).all f ∧ ∀ (i : Nat) (x y : V), xs[i]? = some x → xs[1 + i]? = some y → ∀ (G : Hp) (Q : VK), Same H G → Q (.bl (f i)) G → rLtB K x y G Q := by
      rcases hh with ⟨ec, ns, ha, l, hp⟩ | ⟨ws, hW, l, ec⟩
      · refine ⟨_, fun _ => true, ha, by unfold numsV; rw [List.length_map]; exact l, ec.trans (List.all_eq_true.mpr fun _ _ => rfl).symm, fun i x y e1 e2 G Q s q => .inl ?_⟩
        unfold numsV at e1 e2
        rw [List.getElem?_map] at e1 e2
        obtain ⟨n1, q1, rfl⟩ := Option.map_eq_some_iff.mp e1
        obtain ⟨n2, q2, rfl⟩ := Option.map_eq_some_iff.mp e2
        obtain ⟨b1, z1⟩ := List.getElem?_eq_some_iff.mp q1
        obtain ⟨b2, z2⟩ := List.getElem?_eq_some_iff.mp q2
        have := List.pairwise_iff_getElem.mp hp i (1 + i) b1 b2 (by omega)
        rw [z1, z2] at this
        refine ⟨_, _, rfl, rfl, ?_⟩
        show Q (.bl (decide ((n1 : Int) < (n2 : Int)))) G
        rw [decide_eq_true (show (n1 : Int) < (n2 : Int) by omega)]
        exact q
      · obtain ⟨ts, h1, h2, h3⟩ := hW
        refine ⟨_, fun i => lexB (ws.getD i (0, 0)) (ws.getD (1 + i) (0, 0)), h1, by rw [List.length_map, h2]; exact l, by rw [ec, List.length_map, h2]; rfl, fun i x y e1 e2 G Q s q => .inr ?_⟩
        rw [List.getElem?_map] at e1 e2
        obtain ⟨t1, q1, rfl⟩ := Option.map_eq_some_iff.mp e1
        obtain ⟨t2, q2, rfl⟩ := Option.map_eq_some_iff.mp e2
        obtain ⟨b1, z1⟩ := List.getElem?_eq_some_iff.mp q1
        obtain ⟨b2, z2⟩ := List.getElem?_eq_some_iff.mp q2
        have w1 : ws[i]? = some (ws.getD i (0, 0)) := by rw [List.getD_eq_getElem?_getD, List.getElem?_eq_getElem (by omega)]; rfl
        have w2 : ws[1 + i]? = some (ws.getD (1 + i) (0, 0)) := by rw [List.getD_eq_getElem?_getD, List.getElem?_eq_getElem (by omega)]; rfl
        have s1 := SqT_up s (h3 i t1 _ q1 w1)
        have s2 := SqT_up s (h3 (1 + i) t2 _ q2 w2)
        refine ⟨t1, t2, [((ws.getD i (0, 0)).1 : Int), ((ws.getD i (0, 0)).2 : Int)], [((ws.getD (1 + i) (0, 0)).1 : Int), ((ws.getD (1 + i) (0, 0)).2 : Int)], rfl, rfl, s1, s2, ?_⟩
        rw [lexLt_eq]
        exact q
    obtain ⟨cq, hq⟩ : ∃ c : List V, c = cutV xs (some 1) none := ⟨_, rfl⟩
    have ec : cq = xs.drop 1 := by
      rw [hq, cut_tl]
    refine ⟨_, rfl, _, rfl, _, rfl, a, _, rfl, SqL.of ha, fun q hqn => ?_⟩
    rw [← hq]
    have s1 : Same H (upd H q (.lst cq)) := Same.updf hqn
    refine ⟨a, q, _, _, rfl, SqL.of (s1 _ _ ha), SqL.of upd_same, fun D hD => ?_⟩
    refine lc_sel (n := xs.length - 1) (walk_zip (K := K) (a := a) (b := q) (xs := xs) (ys := cq) (by rw [ec, List.length_drop]; omega)) (fun i => some (.bl (f i))) (by omega) hD (fun H2 s2 => ⟨SqL.of (s2 _ _ (s1 _ _ ha)), SqL.of (s2 _ _ upd_same)⟩) ?_ ?_
    · rintro t v H5 H6 Qy Qn ht s6 ⟨T, x1, x2, rfl, nT, rfl, g1, g2⟩ ky kn
      dsimp only at g1 g2
      rw [ec, List.getElem?_drop] at g2
      refine ⟨T, [_, _], rfl, .inl (.inl upd_same), rfl, _, [_], rfl, _, [], rfl, rfl, ?_⟩
      refine ⟨rfl, _, rfl, _, rfl, hp _ _ _ g1 g2 _ _ ((s1.trans s6).trans (Same.updf nT)) (ky _ _ (Same.updf nT) rfl)⟩
    · intro H2 s2 hR
      have hB := all_bl' (K := K) hR
      refine ⟨D, _, rfl, hB, ?_⟩
      rw [List.all_map]
      have e : (List.range (xs.length - 1)).all (id ∘ f) = c := by rw [hc]; rfl
      rw [e]
      exact k _ (s1.trans s2)
end
end K19
set_option Elab.async false
set_option linter.all false
set_option maxRecDepth 100000
set_option maxHeartbeats 4000000
/-! A new object that is gone over at once: it is held from then on. -/
namespace L2
open PySem PySem.Spec PyProof.Rows
def tLk (t : TE) : TE := fun σ H Q => t σ H fun x H1 => ∃ d u, x = .ref d ∧ H1 d = some u ∧ Mut (some u) ∧ ∀ od, Q x (upd H1 d (.frz od u))
theorem pe_lk {X : Cx} {e : Expr} {t : TE} (h : PE X e t) : PE X e (tLk t) := by
  refine ⟨fun pins s σ H Q I hw => ?_⟩
  refine thn (h.run pins s σ H _ I hw) fun v s1 ⟨x, H1, I1, r, q⟩ => ?_
  obtain ⟨d, u, ex, hd, mu, q⟩ := q
  subst ex
  obtain ⟨od, I2⟩ := I1.lock hd mu
  exact ⟨_, _, I2, r, q od⟩
end L2
set_option Elab.async false
set_option linter.all false
set_option maxRecDepth 100000
set_option maxHeartbeats 4000000
/-! xs == [] and xs != [], whatever xs holds. -/
namespace L2
open PySem PySem.Spec PyProof.Rows
section
variable {X : Cx}
def rEmp (K : PySem.W.Frag) (neg : Bool) : R2 := fun x y H Q => ∃ (a b : Addr) (xs : List V), x = .ref a ∧ y = .ref b ∧ SqL K H a xs ∧ SqL K H b [] ∧ Q (.bl (xs.isEmpty != neg)) H
theorem op_eqE (hu : X.A.units < cLine) : OpR X (compareOp .Eq) (rEmp X.K false) := by
  intro pins s σ H x y v u Q I rx ry h
  obtain ⟨a, b, xs, rfl, rfl, ha, hb, q⟩ := h
  obtain rfl : v = Value.ref a := rx
  obtain rfl : u = Value.ref b := ry
  obtain ⟨its, rv, ⟨oa, na, hoa, hca, _, hda⟩, _⟩ := I.list ha
  obtain ⟨its2, rv2, ⟨ob, nb, hob, hcb, _, hdb⟩, _⟩ := I.list hb
  cases rv2
  have hA : s.heap.IsList a its.toArray := ⟨oa, hoa, hca, na, hda⟩
  have hB : s.heap.IsList b #[] := ⟨ob, hob, hcb, nb, hdb⟩
  have z : ∀ c : Bool, (c != false) = c := by decide
  rw [z] at q
  cases rv with
  | nil => exact SeqAt.RcAt.lists (e := fun _ => true) hA hB rfl hu (fun j h1 h2 => absurd h2 (Nat.not_lt_zero _)) X.prog X.w _ _ ⟨.bl _, H, I, rfl, q⟩
  | cons r t => exact SeqAt.RcAt.lists_lengths hA hB (by simp) hu X.prog X.w _ _ ⟨.bl _, H, I, rfl, q⟩
theorem op_neE (hu : X.A.units < cLine) : OpR X (compareOp .NotEq) (rEmp X.K true) := by
  intro pins s σ H x y v u Q I rx ry h
  obtain ⟨a, b, xs, rfl, rfl, ha, hb, q⟩ := h
  obtain rfl : v = Value.ref a := rx
  obtain rfl : u = Value.ref b := ry
  obtain ⟨its, rv, ⟨oa, na, hoa, hca, _, hda⟩, _⟩ := I.list ha
  obtain ⟨its2, rv2, ⟨ob, nb, hob, hcb, _, hdb⟩, _⟩ := I.list hb
  cases rv2
  have hA : s.heap.IsList a its.toArray := ⟨oa, hoa, hca, na, hda⟩
  have hB : s.heap.IsList b #[] := ⟨ob, hob, hcb, nb, hdb⟩
  have z : ∀ c : Bool, (c != true) = !c := by decide
  rw [z] at q
  cases rv with
  | nil => exact SeqAt.RcNeAt.lists (e := fun _ => true) hA hB rfl hu (fun j h1 h2 => absurd h2 (Nat.not_lt_zero _)) X.prog X.w _ _ ⟨.bl _, H, I, rfl, q⟩
  | cons r t => exact SeqAt.RcNeAt.lists_lengths hA hB (by simp) hu X.prog X.w _ _ ⟨.bl _, H, I, rfl, q⟩
end
end L2
set_option Elab.async false
set_option linter.all false
set_option maxRecDepth 100000
set_option maxHeartbeats 4000000
/-! sorted(xs) of tracked data of one shape: tuples, rows, texts. -/
namespace KB
open PySem PySem.Spec PyProof.Rows L2
theorem eachOf {xs : List V} {us : List Value} (h : Vals xs us) : PySem.W.EachIs (fun (u : Value) (x : V) => RelV x u) us xs := by
  induction h with
  | nil => exact .nil
  | cons r _ ih => exact .cons r ih
theorem valsOf {xs : List V} {us : List Value} (h : PySem.W.EachIs (fun (u : Value) (x : V) => RelV x u) us xs) : Vals xs us := by
  induction h with
  | nil => exact .nil
  | cons r _ ih => exact .cons r ih
theorem eachMem {α β : Type} {R S : α → β → Prop} {as : List α} {bs : List β} (h : PySem.W.EachIs R as bs) (k : ∀ a b, b ∈ bs → R a b → S a b) : PySem.W.EachIs S as bs := by
  induction h with
  | nil => exact .nil
  | cons r _ ih => exact .cons (k _ _ List.mem_cons_self r) (ih fun a b m => k a b (List.mem_cons_of_mem _ m))
def rSortedD (K : PySem.W.Frag) : List V → Hp → VK → Prop := fun vs H Q => ∃ (a : Addr) (xs : List V) (k : V → PyData), vs = [.ref a] ∧ SqL K H a xs ∧ (∀ x ∈ xs, Dp K H x (k x)) ∧ PySem.W.AllAlike (xs.map k) ∧ PySem.W.Sortable (xs.map k) ∧ (∀ x ∈ xs, (k x).depth ≤ 40) ∧
  ∀ p, H p = none → Q (.ref p) (upd H p (.lst (xs.mergeSort (PySem.W.dataLe false k))))
theorem cr_sortedD {X : Cx} (hu : X.A.units + 64 < cLine) : CallR X (.builtin "sorted") (rSortedD X.K) := by
  intro pins s σ H vs us Q I r h
  obtain ⟨a, xs, k, rfl, hs, hk, ha, hb, hd, q⟩ := h
  obtain rfl := Vals.ref1 r
  obtain ⟨its, rv, hl, hz⟩ := I.list hs
  have e1 := eachOf rv
  refine PySem.W.sorted_data (vs := its) (bs := xs) (enc := k) (R := fun u x => RelV x u) hl.isList e1 (eachMem e1 fun u x m r => Dp.reads I (k x) x u (hk x m) r) ha hb hz (fun x m => ?_) fun out len eo => ?_
  · have := hd x m
    omega
  · obtain ⟨ep, he⟩ := PyProof.Rows.sortedAll_at s.heap its out.toArray
    have z : (xs.mergeSort (PySem.W.dataLe false k)).length ≤ sizeLine := by
      rw [List.length_mergeSort]
      exact hz
    exact ⟨.ref _, upd H (s.heap.objs.size + 1) (.lst (xs.mergeSort (PySem.W.dataLe false k))), I.laid (t' := s.toks) (fun _ _ => PyProof.Rows.sortedAll_old) (Nat.le_succ _) ⟨z, out, ep, valsOf eo, he⟩, rfl, q _ (I.hok.fresh (Nat.le_succ _))⟩
end KB
set_option Elab.async false
set_option linter.all false
set_option maxRecDepth 100000
set_option maxHeartbeats 4000000
/-! sorted(xs), xs new tuples of as many ints each. -/
namespace KB
open PySem PySem.Spec PyProof.Rows L2
theorem zip_paired {α β : Type} {F : α → β → Prop} : ∀ {xs : List α} {ys : List β}, Paired F xs ys → (∀ p ∈ xs.zip ys, F p.1 p.2) ∧ (xs.zip ys).map Prod.fst = xs ∧ (xs.zip ys).map Prod.snd = ys
  | _, _, .nil => ⟨fun p h => (nomatch h), rfl, rfl⟩
  | _, _, .cons r t => by
    obtain ⟨h1, h2, h3⟩ := zip_paired t
    refine ⟨fun p h => ?_, ?_, ?_⟩
    · rw [List.zip_cons_cons] at h
      rcases List.mem_cons.mp h with rfl | h
      · exact r
      · exact h1 p h
    · rw [List.zip_cons_cons, List.map_cons, h2]
    · rw [List.zip_cons_cons, List.map_cons, h3]
theorem paired_zip {α β : Type} {F : α → β → Prop} : ∀ {ps : List (α × β)}, (∀ p ∈ ps, F p.1 p.2) → Paired F (ps.map Prod.fst) (ps.map Prod.snd)
  | [], _ => .nil
  | p :: ps, h => .cons (h p List.mem_cons_self) (paired_zip fun q hq => h q (List.mem_cons_of_mem _ hq))
theorem paired_sort {α β : Type} {F : α → β → Prop} {le : β → β → Bool} {le' : α → α → Bool} (h : ∀ a x b y, F a x → F b y → le' a b = le x y) {xs : List α} {ys : List β} (p : Paired F xs ys) : Paired F (xs.mergeSort le') (ys.mergeSort le) := by
  obtain ⟨h1, h2, h3⟩ := zip_paired p
  have e1 : ((xs.zip ys).mergeSort fun p q => le p.2 q.2).map Prod.fst = xs.mergeSort le' := by
    rw [List.map_mergeSort (s := le') (fun a ha b hb => (h _ _ _ _ (h1 a ha) (h1 b hb)).symm), h2]
  have e2 : ((xs.zip ys).mergeSort fun p q => le p.2 q.2).map Prod.snd = ys.mergeSort le := by
    rw [List.map_mergeSort (s := le) (fun a _ b _ => rfl), h3]
  rw [← e1, ← e2]
  exact paired_zip fun q hq => h1 q ((List.mergeSort_perm _ _).mem_iff.mp hq)
theorem paired_get2 {α β : Type} {F : α → β → Prop} : ∀ {xs : List α} {ys : List β}, Paired F xs ys → ∀ {i : Nat} {y : β}, ys[i]? = some y → ∃ x, xs[i]? = some x ∧ F x y
  | _, _, .nil, i, x, h => by cases h
  | _, _, .cons r t, 0, x, h => by
    have e := Option.some.inj h
    subst e
    exact ⟨_, rfl, r⟩
  | _, _, .cons r t, i + 1, x, h => paired_get2 t h
theorem paired_get1 {α β : Type} {F : α → β → Prop} : ∀ {xs : List α} {ys : List β}, Paired F xs ys → ∀ {i : Nat} {x : α}, xs[i]? = some x → ∃ y, ys[i]? = some y ∧ F x y
  | _, _, .nil, i, x, h => by cases h
  | _, _, .cons r t, 0, x, h => by
    have e := Option.some.inj h
    subst e
    exact ⟨_, rfl, r⟩
  | _, _, .cons r t, i + 1, x, h => paired_get1 t h
theorem paired_rev {α β : Type} {F : α → β → Prop} : ∀ {xs : List α} {ys : List β}, Paired F xs ys → Paired F xs.reverse ys.reverse
  | _, _, .nil => .nil
  | _, _, .cons r t => by
    rw [List.reverse_cons, List.reverse_cons]
    exact paired_snoc (paired_rev t) r
theorem paired_mapG {α β γ : Type} {F : γ → β → Prop} {f : α → γ} : ∀ {xs : List α} {ys : List β}, Paired (fun x y => F (f x) y) xs ys → Paired F (xs.map f) ys
  | _, _, .nil => .nil
  | _, _, .cons r t => .cons r (paired_mapG t)
theorem sel_getG {α : Type} (z : α) (l : List α) (c : α → Bool) : (((List.range l.length).filter fun i => c (l.getD i z)).map fun i => l.getD i z) = l.filter c := by
  have e : l = (List.range l.length).map fun i => l.getD i z := by
    refine List.ext_getElem (by simp) fun i h1 h2 => ?_
    simp [h1]
  conv => rhs; rw [e, List.filter_map]
  rfl
theorem paired_selG {α : Type} {z : α} {l : List α} {c : α → Bool} {R : α → V → Prop} {ys : List V} (h : Paired (fun i y => R (l.getD i z) y) ((List.range l.length).filter fun i => c (l.getD i z)) ys) : Paired R (l.filter c) ys := by
  have := paired_mapG h
  rw [sel_getG] at this
  exact this
def intsD (t : List Int) : PyData := .tuple (t.map PyData.int)
def sortT (ts : List (List Int)) : List (List Int) := ts.mergeSort fun a b => PySem.W.dataLe false intsD a b
theorem sortT_perm (ts : List (List Int)) : (sortT ts).Perm ts := List.mergeSort_perm _ _
/-- y is a tuple of these ints -/
def IntsAt (H : Hp) (t : List Int) (y : V) : Prop := ∃ T, y = .ref T ∧ H T = some (.tup (t.map V.int))
theorem IntsAt.same {H H' : Hp} (k : Same H H') {t : List Int} {y : V} : IntsAt H t y → IntsAt H' t y := fun ⟨T, e, h⟩ => ⟨T, e, k _ _ h⟩
def encI (H : Hp) (y : V) : PyData := match y with
  | .ref T => (match H T with
    | some (.tup xs) => .tuple (xs.map fun v => match v with | .int i => PyData.int i | _ => .none)
    | _ => .none)
  | _ => .none
theorem encI_at {H : Hp} {t : List Int} {y : V} (h : IntsAt H t y) : encI H y = intsD t := by
  obtain ⟨T, rfl, h⟩ := h
  simp only [encI, intsD, h, List.map_map]
  rfl
theorem dpAll_ints {K : PySem.W.Frag} {H : Hp} : ∀ t : List Int, DpAll K H (t.map V.int) (t.map PyData.int)
  | [] => .nil
  | i :: t => .cons (.int i) (dpAll_ints t)
theorem alikeAll_ints : ∀ a b : List Int, PySem.W.alikeAll (a.map PyData.int) (b.map PyData.int) = true
  | [], _ => by simp [PySem.W.alikeAll]
  | _ :: _, [] => by simp [PySem.W.alikeAll]
  | i :: a, j :: b => by
    rw [List.map_cons, List.map_cons]
    simp only [PySem.W.alikeAll, PySem.W.alike, alikeAll_ints a b, Bool.and_self]
theorem depth_ints : ∀ t : List Int, PyData.depthAll (t.map PyData.int) = 0
  | [] => by simp [PyData.depthAll]
  | i :: t => by
    rw [List.map_cons]
    simp only [PyData.depthAll, PyData.depth, depth_ints t]
    rfl
def rSortT (K : PySem.W.Frag) : List V → Hp → VK → Prop := fun vs H Q => ∃ (a : Addr) (xs : List V) (ts : List (List Int)), vs = [.ref a] ∧ SqL K H a xs ∧ Paired (IntsAt H) ts xs ∧ (∀ t ∈ ts, t ≠ []) ∧
  ∀ p ys, H p = none → Paired (IntsAt H) (sortT ts) ys → Q (.ref p) (upd H p (.lst ys))
theorem cr_sortedT {X : Cx} (hu : X.A.units + 64 < cLine) : CallR X (.builtin "sorted") (rSortT X.K) := by
  intro pins s σ H vs us Q I r h
  obtain ⟨a, xs, ts, rfl, hs, py, hne, q⟩ := h
  have get : ∀ x ∈ xs, ∃ t ∈ ts, IntsAt H t x := fun x mx => by
    obtain ⟨h1, h2, h3⟩ := zip_paired py
    rw [← h3] at mx
    obtain ⟨p, hp, rfl⟩ := List.mem_map.mp mx
    refine ⟨p.1, ?_, h1 p hp⟩
    rw [← h2]
    exact List.mem_map.mpr ⟨p, hp, rfl⟩
  refine cr_sortedD hu pins s σ H _ us Q I r ⟨a, xs, encI H, rfl, hs, fun x mx => ?_, fun d hd d' hd' => ?_, .inl fun d hd => ?_, fun x mx => ?_, fun p hp => ?_⟩
  · obtain ⟨t, _, h⟩ := get x mx
    rw [encI_at h]
    obtain ⟨T, rfl, hT⟩ := h
    exact .tup (SqT.of hT) (dpAll_ints t)
  · obtain ⟨x, mx, rfl⟩ := List.mem_map.mp hd
    obtain ⟨y, my, rfl⟩ := List.mem_map.mp hd'
    obtain ⟨t, _, h⟩ := get x mx
    obtain ⟨t', _, h'⟩ := get y my
    rw [encI_at h, encI_at h']
    show PySem.W.alike (.tuple _) (.tuple _) = true
    simp only [PySem.W.alike, alikeAll_ints]
  · obtain ⟨x, mx, rfl⟩ := List.mem_map.mp hd
    obtain ⟨t, mt, h⟩ := get x mx
    rw [encI_at h]
    cases t with
    | nil => exact absurd rfl (hne _ mt)
    | cons i t => exact ⟨_, _, rfl⟩
  · obtain ⟨t, _, h⟩ := get x mx
    rw [encI_at h]
    unfold intsD
    simp only [PyData.depth, depth_ints]
    decide
  · refine q p _ hp (paired_sort (fun a x b y h1 h2 => ?_) py)
    unfold PySem.W.dataLe PySem.W.sortLe
    dsimp only
    rw [encI_at h1, encI_at h2]
def rListOf (K : PySem.W.Frag) : List V → Hp → VK → Prop := fun xs H Q => ∃ p ys, xs = [V.ref p] ∧ (SqL K H p ys ∨ SqT K H p ys) ∧ ∀ l, H l = none → Q (.ref l) (upd H l (.lst ys))
theorem call_list_ofR {X : Cx} : CallR X (.type "list") (rListOf X.K) := call_list_of
end KB
set_option Elab.async false
set_option linter.all false
set_option maxRecDepth 100000
set_option maxHeartbeats 8000000
/-! Runs and waits, second part. -/
namespace K19
open PySem PySem.Spec PyProof.Rows L2 KB
theorem nums_td {K : PySem.W.Frag} {H : Hp} {a : Addr} {l : List Nat} (n : Nat) (h : H a = some (.lst (numsV l))) (hl : l.length ≤ 1000) : TD K H (n + 1) (.ref a) (.list (l.map fun x : Nat => PyData.int (x : Int))) := by
  refine TD.lst h (by unfold numsV; rw [List.length_map, List.length_map]) (by rw [List.length_map]; exact hl) fun i u e e1 e2 => ?_
  unfold numsV at e1
  rw [List.getElem?_map] at e1 e2
  obtain ⟨p, q1, rfl⟩ := Option.map_eq_some_iff.mp e1
  rw [q1] at e2
  cases e2
  exact TD.flat (.int _)
theorem run_td {K : PySem.W.Frag} {H : Hp} {a : Addr} {es : List Ev} (n : Nat) (h : RunAt K H a es) (hl : es.length ≤ 1000) : TD K H (n + 2) (.ref a) (.list (es.map Ev.d)) := LsT.td n (fun h => Ev.td n h) h hl
theorem wts_td {K : PySem.W.Frag} {H : Hp} {a : Addr} {ws : List (Nat × Nat)} (n : Nat) (h : WtAt K H a ws) (hl : ws.length ≤ 1000) : TD K H (n + 2) (.ref a) (.list (ws.map pd)) := LsT.td n (fun h => pd_td n h) h hl
theorem LsT.butS {K : PySem.W.Frag} {α : Type} {vv : α → List V} {H H' : Hp} {a : Addr} {xs : List α} {S : Addr → Prop} (k : ∀ c o, ¬ S c → H c = some o → H' c = some o) (hS : ∀ p, S p → ∃ l, H p = some (.lst l)) (n : ¬ S a) (h : LsT K vv H a xs) : LsT K vv H' a xs := by
  obtain ⟨ts, h1, h2, h3⟩ := h
  refine ⟨ts, k _ _ n h1, h2, fun i t e e1 e2 => ?_⟩
  rcases h3 i t e e1 e2 with (h | ⟨o, h⟩) | h
  · exact .inl (.inl (k _ _ (fun z => by obtain ⟨l, e⟩ := hS t z; rw [h] at e; cases e) h))
  · exact .inl (.inr ⟨o, k _ _ (fun z => by obtain ⟨l, e⟩ := hS t z; rw [h] at e; cases e) h⟩)
  · exact .inr h
theorem LsT.copy {K : PySem.W.Frag} {α : Type} {vv : α → List V} {H H' : Hp} {a q : Addr} {xs : List α} {vs : List V} (h : LsT K vv H a xs) (e : H a = some (.lst vs)) (k : Same H H') (hq : H' q = some (.lst vs)) : LsT K vv H' q xs := by
  obtain ⟨ts, h1, h2, h3⟩ := h
  rw [h1] at e
  cases e
  exact ⟨ts, hq, h2, fun i t x e1 e2 => SqT_up k (h3 i t x e1 e2)⟩
structure RunOk (K : PySem.W.Frag) (H : Hp) (a : Addr) (es : List Ev) : Prop where
  at_ : RunAt K H a es
  ne : es ≠ []
  len : es.length ≤ 100
structure WtOk (K : PySem.W.Frag) (H : Hp) (b : Addr) (es : List Ev) (ws : List (Nat × Nat)) : Prop where
  at_ : WtAt K H b ws
  ok : WaitsOk es ws
  len : ws.length ≤ 1000
theorem RunOk.same {K : PySem.W.Frag} {H H' : Hp} {a : Addr} {es : List Ev} (k : Same H H') (h : RunOk K H a es) : RunOk K H' a es := ⟨h.at_.same k, h.ne, h.len⟩
theorem WtOk.same {K : PySem.W.Frag} {H H' : Hp} {a : Addr} {es : List Ev} {ws : List (Nat × Nat)} (k : Same H H') (h : WtOk K H a es ws) : WtOk K H' a es ws := ⟨h.at_.same k, h.ok, h.len⟩
theorem RunOk.ext {K : PySem.W.Frag} {H H' : Hp} {a : Addr} {es : List Ev} (k : LamX.ExtN H H') (h : RunOk K H a es) : RunOk K H' a es := ⟨h.at_.ext k, h.ne, h.len⟩
theorem WtOk.ext {K : PySem.W.Frag} {H H' : Hp} {a : Addr} {es : List Ev} {ws : List (Nat × Nat)} (k : LamX.ExtN H H') (h : WtOk K H a es ws) : WtOk K H' a es ws := ⟨h.at_.ext k, h.ok, h.len⟩
def spIsEvent (K : PySem.W.Frag) : Sp := fun vs H Q _ => ∃ (t : Addr) (e : Ev), vs = [.ref t] ∧ SqT K H t e.v ∧ ∀ H', Same H H' → Q (.bl true) H'
def spEvents (K : PySem.W.Frag) : Sp := fun vs H Q _ => ∃ (a : Addr) (es : List Ev), vs = [.ref a] ∧ RunOk K H a es ∧ ∀ H', Same H H' → Q (.bl true) H'
def spNeedRun (K : PySem.W.Frag) : Sp := fun vs H Q _ => ∃ (a : Addr) (es : List Ev), vs = [.ref a] ∧ RunOk K H a es ∧ ∀ H', Same H H' → Q .non H'
theorem paired_of {α β : Type} {R : α → β → Prop} : ∀ {xs : List α} {ys : List β}, xs.length = ys.length → (∀ (i : Nat) (x : α) (y : β), xs[i]? = some x → ys[i]? = some y → R x y) → Paired R xs ys
  | [], [], _, _ => .nil
  | [], _ :: _, l, _ => by cases l
  | _ :: _, [], l, _ => by cases l
  | x :: xs, y :: ys, l, k => .cons (k 0 x y rfl rfl) (paired_of (Nat.succ.inj l) fun i u v h1 h2 => k (i + 1) u v h1 h2)
def waitN (es : List Ev) (i j : Nat) : Bool := decide (i < j) && (match es[i]? with
  | some (.wr c) => (match es[j]? with
    | some .tell => true
    | some (.wr c') => decide (c' ≠ c)
    | _ => false)
  | _ => false)
def waitB (es : List Ev) : PyData → Bool
  | .tuple [.int i, .int j] => (decide (0 ≤ i) && decide (i < (es.length : Int))) && ((decide (0 ≤ j) && decide (j < (es.length : Int))) && waitN es i.toNat j.toNat)
  | _ => false
def toW : PyData → Nat × Nat
  | .tuple [.int i, .int j] => (i.toNat, j.toNat)
  | _ => (0, 0)
def waitsB (es : List Ev) : PyData → Bool
  | .list ds => ds.all (waitB es) && ascB (ds.map toW)
  | _ => false
theorem waitN_iff {es : List Ev} {i j : Nat} (hj : j < es.length) : waitN es i j = true ↔ WaitOk es (i, j) := by
  unfold waitN
  rw [Bool.and_eq_true, decide_eq_true_eq]
  constructor
  · rintro ⟨h1, h2⟩
    refine ⟨h1, hj, ?_⟩
    split at h2
    · rename_i c e
      refine ⟨c, e, ?_⟩
      split at h2
      · rename_i e2
        exact .inl e2
      · rename_i c' e2
        exact .inr ⟨c', e2, of_decide_eq_true h2⟩
      · cases h2
    · cases h2
  · rintro ⟨h1, _, c, e, h⟩
    have e : es[i]? = some (.wr c) := e
    refine ⟨h1, ?_⟩
    rw [e]
    rcases h with h | ⟨c', h, n⟩
    · have h : es[j]? = some .tell := h
      rw [h]
    · have h : es[j]? = some (.wr c') := h
      rw [h]
      exact decide_eq_true n
theorem waitB_pd {es : List Ev} {w : Nat × Nat} (h : WaitOk es w) : waitB es (pd w) = true := by
  have l1 := h.lt
  have l2 := h.len
  show ((decide (0 ≤ (w.1 : Int)) && decide ((w.1 : Int) < (es.length : Int))) && ((decide (0 ≤ (w.2 : Int)) && decide ((w.2 : Int) < (es.length : Int))) && waitN es (w.1 : Int).toNat (w.2 : Int).toNat)) = true
  rw [decide_eq_true (show 0 ≤ (w.1 : Int) by omega), decide_eq_true (show (w.1 : Int) < (es.length : Int) by omega), decide_eq_true (show 0 ≤ (w.2 : Int) by omega), decide_eq_true (show (w.2 : Int) < (es.length : Int) by omega), Int.toNat_natCast, Int.toNat_natCast, (waitN_iff l2).mpr h]
  rfl
theorem waitB_iff {es : List Ev} {d : PyData} : waitB es d = true ↔ ∃ w, d = pd w ∧ WaitOk es w := by
  constructor
  · intro h
    unfold waitB at h
    split at h
    · rename_i i j
      rw [Bool.and_eq_true, Bool.and_eq_true, Bool.and_eq_true, Bool.and_eq_true] at h
      obtain ⟨⟨a, b⟩, ⟨c, d⟩, e⟩ := h
      have a := of_decide_eq_true a
      have b := of_decide_eq_true b
      have c := of_decide_eq_true c
      have d := of_decide_eq_true d
      refine ⟨(i.toNat, j.toNat), ?_, (waitN_iff (by omega)).mp e⟩
      unfold pd
      rw [show ((i.toNat : Nat) : Int) = i by omega, show ((j.toNat : Nat) : Int) = j by omega]
    · cases h
  · rintro ⟨w, rfl, h⟩
    exact waitB_pd h
theorem toW_pd (w : Nat × Nat) : toW (pd w) = w := rfl
theorem ascB_of {ws : List (Nat × Nat)} (h : ws.Pairwise lexP) : ascB ws = true := by
  unfold ascB
  rw [List.all_eq_true]
  intro i hi
  have hi := List.mem_range.mp hi
  have := List.pairwise_iff_getElem.mp h i (1 + i) (by omega) (by omega) (by omega)
  rw [List.getD_eq_getElem?_getD, List.getD_eq_getElem?_getD, List.getElem?_eq_getElem (by omega), List.getElem?_eq_getElem (by omega)]
  exact decide_eq_true this
theorem waitsB_of {es : List Ev} {ws : List (Nat × Nat)} (h : WaitsOk es ws) : waitsB es (.list (ws.map pd)) = true := by
  show ((ws.map pd).all (waitB es) && ascB ((ws.map pd).map toW)) = true
  have e : (ws.map pd).map toW = ws := by
    rw [List.map_map]
    exact (List.map_congr_left fun w _ => rfl).trans (List.map_id ws)
  rw [e, ascB_of h.asc, Bool.and_true, List.all_eq_true]
  intro d hd
  obtain ⟨w, hw, rfl⟩ := List.mem_map.mp hd
  exact waitB_pd (h.ok w hw)
theorem td_tup2 {K : PySem.W.Frag} {H : Hp} {x : V} {d : PyData} {m : Nat} (h : TD K H m x d) (e : tupB 2 d = true) : ∃ (a : Addr) (x1 x2 : V) (d1 d2 : PyData) (m' : Nat), x = .ref a ∧ SqT K H a [x1, x2] ∧ d = .tuple [d1, d2] ∧ TD K H m' x1 d1 ∧ TD K H m' x2 d2 := by
  have fl : ∀ {x : V} {d : PyData}, FlatD x d → tupB 2 d = true → False := fun h e => by
    cases h <;> cases e
  cases m with
  | zero => exact (fl h e).elim
  | succ m =>
    rcases h with h | ⟨a, xs, ds, rfl, l, l1, t, c⟩ | ⟨a, ps, mm, rfl, _, ha, rfl⟩
    · exact (fl h e).elim
    · rcases t with ⟨ha, rfl⟩ | ⟨ha, rfl⟩
      · cases e
      · have e : ((ds.length : Nat) : Int) = 2 := of_decide_eq_true e
        have l2 : ds.length = 2 := by omega
        match ds, xs, l2, l, c, ha with
        | [d1, d2], [x1, x2], _, _, c, ha => exact ⟨a, x1, x2, d1, d2, m, rfl, ha, rfl, c 0 _ _ rfl rfl, c 1 _ _ rfl rfl⟩
    · cases e
theorem td_int {K : PySem.W.Frag} {H : Hp} {x : V} {i : Int} {m : Nat} (h : TD K H m x (.int i)) : x = .int i := by
  rcases td_cs h with ⟨_, q⟩ | ⟨b, _, q⟩ | ⟨j, rfl, q⟩ | ⟨z, _, q⟩ | ⟨a, xs, ds, _, _, q, _⟩ | ⟨a, xs, ds, _, _, q, _⟩ | ⟨a, ps, mm, _, _, q⟩
  · cases q
  · cases q
  · cases q; rfl
  · cases q
  · cases q
  · cases q
  · cases q
theorem belB_iff {n : Nat} {d : PyData} : belB n d = true ↔ ∃ i : Nat, d = .int (i : Int) ∧ i < n := by
  constructor
  · intro h
    cases d with
    | int i =>
      have h : (decide (0 ≤ i) && decide (i < (n : Int))) = true := h
      rw [Bool.and_eq_true, decide_eq_true_eq, decide_eq_true_eq] at h
      exact ⟨i.toNat, by rw [show ((i.toNat : Nat) : Int) = i by omega], by omega⟩
    | _ => cases h
  · rintro ⟨i, rfl, h⟩
    show (decide (0 ≤ (i : Int)) && decide ((i : Int) < (n : Int))) = true
    rw [decide_eq_true (by omega), decide_eq_true (by omega)]
    rfl
theorem waitB_two (es : List Ev) (d1 d2 : PyData) : waitB es (.tuple [d1, d2]) = (belB es.length d1 && (belB es.length d2 && waitN es (toW (.tuple [d1, d2])).1 (toW (.tuple [d1, d2])).2)) := by
  cases d1 <;> cases d2 <;> first | rfl | (simp [waitB, belB])
def spIsWait (K : PySem.W.Frag) : Sp := fun vs H Q _ => ∃ (a : Addr) (x : V) (es : List Ev) (d : PyData) (m : Nat), vs = [.ref a, x] ∧ RunOk K H a es ∧ TD K H m x d ∧ ∀ H', Same H H' → Q (.bl (waitB es d)) H'
def spWaits (K : PySem.W.Frag) : Sp := fun vs H Q _ => ∃ (a : Addr) (x : V) (es : List Ev) (d : PyData) (m : Nat), vs = [.ref a, x] ∧ RunOk K H a es ∧ TD K H m x d ∧ ∀ H', Same H H' → Q (.bl (waitsB es d)) H'
def spNeedWaits (K : PySem.W.Frag) : Sp := fun vs H Q _ => ∃ (a b : Addr) (es : List Ev) (ws : List (Nat × Nat)), vs = [.ref a, .ref b] ∧ RunOk K H a es ∧ WtOk K H b es ws ∧ ∀ H', Same H H' → Q .non H'
def aheadL (es : List Ev) : List Nat := (List.range es.length).map (ahead es)
def spAhead (K : PySem.W.Frag) : Sp := fun vs H Q _ => ∃ (a : Addr) (es : List Ev), vs = [.ref a] ∧ RunOk K H a es ∧ ∀ q H', Same H H' → H q = none → H' q = some (.lst (numsV (aheadL es))) → Q (.ref q) H'
def spBrokenW (K : PySem.W.Frag) : Sp := fun vs H Q _ => ∃ (a b : Addr) (es : List Ev) (ws : List (Nat × Nat)), vs = [.ref a, .ref b] ∧ RunOk K H a es ∧ WtOk K H b es ws ∧ ∀ q H', Same H H' → H q = none → WtAt K H' q (brokenL es ws) → Q (.ref q) H'
def rLenK (K : PySem.W.Frag) : List V → Hp → VK → Prop := fun xs H Q => ∃ p ys, xs = [V.ref p] ∧ (SqL K H p ys ∨ SqT K H p ys) ∧ Q (.int (ys.length : Int)) H
theorem ahead_at {es : List Ev} {i : Nat} (h : i < es.length) : (numsV (aheadL es))[i]? = some (.int (ahead es i : Int)) := by
  unfold numsV aheadL
  rw [List.getElem?_map, List.getElem?_map, List.getElem?_range h]
  rfl
section
variable {P : Program} {w : World} {K : PySem.W.Frag} {mg : Str → Option Value} {base : Heap}
abbrev s_is_event : Stmt := top 12
abbrev N_is_event : List Str := ["value"]
theorem sc_is_event : FnScope N_is_event ["value"] (defScope s_is_event) := ⟨rfl, rfl, rfl, by decide +kernel, rfl, by decide +kernel, by decide +kernel⟩
theorem ok_is_event {f : Addr} {fd : FuncData} (F : FnP K "is_event" s_is_event f fd) (Z : FreeS mg)
    {f_is_tuple_of : Addr} {d_is_tuple_of : FuncData} (g_is_tuple_of : mg "is_tuple_of" = some (.ref f_is_tuple_of)) (F_is_tuple_of : FnP K "is_tuple_of" s_is_tuple_of f_is_tuple_of d_is_tuple_of) (G_is_tuple_of : FnOk P w K mg base CX0 1 f_is_tuple_of d_is_tuple_of ["value", "length"] (spTupOf K))
    {f_is_count : Addr} {d_is_count : FuncData} (g_is_count : mg "is_count" = some (.ref f_is_count)) (F_is_count : FnP K "is_count" s_is_count f_is_count d_is_count) (G_is_count : FnOk P w K mg base CX0 2 f_is_count d_is_count ["value"] (spCount K)) :
    FnOk P w K mg base CX0 3 f fd ["value"] (spIsEvent K) := by
  have b_is_tuple_of : Binds K d_is_tuple_of ["value", "length"] [] := F_is_tuple_of.bindsN fun _ _ _ _ _ _ us hl => match us, hl with | [_, _], _ => rfl
  have b_is_count : Binds K d_is_count ["value"] [] := F_is_count.bindsN fun _ _ _ _ _ _ us hl => match us, hl with | [_], _ => rfl
  refine F.ok sc_is_event (fun vs H Q E h => ?_) (fun cdv A outer s H vs Q E hr h => ?_)
  · obtain ⟨t, e, rfl, _⟩ := h
    rfl
  · obtain ⟨t, e, rfl, ht, k⟩ := h
    have hu65 := hr.units
    have sl : (3000 : Nat) ≤ sizeLine := by decide
    have nd := sc_is_event.nd
    refine ⟨_, PSs.nox (pss_cons (ps_if (PW.pt (pw_or (pt_cmpR (op_eqD hr.units) (pv 0) (pe_tup (pa_cons (pe_str) (pa_nil))) (nomark _)) (pw_or1 (pt_cmpR (op_eqD hr.units) (pv 0) (pe_tup (pa_cons (pe_str) (pa_nil))) (nomark _))))) (pss_one (ps_ret (pe_bl))) (pss_nil))
      (pss_one (ps_ret (pe_and (pe_call G_is_tuple_of (hr.mono (by decide)) rfl g_is_tuple_of F_is_tuple_of.kp b_is_tuple_of .nil pass0 (pa_cons (pv 0) (pa_cons (pe_int) (pa_nil)))) (pe_and (pe_cmpR op_eq (pe_ix ix_tup (pv 0) (pe_int) (fun _ _ => rfl)) (pe_str) (nomark _)) (pe_one (pe_call G_is_count (hr.mono (by decide)) rfl g_is_count F_is_count.kp b_is_count .nil pass0 (pa_cons (pe_ix ix_tup (pv 0) (pe_int) (fun _ _ => rfl)) (pa_nil))))))))), ?_⟩
    refine ⟨_, rfl, (by show 1 ≤ sizeLine; omega), fun t1 ht1 => ?_⟩
    have s1 := Same.updf (o := .tup [V.str "barrier"]) ht1
    refine ⟨_, _, Ev.dp (SqT_up s1 ht), Ev.dp (e := .bar) (SqT.of upd_same), shaped_ev e, shaped_ev .bar, _, rfl, ?_⟩
    rw [eqv_ev]
    by_cases h1 : e = .bar
    · rw [decide_eq_true h1]
      exact iteT (k _ s1)
    rw [decide_eq_false h1]
    refine iteF ⟨_, rfl, (by show 1 ≤ sizeLine; omega), fun t2 ht2 => ?_⟩
    have s2 := s1.trans (Same.updf (o := .tup [V.str "tell"]) ht2)
    have ht2 := SqT_up s2 ht
    refine ⟨_, _, Ev.dp ht2, Ev.dp (e := .tell) (SqT.of upd_same), shaped_ev e, shaped_ev .tell, _, rfl, ?_⟩
    rw [eqv_ev]
    by_cases h2 : e = .tell
    · rw [decide_eq_true h2]
      exact iteT (k _ s2)
    rw [decide_eq_false h2]
    refine iteF ⟨_, rfl, .ref t, e.d, 1, 2, rfl, Ev.td 0 ht2, _, rfl, ?_⟩
    cases e with
    | bar => exact absurd rfl h1
    | tell => exact absurd rfl h2
    | wr n =>
      refine iteT ⟨_, rfl, t, _, 0, .str "write", rfl, rfl, ht2, rfl, rfl, _, rfl, ?_⟩
      refine iteT ⟨_, rfl, t, _, 1, .int (n : Int), rfl, rfl, ht2, rfl, .int (n : Int), .int (n : Int), 0, rfl, TD.flat (.int _), ?_⟩
      rw [show cntB (.int (n : Int)) = true from decide_eq_true (show (n : Int) ≥ 0 by omega)]
      exact k _ s2
abbrev s_are_events : Stmt := top 13
abbrev N_are_events : List Str := ["value", "event"]
theorem sc_are_events : FnScope N_are_events ["value"] (defScope s_are_events) := ⟨rfl, rfl, rfl, by decide +kernel, rfl, by decide +kernel, by decide +kernel⟩
theorem ok_are_events {f : Addr} {fd : FuncData} (F : FnP K "are_events" s_are_events f fd) (Z : FreeS mg)
    {f_is_event : Addr} {d_is_event : FuncData} (g_is_event : mg "is_event" = some (.ref f_is_event)) (F_is_event : FnP K "is_event" s_is_event f_is_event d_is_event) (G_is_event : FnOk P w K mg base CX0 3 f_is_event d_is_event ["value"] (spIsEvent K)) :
    FnOk P w K mg base CX0 4 f fd ["value"] (spEvents K) := by
  have b_is_event : Binds K d_is_event ["value"] [] := F_is_event.bindsN fun _ _ _ _ _ _ us hl => match us, hl with | [_], _ => rfl
  refine F.ok sc_are_events (fun vs H Q E h => ?_) (fun cdv A outer s H vs Q E hr h => ?_)
  · obtain ⟨a, es, rfl, _⟩ := h
    rfl
  · obtain ⟨a, es, rfl, hR, k⟩ := h
    obtain ⟨ts, ha, lt, ht⟩ := hR.at_.got
    have l100 := hR.len
    have nd := sc_are_events.nd
    refine ⟨_, PSs.nox (pss_one (ps_ret (pe_and (pe_callB call_isi (by rfl) Z.isi (by decide +kernel) (pa_cons (pv 0) (pa_cons (pe_bltn (v := .ty "list") (by rfl) Z.tlist (by decide +kernel) rfl) pa_nil))) (pe_and (pe_cmpR op_gt (pe_callB call_len_seq (by rfl) Z.len (by decide +kernel) (pa_cons (pv 0) (pa_nil))) (pe_int) (nomark _)) (pe_one (pe_callB (cr_all rfl) (by rfl) Z.all (by decide +kernel) (pa_cons (pe_lc (own := [("event", 1)]) (g := gName 1) (tt := tYes) (te := tCall (spIsEvent K) [] E0 (tCons (tVar 1) (tNil))) (by rfl) nd (pi_list (pv 0))
          (blkOk_by (own := [("event", 1)]) (N := N_are_events) (sc := defScope s_are_events) (by decide +kernel)) (fun _ _ _ _ _ => pg_name (i := 1) nd rfl (Or.inl rfl)) (fun _ _ _ _ _ => pts_nil)
          (fun _ _ _ _ _ => pe_call G_is_event (hr.mono (by decide)) rfl g_is_event F_is_event.kp b_is_event .nil pass0 (pa_cons (pv 1) (pa_nil)))) (pa_nil)))))))), ?_⟩
    refine ⟨_, rfl, .ref a, .ty "list", .type "list", .type "list", true, rfl, .ty _, .base (.lst ha), kit_ty (by decide +kernel), true, rfl, iteT ?_⟩
    refine ⟨_, rfl, a, _, rfl, .inl (SqL.of ha), _, _, rfl, rfl, _, rfl, ?_⟩
    have ln : 0 < es.length := List.length_pos_iff.mpr hR.ne
    refine iteP (by rw [List.length_map]; omega) ?_
    refine ⟨_, rfl, a, rfl, ⟨_, SqL.of ha⟩, fun D hD => ?_⟩
    refine lc_sel (walk_list (K := K) (a := a) (xs := ts.map V.ref)) (fun _ => some (.bl true)) (by rw [List.length_map]; omega) hD (fun H2 s2 => SqL.of (s2 _ _ ha)) ?_ ?_
    · rintro i v H2 H3 Qy Qn hi sH ⟨rfl, hv⟩ ky kn
      rw [List.length_map] at hi
      obtain ⟨t, e1, e2⟩ := ht i (by omega)
      rw [e1] at hv
      obtain rfl : V.ref t = v := Option.some.inj hv
      exact ⟨rfl, _, rfl, t, _, rfl, SqT_up sH e2, fun G s => ky _ _ s rfl⟩
    · intro H2 s2 hR
      obtain ⟨bs, hB, hb⟩ := all_bits (K := K) hR
      refine ⟨D, bs, rfl, hB, ?_⟩
      rw [hb]
      exact k _ s2
abbrev s_need_run : Stmt := top 14
abbrev N_need_run : List Str := ["run"]
theorem sc_need_run : FnScope N_need_run ["run"] (defScope s_need_run) := ⟨rfl, rfl, rfl, by decide +kernel, rfl, by decide +kernel, by decide +kernel⟩
theorem ok_need_run {f : Addr} {fd : FuncData} (F : FnP K "need_run" s_need_run f fd) (Z : FreeS mg)
    {f_are_events : Addr} {d_are_events : FuncData} (g_are_events : mg "are_events" = some (.ref f_are_events)) (F_are_events : FnP K "are_events" s_are_events f_are_events d_are_events) (G_are_events : FnOk P w K mg base CX0 4 f_are_events d_are_events ["value"] (spEvents K)) :
    FnOk P w K mg base CX0 5 f fd ["run"] (spNeedRun K) := by
  have b_are_events : Binds K d_are_events ["value"] [] := F_are_events.bindsN fun _ _ _ _ _ _ us hl => match us, hl with | [_], _ => rfl
  refine F.ok sc_need_run (fun vs H Q E h => ?_) (fun cdv A outer s H vs Q E hr h => ?_)
  · obtain ⟨a, es, rfl, _⟩ := h
    rfl
  · obtain ⟨a, es, rfl, hR, k⟩ := h
    have nd := sc_need_run.nd
    refine ⟨_, PSs.nox (pss_one (ps_if (pt_not (pt_val (pe_call G_are_events (hr.mono (by decide)) rfl g_are_events F_are_events.kp b_are_events .nil pass0 (pa_cons (pv 0) (pa_nil))))) (pss_one (ps_dead)) (pss_nil))), ?_⟩
    exact ⟨_, rfl, a, es, rfl, hR, fun H1 s1 => ⟨true, rfl, iteF (k H1 s1)⟩⟩
abbrev s_is_wait_of : Stmt := top 16
abbrev N_is_wait_of : List Str := ["run", "value", "early", "late", "place"]
theorem sc_is_wait_of : FnScope N_is_wait_of ["run", "value"] (defScope s_is_wait_of) := ⟨rfl, rfl, rfl, by decide +kernel, rfl, by decide +kernel, by decide +kernel⟩
theorem ok_is_wait_of {f : Addr} {fd : FuncData} (F : FnP K "is_wait_of" s_is_wait_of f fd) (Z : FreeS mg)
    {f_is_tuple_of : Addr} {d_is_tuple_of : FuncData} (g_is_tuple_of : mg "is_tuple_of" = some (.ref f_is_tuple_of)) (F_is_tuple_of : FnP K "is_tuple_of" s_is_tuple_of f_is_tuple_of d_is_tuple_of) (G_is_tuple_of : FnOk P w K mg base CX0 1 f_is_tuple_of d_is_tuple_of ["value", "length"] (spTupOf K))
    {f_is_count_below : Addr} {d_is_count_below : FuncData} (g_is_count_below : mg "is_count_below" = some (.ref f_is_count_below)) (F_is_count_below : FnP K "is_count_below" s_is_count_below f_is_count_below d_is_count_below) (G_is_count_below : FnOk P w K mg base CX0 3 f_is_count_below d_is_count_below ["value", "bound"] (spBelow K)) :
    FnOk P w K mg base CX0 4 f fd ["run", "value"] (spIsWait K) := by
  have b_is_tuple_of : Binds K d_is_tuple_of ["value", "length"] [] := F_is_tuple_of.bindsN fun _ _ _ _ _ _ us hl => match us, hl with | [_, _], _ => rfl
  have b_is_count_below : Binds K d_is_count_below ["value", "bound"] [] := F_is_count_below.bindsN fun _ _ _ _ _ _ us hl => match us, hl with | [_, _], _ => rfl
  refine F.ok sc_is_wait_of (fun vs H Q E h => ?_) (fun cdv A outer s H vs Q E hr h => ?_)
  · obtain ⟨a, x, es, d, m, rfl, _⟩ := h
    rfl
  · obtain ⟨a, x, es, d, m, rfl, hR, hx, k⟩ := h
    obtain ⟨ts, ha, lt, ht⟩ := hR.at_.got
    have l100 := hR.len
    have sl : (3000 : Nat) ≤ sizeLine := by decide
    have nd := sc_is_wait_of.nd
    refine ⟨_, PSs.nox (pss_cons (ps_if (PW.pt (pw_or (pt_not (pt_val (pe_call G_is_tuple_of (hr.mono (by decide)) rfl g_is_tuple_of F_is_tuple_of.kp b_is_tuple_of .nil pass0 (pa_cons (pv 1) (pa_cons (pe_int) (pa_nil)))))) (pw_or1 (pt_not (pt_val (pe_callB (cr_all rfl) (by rfl) Z.all (by decide +kernel) (pa_cons (pe_lc (own := [("place", 4)]) (g := gName 4) (tt := tYes) (te := tCall (spBelow K) [] E0 (tCons (tVar 4) (tCons (tCB (rLenK K) (tCons (tVar 0) (tNil))) (tNil)))) (by rfl) nd (pi_tup (pv 1))
          (blkOk_by (own := [("place", 4)]) (N := N_is_wait_of) (sc := defScope s_is_wait_of) (by decide +kernel)) (fun _ _ _ _ _ => pg_name (i := 4) nd rfl (Or.inl rfl)) (fun _ _ _ _ _ => pts_nil)
          (fun _ _ _ _ _ => pe_call G_is_count_below (hr.mono (by decide)) rfl g_is_count_below F_is_count_below.kp b_is_count_below .nil pass0 (pa_cons (pv 4) (pa_cons (pe_callB call_len_seq (by rfl) Z.len (by decide +kernel) (pa_cons (pv 0) (pa_nil))) (pa_nil))))) (pa_nil)))))))) (pss_one (ps_ret (pe_bl))) (pss_nil))
      (pss_cons (ps_asg (pv 1) (pg_tup rfl (pgs_cons (pg_name (i := 2) nd rfl (Or.inl rfl)) (pgs_cons (pg_name (i := 3) nd rfl (Or.inl rfl)) (pgs_nil)))))
      (pss_cons (ps_if (PW.pt (pw_or (pt_cmpR op_ge (pv 2) (pv 3) (nomark _)) (pw_or1 (pt_cmpR op_ne (pe_ix ix_tup (pe_ix ix_list (pv 0) (pv 2) (fun _ _ => rfl)) (pe_int) (fun _ _ => rfl)) (pe_str) (nomark _))))) (pss_one (ps_ret (pe_bl))) (pss_nil))
      (pss_one (ps_ret (pe_or (pe_cmpR op_eq (pe_ix ix_tup (pe_ix ix_list (pv 0) (pv 3) (fun _ _ => rfl)) (pe_int) (fun _ _ => rfl)) (pe_str) (nomark _)) (pe_one (pe_and (pe_cmpR op_eq (pe_ix ix_tup (pe_ix ix_list (pv 0) (pv 3) (fun _ _ => rfl)) (pe_int) (fun _ _ => rfl)) (pe_str) (nomark _)) (pe_one (pe_cmpR op_ne (pe_ix ix_tup (pe_ix ix_list (pv 0) (pv 3) (fun _ _ => rfl)) (pe_int) (fun _ _ => rfl)) (pe_ix ix_tup (pe_ix ix_list (pv 0) (pv 2) (fun _ _ => rfl)) (pe_int) (fun _ _ => rfl)) (nomark _))))))))))), ?_⟩
    refine ⟨_, rfl, x, d, m, 2, rfl, hx, _, rfl, ?_⟩
    cases qt : tupB 2 d with
    | false =>
      have e : waitB es d = false := by
        cases q : waitB es d with
        | false => rfl
        | true =>
          obtain ⟨w, rfl, _⟩ := waitB_iff.mp q
          cases qt
      rw [e] at k
      exact iteT (iteT (k H (Same.refl _)))
    | true =>
    obtain ⟨t, x1, x2, d1, d2, m', rfl, hw, rfl, t1, t2⟩ := td_tup2 hx qt
    rw [waitB_two] at k
    refine iteF ?_
    refine ⟨_, rfl, t, rfl, ⟨_, hw⟩, fun D hD => ?_⟩
    refine lc_sel (walk_tup (K := K) (a := t) (xs := [x1, x2])) (fun i => some (.bl (belB es.length ([d1, d2].getD i .none)))) (by show 2 ≤ 100000; decide) hD (fun H2 s2 => SqT_up s2 hw) ?_ ?_
    · rintro i v H2 H3 Qy Qn hi sH ⟨rfl, hv⟩ ky kn
      obtain ⟨e, he, tde⟩ : ∃ e, [d1, d2].getD i .none = e ∧ TD K H m' v e := by
        match i with
        | 0 => cases hv; exact ⟨d1, rfl, t1⟩
        | 1 => cases hv; exact ⟨d2, rfl, t2⟩
        | i + 2 => simp at hv
      rw [he] at ky
      exact ⟨rfl, _, rfl, _, rfl, a, _, rfl, .inl (SqL.of (sH _ _ ha)), v, e, m', es.length, (by rw [List.length_map, lt]; rfl), tde.same sH, ky _ _ (Same.refl _) rfl⟩
    · intro H2 s2 hR2
      have hB := all_bl' (K := K) hR2
      refine ⟨D, _, rfl, hB, ?_⟩
      have eb : (((List.range [x1, x2].length).map fun i => belB es.length ([d1, d2].getD i .none)).all id) = (belB es.length d1 && (belB es.length d2 && true)) := rfl
      rw [eb]
      cases q1 : belB es.length d1 with
      | false =>
        rw [q1] at k
        exact ⟨_, rfl, iteT (k _ s2)⟩
      | true =>
      cases q2 : belB es.length d2 with
      | false =>
        rw [q1, q2] at k
        exact ⟨_, rfl, iteT (k _ s2)⟩
      | true =>
      rw [q1, q2] at k
      refine ⟨_, rfl, iteF ?_⟩
      obtain ⟨i, rfl, hi⟩ := belB_iff.mp q1
      obtain ⟨j, rfl, hj⟩ := belB_iff.mp q2
      obtain rfl := td_int t1
      obtain rfl := td_int t2
      have k : ∀ H', Same H H' → Q (.bl (waitN es i j)) H' := k
      have hw2 := SqT_up s2 hw
      have ha2 := s2 _ _ ha
      refine ⟨_, rfl, t, [_, _], rfl, hw2, rfl, _, [_], rfl, _, [], rfl, rfl, ?_⟩
      obtain ⟨u1, a1, x1⟩ := ht i hi
      obtain ⟨u2, a2, x2⟩ := ht j hj
      have y1 := SqT_up s2 x1
      have y2 := SqT_up s2 x2
      have k1 := k _ s2
      unfold waitN at k1
      rw [List.getElem?_eq_getElem hi, List.getElem?_eq_getElem hj] at k1
      refine ⟨_, rfl, _, rfl, _, _, rfl, rfl, _, rfl, ?_⟩
      by_cases c : i < j
      · rw [decide_eq_true c] at k1
        refine iteQ (by omega) ?_
        cases e1 : es[i] with
        | bar =>
          rw [e1] at y1 k1
          exact ⟨_, rfl, _, rfl, a, _, (i : Int), _, rfl, rfl, SqL.of ha2, atI_nat a1, u1, _, 0, _, rfl, rfl, y1, rfl, rfl, _, rfl, iteT k1⟩
        | tell =>
          rw [e1] at y1 k1
          exact ⟨_, rfl, _, rfl, a, _, (i : Int), _, rfl, rfl, SqL.of ha2, atI_nat a1, u1, _, 0, _, rfl, rfl, y1, rfl, rfl, _, rfl, iteT k1⟩
        | wr c0 =>
          rw [e1] at y1 k1
          refine ⟨_, rfl, _, rfl, a, _, (i : Int), _, rfl, rfl, SqL.of ha2, atI_nat a1, u1, _, 0, _, rfl, rfl, y1, rfl, rfl, _, rfl, iteF ?_⟩
          cases e2 : es[j] with
          | bar =>
            rw [e2] at y2 k1
            refine ⟨_, rfl, _, rfl, a, _, (j : Int), _, rfl, rfl, SqL.of ha2, atI_nat a2, u2, _, 0, _, rfl, rfl, y2, rfl, rfl, _, rfl, iteF ?_⟩
            exact ⟨_, rfl, _, rfl, a, _, (j : Int), _, rfl, rfl, SqL.of ha2, atI_nat a2, u2, _, 0, _, rfl, rfl, y2, rfl, rfl, _, rfl, iteF k1⟩
          | tell =>
            rw [e2] at y2 k1
            exact ⟨_, rfl, _, rfl, a, _, (j : Int), _, rfl, rfl, SqL.of ha2, atI_nat a2, u2, _, 0, _, rfl, rfl, y2, rfl, rfl, _, rfl, iteT k1⟩
          | wr c' =>
            rw [e2] at y2 k1
            refine ⟨_, rfl, _, rfl, a, _, (j : Int), _, rfl, rfl, SqL.of ha2, atI_nat a2, u2, _, 0, _, rfl, rfl, y2, rfl, rfl, _, rfl, iteF ?_⟩
            refine ⟨_, rfl, _, rfl, a, _, (j : Int), _, rfl, rfl, SqL.of ha2, atI_nat a2, u2, _, 0, _, rfl, rfl, y2, rfl, rfl, _, rfl, iteT ?_⟩
            refine ⟨_, rfl, _, rfl, a, _, (j : Int), _, rfl, rfl, SqL.of ha2, atI_nat a2, u2, _, 1, _, rfl, rfl, y2, rfl, ?_⟩
            refine ⟨_, rfl, _, rfl, a, _, (i : Int), _, rfl, rfl, SqL.of ha2, atI_nat a1, u1, _, 1, _, rfl, rfl, y1, rfl, rfl, ?_⟩
            have ee : (!decide (V.int (c' : Int) = V.int (c0 : Int))) = decide (c' ≠ c0) := by
              by_cases z : c' = c0
              · rw [z]
                simp
              · rw [decide_eq_true z, decide_eq_false (fun y => z (by have := V.int.inj y; omega))]
                rfl
            rw [ee]
            exact k1
      · rw [decide_eq_false c] at k1
        exact iteP (by omega) (iteT k1)
abbrev s_are_waits_of : Stmt := top 17
abbrev N_are_waits_of : List Str := ["run", "value", "wait"]
theorem sc_are_waits_of : FnScope N_are_waits_of ["run", "value"] (defScope s_are_waits_of) := ⟨rfl, rfl, rfl, by decide +kernel, rfl, by decide +kernel, by decide +kernel⟩
theorem ok_are_waits_of {f : Addr} {fd : FuncData} (F : FnP K "are_waits_of" s_are_waits_of f fd) (Z : FreeS mg)
    {f_ascends : Addr} {d_ascends : FuncData} (g_ascends : mg "ascends" = some (.ref f_ascends)) (F_ascends : FnP K "ascends" s_ascends f_ascends d_ascends) (G_ascends : FnOk P w K mg base CX0 1 f_ascends d_ascends ["values"] (spAsc K))
    {f_is_wait_of : Addr} {d_is_wait_of : FuncData} (g_is_wait_of : mg "is_wait_of" = some (.ref f_is_wait_of)) (F_is_wait_of : FnP K "is_wait_of" s_is_wait_of f_is_wait_of d_is_wait_of) (G_is_wait_of : FnOk P w K mg base CX0 4 f_is_wait_of d_is_wait_of ["run", "value"] (spIsWait K)) :
    FnOk P w K mg base CX0 5 f fd ["run", "value"] (spWaits K) := by
  have b_ascends : Binds K d_ascends ["values"] [] := F_ascends.bindsN fun _ _ _ _ _ _ us hl => match us, hl with | [_], _ => rfl
  have b_is_wait_of : Binds K d_is_wait_of ["run", "value"] [] := F_is_wait_of.bindsN fun _ _ _ _ _ _ us hl => match us, hl with | [_, _], _ => rfl
  refine F.ok sc_are_waits_of (fun vs H Q E h => ?_) (fun cdv A outer s H vs Q E hr h => ?_)
  · obtain ⟨a, x, es, d, m, rfl, _⟩ := h
    rfl
  · obtain ⟨a, x, es, d, m, rfl, hR, hx, k⟩ := h
    have nd := sc_are_waits_of.nd
    refine ⟨_, PSs.nox (pss_one (ps_ret (pe_and (pe_callB call_isi (by rfl) Z.isi (by decide +kernel) (pa_cons (pv 1) (pa_cons (pe_bltn (v := .ty "list") (by rfl) Z.tlist (by decide +kernel) rfl) pa_nil))) (pe_and (pe_callB (cr_all rfl) (by rfl) Z.all (by decide +kernel) (pa_cons (pe_lc (own := [("wait", 2)]) (g := gName 2) (tt := tYes) (te := tCall (spIsWait K) [] E0 (tCons (tVar 0) (tCons (tVar 2) (tNil)))) (by rfl) nd (pi_list (pv 1))
          (blkOk_by (own := [("wait", 2)]) (N := N_are_waits_of) (sc := defScope s_are_waits_of) (by decide +kernel)) (fun _ _ _ _ _ => pg_name (i := 2) nd rfl (Or.inl rfl)) (fun _ _ _ _ _ => pts_nil)
          (fun _ _ _ _ _ => pe_call G_is_wait_of (hr.mono (by decide)) rfl g_is_wait_of F_is_wait_of.kp b_is_wait_of .nil pass0 (pa_cons (pv 0) (pa_cons (pv 2) (pa_nil))))) (pa_nil))) (pe_one (pe_call G_ascends (hr.mono (by decide)) rfl g_ascends F_ascends.kp b_ascends .nil pass0 (pa_cons (pv 1) (pa_nil)))))))), ?_⟩
    rcases td_cs hx with ⟨rfl, rfl⟩ | ⟨b, rfl, rfl⟩ | ⟨i, rfl, rfl⟩ | ⟨z, rfl, rfl⟩ | ⟨b, xs, ds, rfl, hb, rfl, lx, l1, kx⟩ | ⟨b, xs, ds, rfl, hb, rfl, _⟩ | ⟨b, ps, m, rfl, hb, rfl⟩
    · exact ⟨_, rfl, _, .ty "list", .type "NoneType", .type "list", false, rfl, .ty _, .base .non, kit_ty (by decide +kernel), false, rfl, iteF (k H (Same.refl _))⟩
    · exact ⟨_, rfl, _, .ty "list", .type "bool", .type "list", false, rfl, .ty _, .base (.bl b), kit_ty (by decide +kernel), false, rfl, iteF (k H (Same.refl _))⟩
    · exact ⟨_, rfl, _, .ty "list", .type "int", .type "list", false, rfl, .ty _, .base (.int i), kit_ty (by decide +kernel), false, rfl, iteF (k H (Same.refl _))⟩
    · exact ⟨_, rfl, _, .ty "list", .type "str", .type "list", false, rfl, .ty _, .base (.str z), kit_ty (by decide +kernel), false, rfl, iteF (k H (Same.refl _))⟩
    · refine ⟨_, rfl, .ref b, .ty "list", .type "list", .type "list", true, rfl, .ty _, .base (.lst hb), kit_ty (by decide +kernel), true, rfl, iteT ?_⟩
      refine ⟨_, rfl, b, rfl, ⟨_, SqL.of hb⟩, fun D hD => ?_⟩
      refine lc_sel (n := ds.length) (by have := walk_list (K := K) (a := b) (xs := xs); rw [lx] at this; exact this) (fun i => some (.bl (waitB es (ds.getD i .none)))) (by omega) hD (fun H2 s2 => SqL.of (s2 _ _ hb)) ?_ ?_
      · rintro i v H2 H3 Qy Qn hi sH ⟨rfl, hv⟩ ky kn
        have ed : ds[i]? = some (ds.getD i .none) := by
          rw [List.getD_eq_getElem?_getD, List.getElem?_eq_getElem hi]
          rfl
        exact ⟨rfl, _, rfl, _, rfl, a, v, es, _, m - 1, rfl, hR.same sH, (kx i v _ hv ed).same sH, fun G s => ky _ _ s rfl⟩
      · intro H2 s2 hR2
        have hB := all_bl' (K := K) hR2
        refine ⟨D, _, rfl, hB, ?_⟩
        have eb : (((List.range ds.length).map fun i => waitB es (ds.getD i .none)).all id) = ds.all (waitB es) := by
          rw [List.all_map, Bool.eq_iff_iff, List.all_eq_true, List.all_eq_true]
          constructor
          · intro h e he
            obtain ⟨i, hi, rfl⟩ := List.getElem_of_mem he
            have := h i (List.mem_range.mpr hi)
            rw [show (id ∘ fun i => waitB es (ds.getD i .none)) i = waitB es (ds.getD i .none) from rfl, List.getD_eq_getElem?_getD, List.getElem?_eq_getElem hi] at this
            exact this
          · intro h i hi
            have hi := List.mem_range.mp hi
            show waitB es (ds.getD i .none) = true
            rw [List.getD_eq_getElem?_getD, List.getElem?_eq_getElem hi]
            exact h _ (List.getElem_mem hi)
        rw [eb]
        have ew : waitsB es (.list ds) = (ds.all (waitB es) && ascB (ds.map toW)) := rfl
        cases qa : ds.all (waitB es) with
        | false =>
          rw [ew, qa, Bool.false_and] at k
          exact ⟨_, rfl, iteF (k _ s2)⟩
        | true =>
          rw [ew, qa, Bool.true_and] at k
          have hW : WtAt K H2 b (ds.map toW) := by
            refine LsT.of_paired (s2 _ _ hb) (paired_of (by rw [List.length_map, lx]) fun i w v e1 e2 => ?_)
            rw [List.getElem?_map] at e1
            obtain ⟨e, q1, rfl⟩ := Option.map_eq_some_iff.mp e1
            have td := (kx i v e e2 q1).same s2
            obtain ⟨w, rfl, ok⟩ := waitB_iff.mp (List.all_eq_true.mp qa e (List.mem_of_getElem? q1))
            obtain ⟨t, x1, x2, d1, d2, m', rfl, hq, e3, t1, t2⟩ := td_tup2 td rfl
            have e4 := PyData.tuple.inj e3
            obtain ⟨r1, r2⟩ := List.cons.inj e4
            obtain ⟨r2, _⟩ := List.cons.inj r2
            subst r1
            subst r2
            obtain rfl := td_int t1
            obtain rfl := td_int t2
            exact ⟨t, rfl, hq⟩
          exact ⟨_, rfl, iteT ⟨_, rfl, b, _, rfl, .inr ⟨ds.map toW, hW, by rw [List.length_map]; omega, rfl⟩, fun H3 s3 => k H3 (s2.trans s3)⟩⟩
    · exact ⟨_, rfl, _, .ty "list", .type "tuple", .type "list", false, rfl, .ty _, sqT_ty hb, kit_ty (by decide +kernel), false, rfl, iteF (k H (Same.refl _))⟩
    · exact ⟨_, rfl, _, .ty "list", .type "dict", .type "list", false, rfl, .ty _, .base (.dK hb), kit_ty (by decide +kernel), false, rfl, iteF (k H (Same.refl _))⟩
abbrev s_need_waits : Stmt := top 18
abbrev N_need_waits : List Str := ["run", "waits"]
theorem sc_need_waits : FnScope N_need_waits ["run", "waits"] (defScope s_need_waits) := ⟨rfl, rfl, rfl, by decide +kernel, rfl, by decide +kernel, by decide +kernel⟩
theorem ok_need_waits {f : Addr} {fd : FuncData} (F : FnP K "need_waits" s_need_waits f fd) (Z : FreeS mg)
    {f_are_waits_of : Addr} {d_are_waits_of : FuncData} (g_are_waits_of : mg "are_waits_of" = some (.ref f_are_waits_of)) (F_are_waits_of : FnP K "are_waits_of" s_are_waits_of f_are_waits_of d_are_waits_of) (G_are_waits_of : FnOk P w K mg base CX0 5 f_are_waits_of d_are_waits_of ["run", "value"] (spWaits K)) :
    FnOk P w K mg base CX0 6 f fd ["run", "waits"] (spNeedWaits K) := by
  have b_are_waits_of : Binds K d_are_waits_of ["run", "value"] [] := F_are_waits_of.bindsN fun _ _ _ _ _ _ us hl => match us, hl with | [_, _], _ => rfl
  refine F.ok sc_need_waits (fun vs H Q E h => ?_) (fun cdv A outer s H vs Q E hr h => ?_)
  · obtain ⟨a, b, es, ws, rfl, _⟩ := h
    rfl
  · obtain ⟨a, b, es, ws, rfl, hR, hW, k⟩ := h
    have nd := sc_need_waits.nd
    refine ⟨_, PSs.nox (pss_one (ps_if (pt_not (pt_val (pe_call G_are_waits_of (hr.mono (by decide)) rfl g_are_waits_of F_are_waits_of.kp b_are_waits_of .nil pass0 (pa_cons (pv 0) (pa_cons (pv 1) (pa_nil)))))) (pss_one (ps_dead)) (pss_nil))), ?_⟩
    refine ⟨_, rfl, _, rfl, a, .ref b, es, .list (ws.map pd), 2, rfl, hR, wts_td 0 hW.at_ hW.len, fun H1 s1 => ⟨true, ?_, iteF (k H1 s1)⟩⟩
    rw [waitsB_of hW.ok]
abbrev s_barriers_ahead : Stmt := top 19
abbrev N_barriers_ahead : List Str := ["run", "found", "many", "event"]
theorem sc_barriers_ahead : FnScope N_barriers_ahead ["run"] (defScope s_barriers_ahead) := ⟨rfl, rfl, rfl, by decide +kernel, rfl, by decide +kernel, by decide +kernel⟩
theorem ok_barriers_ahead {f : Addr} {fd : FuncData} (F : FnP K "barriers_ahead" s_barriers_ahead f fd) (Z : FreeS mg) :
    FnOk P w K mg base CX0 1 f fd ["run"] (spAhead K) := by
  refine F.ok sc_barriers_ahead (fun vs H Q E h => ?_) (fun cdv A outer s H vs Q E hr h => ?_)
  · obtain ⟨a, es, rfl, _⟩ := h
    rfl
  · obtain ⟨a, es, rfl, hR, k⟩ := h
    obtain ⟨ts, ha, lt, ht⟩ := hR.at_.got
    have l100 := hR.len
    have sl : (3000 : Nat) ≤ sizeLine := by decide
    have nd := sc_barriers_ahead.nd
    refine ⟨_, PSs.nox (pss_cons (ps_set (i := 1) nd rfl (Or.inl rfl) (pe_lst (pa_nil)))
      (pss_cons (ps_set (i := 2) nd rfl (Or.inl rfl) (pe_int))
      (pss_cons (ps_for PassesOwn.never rfl (pi_list (pv 0)) (pg_name (i := 3) nd rfl (Or.inl rfl))
        (pss_cons (ps_expr (pe_bm PySem.F.plainAttrs_list PySem.F.slot_list_append PySem.F.type_list_append mt_append (pv 1) (pa_cons (pv 2) (pa_nil))))
      (pss_one (ps_if (pt_cmpR (op_eqD hr.units) (pv 3) (pe_tup (pa_cons (pe_str) (pa_nil))) (nomark _)) (pss_one (ps_set (i := 2) nd rfl (Or.inl rfl) (pe_op op_add (pv 2) (pe_int)))) (pss_nil)))))
      (pss_one (ps_ret (pv 1)))))), ?_⟩
    refine ⟨(by show 0 ≤ sizeLine; omega), fun q hq => ?_⟩
    have s1 := Same.updf (o := .lst []) hq
    refine ⟨_, rfl, a, rfl, ⟨_, SqL.of (s1 _ _ ha)⟩, ?_⟩
    refine for_list (xs := ts.map V.ref) (fun i σ G => Same H G ∧ G q = some (.lst (numsV ((List.range i).map (ahead es)))) ∧ ∃ v3, σ = [some (.ref a), some (.ref q), some (.int (ahead es i : Int)), v3])
      ⟨s1, upd_same, none, rfl⟩ (fun i σ G _ hh => SqL.of (hh.1 _ _ ha)) ?_ ?_
    · rintro i y σ G hy ⟨sG, hqG, v3, rfl⟩
      have hi : i < es.length := by
        have := (List.getElem?_eq_some_iff.mp hy).1
        rw [List.length_map] at this
        omega
      obtain ⟨t, e1, e2⟩ := ht i hi
      rw [e1] at hy
      obtain rfl : V.ref t = y := Option.some.inj hy
      refine ⟨_, rfl, Or.inl ⟨rfl, _, SqL.of hqG⟩, _, rfl, q, _, _, rfl, rfl, hqG, (by unfold numsV; rw [List.length_map, List.length_map, List.length_range]; omega), ?_⟩
      obtain ⟨G1, eG⟩ : ∃ X, X = upd G q (.lst (numsV ((List.range i).map (ahead es)) ++ [.int (ahead es i : Int)])) := ⟨_, rfl⟩
      have sG1 : Same H G1 := fun c o e => by
        rw [eG, upd_ne (ne_of_none e hq)]
        exact sG _ _ e
      have hq1 : G1 q = some (.lst (numsV ((List.range (i + 1)).map (ahead es)))) := by
        rw [eG, upd_same, List.range_succ]
        unfold numsV
        rw [List.map_append, List.map_append]
        rfl
      rw [← eG]
      clear eG
      refine ⟨_, rfl, (by show 1 ≤ sizeLine; omega), fun t1 ht1 => ?_⟩
      have sT := Same.updf (o := .tup [V.str "barrier"]) ht1
      refine ⟨_, _, Ev.dp (SqT_up (sG1.trans sT) e2), Ev.dp (e := .bar) (SqT.of upd_same), shaped_ev _, shaped_ev .bar, _, rfl, ?_⟩
      rw [eqv_ev]
      have ea := ahead_succ es i
      have eb : isB es i = decide (es[i] = .bar) := by
        unfold isB
        rw [List.getElem?_eq_getElem hi, decide_eq_decide]
        exact ⟨fun z => Option.some.inj z, fun z => by rw [z]⟩
      rw [eb] at ea
      by_cases h : es[i] = .bar
      · rw [decide_eq_true h] at ea ⊢
        refine iteT ⟨_, rfl, _, _, rfl, rfl, sG1.trans sT, sT _ _ hq1, some (V.ref t), ?_⟩
        rw [ea]
        rfl
      · rw [decide_eq_false h] at ea ⊢
        refine iteF ⟨sG1.trans sT, sT _ _ hq1, some (V.ref t), ?_⟩
        rw [ea]
        rfl
    · rintro σ G ⟨sG, hqG, v3, rfl⟩
      rw [List.length_map, lt] at hqG
      exact ⟨_, rfl, k q G sG hq hqG⟩
abbrev s_broken_waits : Stmt := top 20
abbrev N_broken_waits : List Str := ["run", "waits", "ahead", "early", "late"]
theorem sc_broken_waits : FnScope N_broken_waits ["run", "waits"] (defScope s_broken_waits) := ⟨rfl, rfl, rfl, by decide +kernel, rfl, by decide +kernel, by decide +kernel⟩
theorem ok_broken_waits {f : Addr} {fd : FuncData} (F : FnP K "broken_waits" s_broken_waits f fd) (Z : FreeS mg)
    {f_barriers_ahead : Addr} {d_barriers_ahead : FuncData} (g_barriers_ahead : mg "barriers_ahead" = some (.ref f_barriers_ahead)) (F_barriers_ahead : FnP K "barriers_ahead" s_barriers_ahead f_barriers_ahead d_barriers_ahead) (G_barriers_ahead : FnOk P w K mg base CX0 1 f_barriers_ahead d_barriers_ahead ["run"] (spAhead K)) :
    FnOk P w K mg base CX0 2 f fd ["run", "waits"] (spBrokenW K) := by
  have b_barriers_ahead : Binds K d_barriers_ahead ["run"] [] := F_barriers_ahead.bindsN fun _ _ _ _ _ _ us hl => match us, hl with | [_], _ => rfl
  refine F.ok sc_broken_waits (fun vs H Q E h => ?_) (fun cdv A outer s H vs Q E hr h => ?_)
  · obtain ⟨a, b, es, ws, rfl, _⟩ := h
    rfl
  · obtain ⟨a, b, es, ws, rfl, hR, hW, k⟩ := h
    obtain ⟨ts, hb, lt, ht⟩ := hW.at_.got
    have l1000 := hW.len
    have sl : (3000 : Nat) ≤ sizeLine := by decide
    have nd := sc_broken_waits.nd
    refine ⟨_, PSs.nox (pss_cons (ps_set (i := 2) nd rfl (Or.inr rfl) (pe_call G_barriers_ahead (hr.mono (by decide)) rfl g_barriers_ahead F_barriers_ahead.kp b_barriers_ahead .nil pass0 (pa_cons (pv 0) (pa_nil))))
      (pss_one (ps_ret (pe_lc (own := [("early", 3), ("late", 4)]) (g := gTup K 2 (gCons (gName 3) (gCons (gName 4) (gNil)))) (tt := tTest (tOp rEq (tOp (rIxL K) (tVar 2) (tVar 3)) (tOp (rIxL K) (tVar 2) (tVar 4)))) (te := tTup (tCons (tVar 3) (tCons (tVar 4) (tNil)))) (by rfl) nd (pi_list (pv 1))
          (blkOk_by (own := [("early", 3), ("late", 4)]) (N := N_broken_waits) (sc := defScope s_broken_waits) (by decide +kernel)) (fun _ _ _ _ _ => pg_tup rfl (pgs_cons (pg_name (i := 3) nd rfl (Or.inl rfl)) (pgs_cons (pg_name (i := 4) nd rfl (Or.inl rfl)) (pgs_nil)))) (fun _ _ _ _ _ => pts_one (pt_cmpR op_eq (pe_ix ix_list (pv 2) (pv 3) (fun _ _ => rfl)) (pe_ix ix_list (pv 2) (pv 4) (fun _ _ => rfl)) (nomark _)))
          (fun _ _ _ _ _ => pe_tup (pa_cons (pv 3) (pa_cons (pv 4) (pa_nil)))))))), ?_⟩
    refine ⟨_, rfl, a, es, rfl, hR, fun q G sG nq hq => ?_⟩
    refine ⟨_, rfl, b, rfl, ⟨_, SqL.of (sG _ _ hb)⟩, fun D hD => ?_⟩
    refine lc_rel (n := ws.length) (by have := walk_list (K := K) (a := b) (xs := ts.map V.ref); rw [List.length_map, lt] at this; exact this) (fun i => (fun w => decide (ahead es w.1 = ahead es w.2)) (ws.getD i (0, 0))) (fun i y G => ∃ t, y = .ref t ∧ SqT K G t (wv (ws.getD i (0, 0)))) (fun i y G G' s ⟨t, e, h⟩ => ⟨t, e, SqT_up s h⟩) (by omega) hD (fun G2 s => SqL.of (s _ _ (sG _ _ hb))) ?_ ?_
    · rintro i v H2 H3 Qy Qn hi sH hacc ⟨rfl, hv⟩ ky kn
      obtain ⟨t, e1, e2⟩ := ht i hi
      rw [e1] at hv
      obtain rfl : V.ref t = v := Option.some.inj hv
      have ew : ws.getD i (0, 0) = ws[i] := by
        rw [List.getD_eq_getElem?_getD, List.getElem?_eq_getElem hi]
        rfl
      have ok := hW.ok.ok _ (List.getElem_mem hi)
      have l1 := ok.lt
      have l2 := ok.len
      have hw := SqT_up (sG.trans sH) e2
      dsimp only at ky kn
      rw [ew] at ky kn
      refine ⟨t, [_, _], rfl, hw, rfl, _, [_], rfl, _, [], rfl, rfl, ?_⟩
      refine ⟨rfl, _, rfl, _, rfl, q, _, _, _, rfl, rfl, SqL.of (sH _ _ hq), atI_nat (ahead_at (by omega)), _, rfl, _, rfl, q, _, _, _, rfl, rfl, SqL.of (sH _ _ hq), atI_nat (ahead_at l2), ?_⟩
      by_cases c : ahead es ws[i].1 = ahead es ws[i].2
      · refine ⟨rfl, _, rfl, iteP (by first | omega | rw [c]) ?_⟩
        refine ⟨_, rfl, _, rfl, (by show 2 ≤ sizeLine; omega), fun T hT => ?_⟩
        obtain ⟨acc, hacc⟩ := hacc
        refine ky _ _ (decide_eq_true c) (Same.updf hT) ⟨T, rfl, ?_⟩
        exact SqT.of (by rw [off_at (fun z => by rw [z, hacc] at hT; cases hT)]; exact upd_same)
      · exact ⟨rfl, _, rfl, iteQ (by first | omega | (intro z; have := V.int.inj z; omega)) (kn _ (decide_eq_false c) (Same.refl _))⟩
    · intro H2 ys s2 hys py
      exact k D H2 (sG.trans s2) (none_back sG hD) (LsT.of_paired hys (paired_mono (fun x y ⟨t, e, h⟩ => ⟨t, e, SqT_up (off_le _ _) h⟩) (paired_selG (R := fun x y => ∃ t, y = .ref t ∧ SqT K (off H2 D) t (wv x)) py)))
end
end K19
set_option Elab.async false
set_option linter.all false
set_option maxRecDepth 100000
set_option maxHeartbeats 4000000
/-! sorted(xs, key=lambda y: y[n]), as a rule: the keys told item by item. -/
namespace KLam
open PySem PySem.Spec PyProof.Rows L2 LamX
/-- the wish: T: the tables of code objects -/
def tSortLamP (T : List (Addr × Str)) (K : PySem.W.Frag) (n : Int) (te : TE) : TE := fun σ H Q => te σ H fun x H1 => Tabs T H1 ∧ ∃ (a : Addr) (ps : List (V × Int)), x = .ref a ∧ SqL K H1 a (ps.map Prod.fst) ∧
  (∀ p ∈ ps, ∃ (t : Addr) (zs : List V), p.1 = .ref t ∧ SqT K H1 t zs ∧ atI zs n = some (.int p.2)) ∧
  ∀ H2 p, ExtN H1 H2 → Tabs T H2 → H2 p = none → Q (.ref p) (upd H2 p (.lst ((ps.mergeSort fun u v => decide (u.2 ≤ v.2)).map Prod.fst)))
section
variable {X : Cx}
theorem pe_sortedLamP {T : List (Addr × Str)} {c P : Addr} {params : Arguments} {scope : Scope} {y : Str} {n : Int} {kk j : Nat} {e : Expr} {te : TE} {p p1 p2 p3 lpos kpos pos : Pos} (he : PE X e te)
    (hgs : Gl X "sorted") (hm : X.mg "sorted" = none)
    (TB : TabB X.base X.mg c P) (hcode : X.env.code = .ref c) (hmT : (P, X.env.qual ++ "<lambda>") ∈ T) (hu : ∀ q ∈ T, q.1 = P → q.2 = X.env.qual ++ "<lambda>") (hr : Room 3 X.A)
    (hdef : defaultsOf params X.env = ([], [])) (hcl : cloFrom X.env.cells scope.names [] = []) (hfr : ∀ z ∈ scope.names, z.2 ≠ .free)
    (hco : scope.isCoroutine = false) (hgen : scope.isGenerator = false) (hk : scope.kind = .function) (hnc : ∀ x ∈ scope.names, x.2 ≠ .cell) (hy : scope.names.lookup y = some .local) (hd : (y == ("__debug__" : Str)) = false)
    (hb : ∀ (q : Str) (pm cv ctv u : Value), bindArgs (PySem.W.kla_fn "<lambda>" q params (.Subscript (.Name y p1) (.Constant (.int n) kk p2) p3) scope [] pm cv ctv) ⟨[u], []⟩ = pure [(y, u)])
    (hstar : starEach [e] X.env = (false, eval e X.env) :: starEach [] X.env := by rfl) (ha : backTo pos (starEach [e] X.env) = (false, eval e X.env) :: backTo pos (starEach [] X.env) := by rfl) (hpl : (backTo pos (starEach [e] X.env)).any (·.1) = false := by rfl) :
    PE X (.Call (.Name "sorted" p) [e] [⟨some "key", .Lambda params (.Subscript (.Name y p1) (.Constant (.int n) kk p2) p3) scope lpos, kpos⟩] pos) (tSortLamP T X.K n te) := by
  refine ⟨fun pins s σ H Q I h => ?_⟩
  refine wpAny_Call_Name_kw (ld_blt I hgs hm (by rfl : bootBuiltins "sorted" = some (.builtin "sorted")) ?_ (by decide) (by decide))
  have h' : tCons te tNil σ H (fun vs H1 => match vs with
    | [x] => Tabs T H1 ∧ ∃ (a : Addr) (ps : List (V × Int)), x = .ref a ∧ SqL X.K H1 a (ps.map Prod.fst) ∧
      (∀ p ∈ ps, ∃ (t : Addr) (zs : List V), p.1 = .ref t ∧ SqT X.K H1 t zs ∧ atI zs n = some (.int p.2)) ∧
      ∀ H2 p, ExtN H1 H2 → Tabs T H2 → H2 p = none → Q (.ref p) (upd H2 p (.lst ((ps.mergeSort fun u v => decide (u.2 ≤ v.2)).map Prod.fst)))
    | _ => False) := h
  refine PyProof.Rows.callWith_kw (thn ((pa_cons he pa_nil hstar).run pos pins s σ H _ I h') fun us s1 ⟨vs, H1, I1, r1, q1⟩ => ?_) ha hpl (by rfl) (by rfl)
  match vs, r1, q1 with
  | [], r1, q1 => exact q1.elim
  | _ :: _ :: _, r1, q1 => exact q1.elim
  | [x], r1, q1 =>
    obtain ⟨hT, a, ps, ex, hxs, hkp, qp⟩ := q1
    obtain ⟨g, hg⟩ : ∃ g : V → Int, ∀ p ∈ ps, g p.1 = p.2 := by
      refine ⟨fun u => ((ps.find? fun p => decide (p.1 = u)).map Prod.snd).getD 0, fun p hp => ?_⟩
      show ((ps.find? fun r => decide (r.1 = p.1)).map Prod.snd).getD 0 = p.2
      cases e : ps.find? fun r => decide (r.1 = p.1) with
      | none =>
        have := List.find?_eq_none.mp e p hp
        simp at this
      | some r =>
        have hr2 : r.1 = p.1 := by
          have := List.find?_some e
          simpa using this
        obtain ⟨t, zs, e1, h1, k1⟩ := hkp p hp
        obtain ⟨t', zs', e2, h2, k2⟩ := hkp r (List.mem_of_find?_eq_some e)
        rw [hr2, e1] at e2
        obtain rfl := V.ref.inj e2
        rw [I1.tuple_inj h2 h1, k1] at k2
        exact (V.int.inj (Option.some.inj k2)).symm
    have hsort : (ps.mergeSort fun u v => decide (u.2 ≤ v.2)).map Prod.fst = (ps.map Prod.fst).mergeSort fun u v => decide (g u ≤ g v) := by
      refine List.map_mergeSort fun u hu v hv => ?_
      rw [hg u hu, hg v hv]
    obtain ⟨xs, exs⟩ : ∃ xs, xs = ps.map Prod.fst := ⟨_, rfl⟩
    rw [← exs] at hxs hsort
    have hk1 : ∀ u ∈ xs, ∃ (t : Addr) (zs : List V), u = .ref t ∧ SqT X.K H1 t zs ∧ atI zs n = some (.int (g u)) := fun u hu => by
      rw [exs] at hu
      obtain ⟨p, hp, rfl⟩ := List.mem_map.mp hu
      obtain ⟨t, zs, e1, h1, k1⟩ := hkp p hp
      exact ⟨t, zs, e1, h1, by rw [hg p hp]; exact k1⟩
    have q : ∀ H2 p, ExtN H1 H2 → Tabs T H2 → H2 p = none → Q (.ref p) (upd H2 p (.lst (xs.mergeSort fun u v => decide (g u ≤ g v)))) := by
      rw [hsort] at qp
      exact qp
    subst ex
    obtain ⟨u, rfl, rx⟩ := vals1 r1
    obtain rfl : u = Value.ref a := rx
    show wpAny _ _ (evalAll ((do let v ← eval (.Lambda params (.Subscript (.Name y p1) (.Constant (.int n) kk p2) p3) scope lpos) X.env; standAt pos; pure v) :: [])) _ _ s1
    refine wpAny_evalAll_cons (wpAny_bind (lam_make2 I1 TB hcode hmT hu hT hdef (fun z hz e => absurd e (hfr z hz)) fun f c' pm' ctv H2 s2 I2 eN T2 hf hfn hfr2 hco2 => wpAny_bind (wpAny_standAt (wpAny_pure ?_))))
    refine wpAny_evalAll_nil ?_
    rw [hcl] at hf
    show wpAny _ _ (call (.builtin "sorted") [.ref a] [("key", .ref f)]) _ _ s2
    have hx2 := sqL_ext hxs eN
    obtain ⟨its, rv, hl, hz⟩ := I2.list hx2
    have lim2 : s2.heap.NoLimit := I2.nolimit
    refine PySem.W.sorted_key_data (b := false) (β := V) (bs := xs) (vs := its) (R := fun (v : Value) (x : V) => RelV x v) (fun u => .int (g u)) hl.isList (each_vals rv) (fun d hd d' hd' => ?_) (.inr fun d hd => ?_) hz (fun x hx => ?_) (ksk_s1 _ _) (fun x => ksk_l1 _ _) (fun x => ksk_t1 _ _) (fun v x rx hx h tk kp => ?_) (fun out c2 h3 tk kp fr get len each => ?_)
    · obtain ⟨x, _, rfl⟩ := List.mem_map.mp hd
      obtain ⟨x', _, rfl⟩ := List.mem_map.mp hd'
      rfl
    · obtain ⟨x, _, rfl⟩ := List.mem_map.mp hd
      exact ⟨(fun z => nomatch z), fun xs z => nomatch z⟩
    · have := hr.un
      show X.A.units + 2 + _ < cLine
      simp only [PyData.depth]
      omega
    · obtain ⟨t, zs, rfl, hsq, hat⟩ := hk1 x hx
      obtain rfl : v = Value.ref t := rx
      obtain ⟨its', rv', pl, hz'⟩ := I2.tuple (sqT_ext hsq eN)
      obtain ⟨j, j1, j2, j3, j4, j5⟩ := atI_get hat
      obtain ⟨w', ew, rw'⟩ := rv'.get j2
      obtain ⟨tk', rfl⟩ : ∃ tk', w' = .int (g (.ref t)) tk' := rw'
      have hl' := rv'.length
      have hn := line63
      refine lam_key (s := { s2 with heap := h, toks := tk }) (j := j) (its := its'.toArray) (hr.in1.in1.depth) (lim2.keeps kp) (kp _ _ hf) ?_ hco hgen hk hnc hy hd (fun u => hb _ _ _ _ u) (IsTup.keeps pl kp) (by rw [List.size_toArray, ← hl']; exact j1) (by omega) (by omega) (by simpa using ew)
      obtain ⟨⟨oc, vs, t', hoc, hdc, hvc⟩, _⟩ := I2.hok c' _ hco2
      exact ⟨c', oc, vs, t', rfl, kp _ _ hoc, hdc, hvc⟩
    · rw [PySem.W.dataLe_int] at each
      refine ⟨.ref _, upd H2 (s2.heap.objs.size + 1) (.lst (xs.mergeSort fun u v => decide (g u ≤ g v))), I2.laid (t' := tk) kp (Nat.le_succ _) ⟨by rw [List.length_mergeSort]; exact hz, _, c2, vals_each each, get⟩, rfl, q _ _ eN T2 (I2.hok.fresh (Nat.le_succ _))⟩
end
end KLam
set_option Elab.async false
set_option linter.all false
set_option maxRecDepth 100000
set_option maxHeartbeats 8000000
/-! Waits apart: the lambda's table is written. -/
namespace K19
open PySem PySem.Spec PyProof.Rows L2 KB LamX
abbrev cA (K : PySem.W.Frag) : Addr := (He.cT K ("apart_of", none)).1
abbrev tA (K : PySem.W.Frag) : Addr := (He.cT K ("apart_of", none)).2
abbrev cL (K : PySem.W.Frag) : Addr := (He.cT K ("_law_least", none)).1
abbrev tL (K : PySem.W.Frag) : Addr := (He.cT K ("_law_least", none)).2
/-- the tables of both lambdas -/
abbrev TbK (K : PySem.W.Frag) : List (Addr × Str) := [(tA K, "apart_of.<locals>.<lambda>"), (tL K, "_law_least.<locals>.<lambda>")]
theorem tb_one {K : PySem.W.Frag} (n : tA K ≠ tL K) : ∀ q ∈ TbK K, q.1 = tA K → q.2 = "apart_of.<locals>.<lambda>" := fun q h e => by
  rcases List.mem_cons.mp h with h | h
  · rw [h]
  · rw [List.mem_singleton.mp h] at e
    exact absurd e.symm n
theorem tb_two {K : PySem.W.Frag} (n : tA K ≠ tL K) : ∀ q ∈ TbK K, q.1 = tL K → q.2 = "_law_least.<locals>.<lambda>" := fun q h e => by
  rcases List.mem_cons.mp h with h | h
  · rw [h] at e
    exact absurd e n
  · rw [List.mem_singleton.mp h]
/-- a def whose code object is known -/
theorem okT {P : Program} {w : World} {K : PySem.W.Frag} {mg : Str → Option Value} {base : Heap} {x qual : Str} {params : Arguments} {body : List Stmt} {scope : Scope} {dvs : List V} {kws : List (Str × V)} {dn : Str} {fd : FuncData} {CX : CXT} {N ps : List Str} {k : Nat} {sp : Sp}
    (F : FunD K x qual params body scope dvs kws (He.ga K dn) fd) (S : FnScope N ps scope) (len : ∀ (vs : List V) (H : Hp) (Q : VK) (E : XK), sp vs H Q E → vs.length = ps.length)
    (hbody : ∀ (A : Around) (outer : List Env) (s : Shared) (H : Hp) (vs : List V) (Q : VK) (E : XK), Room k (A.deeper (envOfC qual scope s.heap.objs.size (He.ga K dn) (.ref (He.codeOf K (dn, none))))) → sp vs H Q E →
      ∃ t, PSs (cxOf CX P w K mg base N qual scope (He.ga K dn) (.ref (He.codeOf K (dn, none))) A outer s H E) body t ∧ t { nx := fun x H' => Q V.non H', rt := Q } (L2.start N vs) H) :
    FnOk P w K mg base CX (k + 1) (He.ga K dn) fd ps sp := by
  obtain ⟨oc, od, dV, kV, doc, pm, an, cdv, ct, osl, rfl, lk, hcd, _, _⟩ := F.ex
  obtain ⟨c, rfl⟩ := He.codeIn_ref hcd
  have e : He.codeOf K (dn, none) = c := He.codeOf_eq (p := (dn, none)) lk rfl
  subst e
  exact fn_of lk hcd S len fun A outer s H vs Q E hr hsp => hbody A outer s H vs Q E hr hsp
theorem tabs_same {K : PySem.W.Frag} {H H' : Hp} (k : Same H H') (h : Tabs (TbK K) H) : Tabs (TbK K) H' := h.ext k
theorem tabs_but {K : PySem.W.Frag} {pu : Addr} {H H' : Hp} (k : But pu H H') (hp : ∃ xs, H pu = some (.lst xs)) (h : Tabs (TbK K) H) : Tabs (TbK K) H' := fun p hm => by
  obtain ⟨xs, hp⟩ := hp
  obtain ⟨ps, h1, h2, h3⟩ := h p hm
  refine ⟨ps, k _ _ (fun z => ?_) h1, h2, fun pos cv hc => ?_⟩
  · rw [z, hp] at h1
    cases h1
  · obtain ⟨c, e1, e2⟩ := h3 pos cv hc
    refine ⟨c, e1, k _ _ (fun z => ?_) e2⟩
    rw [z, hp] at e2
    cases e2
/-- all but p and the tables stays -/
def ButN (p : Addr) (H H' : Hp) : Prop := ∀ b o, b ≠ p → H b = some o → (∀ ps, o ≠ .tbl ps) → H' b = some o
theorem ButN.of {p : Addr} {H H' : Hp} (k : But p H H') : ButN p H H' := fun b o n e _ => k b o n e
theorem ButN.ofN {p : Addr} {H H' : Hp} (k : ExtN H H') : ButN p H H' := fun b o _ e t => k b o e t
theorem ButN.trans {p : Addr} {H H1 H2 : Hp} (a : ButN p H H1) (b : ButN p H1 H2) : ButN p H H2 := fun x o n e t => b x o n (a x o n e t) t
theorem butN_off {p : Addr} {H H' : Hp} (k : ButN p H H') : ExtN (off H p) (off H' p) := fun c o e t => by
  unfold off at *
  by_cases h : c = p
  · rw [if_pos h] at e
    cases e
  · rw [if_neg h] at e ⊢
    exact k _ _ h e t
theorem LsT.app {K : PySem.W.Frag} {α : Type} {vv : α → List V} {G : Hp} {q : Addr} {xs : List α} (h : LsT K vv G q xs) {t : Addr} {x : α} (ht : SqT K G t (vv x)) : ∃ ys, G q = some (.lst ys) ∧ ys.length = xs.length ∧ LsT K vv (upd G q (.lst (ys ++ [.ref t]))) q (xs ++ [x]) := by
  obtain ⟨us, hus, lus, kus⟩ := h
  have b : But q G (upd G q (.lst (us.map V.ref ++ [.ref t]))) := fun c o n e => by
    rw [upd_ne n]
    exact e
  refine ⟨_, hus, by rw [List.length_map, lus], us ++ [t], by rw [upd_same, List.map_append]; rfl, by rw [List.length_append, List.length_append, lus]; rfl, fun i u y e1 e2 => ?_⟩
  rcases Nat.lt_or_ge i us.length with c | c
  · rw [List.getElem?_append_left c] at e1
    rw [List.getElem?_append_left (by omega)] at e2
    exact SqT_but b (kus i u y e1 e2) ⟨_, hus⟩
  · rw [List.getElem?_append_right c] at e1
    rw [List.getElem?_append_right (by omega)] at e2
    have hi : i - us.length = 0 := by
      have := (List.getElem?_eq_some_iff.mp e1).1
      simp at this
      omega
    rw [hi] at e1
    rw [show i - xs.length = 0 by omega] at e2
    cases e1
    cases e2
    exact SqT_but b ht ⟨_, hus⟩
/-- new, or a table -/
def NewN (H : Hp) (q : Addr) : Prop := ∀ o, H q = some o → ∃ ps, o = .tbl ps
theorem NewN.of {H : Hp} {q : Addr} (h : H q = none) : NewN H q := fun o e => by rw [h] at e; cases e
theorem NewN.back {H H' : Hp} {q : Addr} (k : ExtN H H') (h : NewN H' q) : NewN H q := fun o e => by
  cases o with
  | tbl ps => exact ⟨ps, rfl⟩
  | _ => exact (h _ (k _ _ e (fun ps z => by cases z)))
theorem NewN.ne {H : Hp} {q a : Addr} {xs : List V} (h : NewN H q) (e : H a = some (.lst xs)) : a ≠ q := fun z => by
  rw [z] at e
  obtain ⟨ps, z⟩ := h _ e
  cases z
theorem fm_congr {α β : Type} {f g : α → Option β} : ∀ {l : List α}, (∀ x ∈ l, f x = g x) → l.filterMap f = l.filterMap g
  | [], _ => rfl
  | a :: l, h => by
    rw [List.filterMap_cons, List.filterMap_cons, h a (List.mem_cons_self ..), fm_congr fun x hx => h x (List.mem_cons_of_mem _ hx)]
theorem fm_all {α β : Type} (f : α → β) : ∀ (l : List α), (List.range l.length).filterMap (fun i => (l[i]?).map f) = l.map f
  | [] => rfl
  | x :: r => by
    rw [List.length_cons, List.range_succ_eq_map, List.filterMap_cons, List.filterMap_map]
    show f x :: (List.range r.length).filterMap (fun i => (r[i]?).map f) = _
    rw [fm_all f r]
    rfl
def spApart (K : PySem.W.Frag) : Sp := fun vs H Q _ => ∃ (b : Addr) (ws : List (Nat × Nat)), vs = [.ref b] ∧ WtAt K H b ws ∧ ws.length ≤ 3000 ∧ Tabs (TbK K) H ∧ ∀ q H', ExtN H H' → Tabs (TbK K) H' → NewN H q → WtAt K H' q (apart ws) → Q (.ref q) H'
def spEnds (K : PySem.W.Frag) : Sp := fun vs H Q _ => ∃ (b : Addr) (ws : List (Nat × Nat)), vs = [.ref b] ∧ WtAt K H b ws ∧ ws.length ≤ 3000 ∧ Tabs (TbK K) H ∧ ∀ q H', ExtN H H' → Tabs (TbK K) H' → NewN H q → H' q = some (.lst (numsV (ends ws))) → Q (.ref q) H'
section
variable {P : Program} {w : World} {K : PySem.W.Frag} {mg : Str → Option Value} {base : Heap}
abbrev s_apart_of : Stmt := top 21
abbrev N_apart_of : List Str := ["waits", "found", "last", "early", "late"]
theorem sc_apart_of : FnScope N_apart_of ["waits"] (defScope s_apart_of) := ⟨rfl, rfl, rfl, by decide +kernel, rfl, by decide +kernel, by decide +kernel⟩
theorem ok_apart_of {fd : FuncData} (F : FnP K "apart_of" s_apart_of (He.ga K "apart_of") fd) (Z : FreeS mg) (TB : TabB base mg (cA K) (tA K)) (nt2 : tA K ≠ tL K) :
    FnOk P w K mg base CX0 4 (He.ga K "apart_of") fd ["waits"] (spApart K) := by
  refine okT F sc_apart_of (fun vs H Q E h => ?_) (fun A outer s H vs Q E hr h => ?_)
  · obtain ⟨b, ws, rfl, _⟩ := h
    rfl
  · obtain ⟨b, ws, rfl, hW, l1000, hT, k⟩ := h
    obtain ⟨ts, hb, lt, ht⟩ := id hW.ex
    have sl : (9000 : Nat) ≤ sizeLine := by decide
    have nd := sc_apart_of.nd
    refine ⟨_, PSs.nox (pss_cons (ps_set (i := 1) nd rfl (Or.inl rfl) (pe_lst (pa_nil)))
      (pss_cons (ps_set (i := 2) nd rfl (Or.inl rfl) (pe_int))
      (pss_cons (ps_for PassesOwn.never rfl (pi_list (KLam.pe_sortedLamP (j := 0) (T := TbK K) (c := cA K) (P := tA K) (pv 0) (by rfl) Z.sorted TB rfl (List.mem_cons_self ..) (tb_one nt2) (hr.mono (by decide)) rfl rfl (by decide) rfl rfl rfl (by decide) rfl (by decide) (fun _ _ _ _ _ => rfl))) (pg_tup rfl (pgs_cons (pg_name (i := 3) nd rfl (Or.inl rfl)) (pgs_cons (pg_name (i := 4) nd rfl (Or.inl rfl)) (pgs_nil))))
        (pss_one (ps_if (pt_cmpR op_ge (pv 3) (pv 2) (nomark _)) (pss_cons (ps_expr (pe_bm PySem.F.plainAttrs_list PySem.F.slot_list_append PySem.F.type_list_append mt_append (pv 1) (pa_cons (pe_tup (pa_cons (pv 3) (pa_cons (pv 4) (pa_nil)))) (pa_nil))))
      (pss_one (ps_set (i := 2) nd rfl (Or.inl rfl) (pv 4)))) (pss_nil))))
      (pss_one (ps_ret (pv 1)))))), ?_⟩
    refine ⟨(by show 0 ≤ sizeLine; omega), fun q hq => ?_⟩
    have s1 := Same.updf (o := .lst []) hq
    obtain ⟨G0, eG0⟩ : ∃ X, X = upd H q (.lst []) := ⟨_, rfl⟩
    have hq0 : G0 q = some (.lst []) := by rw [eG0]; exact upd_same
    rw [← eG0] at s1 ⊢
    clear eG0
    obtain ⟨zw, ezw⟩ : ∃ z, z = ts.zip ws := ⟨_, rfl⟩
    have z1 : zw.map Prod.fst = ts := by rw [ezw, List.map_fst_zip (by omega)]
    have z2 : zw.map Prod.snd = ws := by rw [ezw, List.map_snd_zip (by omega)]
    have zm : ∀ p ∈ zw, SqT K H p.1 (wv p.2) := fun p hp => by
      obtain ⟨i, hi, rfl⟩ := List.getElem_of_mem hp
      refine ht i _ _ ?_ ?_
      · rw [← z1, List.getElem?_map, List.getElem?_eq_getElem hi]
        rfl
      · rw [← z2, List.getElem?_map, List.getElem?_eq_getElem hi]
        rfl
    have zl : zw.length = ws.length := by rw [← z2, List.length_map]
    refine ⟨_, rfl, tabs_same s1 hT, b, zw.map fun p => (.ref p.1, (p.2.2 : Int)), rfl, ?_, fun p hp => ?_, fun G1 r e1 T1 n1 => ?_⟩
    · rw [List.map_map, show (Prod.fst ∘ fun p : Addr × (Nat × Nat) => (V.ref p.1, (p.2.2 : Int))) = (V.ref ∘ Prod.fst) from rfl, ← List.map_map, z1]
      exact SqL.of (s1 _ _ hb)
    · obtain ⟨p', hp', rfl⟩ := List.mem_map.mp hp
      exact ⟨p'.1, wv p'.2, rfl, SqT_up s1 (zm p' hp'), atI_nat (j := 1) rfl⟩
    obtain ⟨zs, ezs⟩ : ∃ z, z = zw.mergeSort fun u v => decide (u.2.2 ≤ v.2.2) := ⟨_, rfl⟩
    have el : ((zw.map fun p => (V.ref p.1, (p.2.2 : Int))).mergeSort fun u v => decide (u.2 ≤ v.2)).map Prod.fst = (zs.map Prod.fst).map V.ref := by
      rw [ezs, ← List.map_mergeSort (r := fun u v : Addr × (Nat × Nat) => decide (u.2.2 ≤ v.2.2)) (f := fun p : Addr × (Nat × Nat) => (V.ref p.1, (p.2.2 : Int))) (fun u _ v _ => by rw [decide_eq_decide]; omega), List.map_map, List.map_map]
      rfl
    have eb : zs.map Prod.snd = byEnd ws := by
      rw [ezs, List.map_mergeSort (s := fun u v : Nat × Nat => decide (u.2 ≤ v.2)) (fun u _ v _ => rfl), z2]
      rfl
    have zsm : ∀ p ∈ zs, SqT K H p.1 (wv p.2) := fun p hp => zm p (by rw [ezs] at hp; exact List.mem_mergeSort.mp hp)
    have zsl : zs.length = ws.length := by rw [ezs, List.length_mergeSort, zl]
    rw [el]
    have sr := Same.updf (o := .lst ((zs.map Prod.fst).map V.ref)) n1
    have e2 : ExtN G0 (upd G1 r (.lst ((zs.map Prod.fst).map V.ref))) := e1.trans (ExtN.of sr)
    have T2 := tabs_same sr T1
    have hr2 := upd_same (H := G1) (a := r) (o := .lst ((zs.map Prod.fst).map V.ref))
    obtain ⟨G2, eG2⟩ : ∃ X, X = upd G1 r (.lst ((zs.map Prod.fst).map V.ref)) := ⟨_, rfl⟩
    rw [← eG2] at e2 T2 hr2 ⊢
    clear eG2 sr
    have hq2 : G2 q = some (.lst []) := e2 _ _ hq0 fun ps z => by cases z
    have nrq : r ≠ q := fun z => by
      rw [z, e1 _ _ hq0 (fun ps z => by cases z)] at n1
      cases n1
    refine ⟨r, rfl, ⟨_, SqL.of hr2⟩, ?_⟩
    have bl : (byEnd ws).length = ws.length := List.length_mergeSort _
    refine for_list (xs := (zs.map Prod.fst).map V.ref) (fun i σ G => But q G2 G ∧ ∃ (last : Nat) (acc : List (Nat × Nat)) (v3 v4 : Option V), apart ws = acc ++ greedy last ((byEnd ws).drop i) ∧ acc.length ≤ i ∧ WtAt K G q acc ∧ σ = [some (.ref b), some (.ref q), some (.int (last : Int)), v3, v4])
      ⟨But.refl _ _, 0, [], none, none, rfl, Nat.le_refl _, LsT.nil hq2, rfl⟩ (fun i σ G _ hh => SqL.of (hh.1 _ _ nrq hr2)) ?_ ?_
    · rintro i y σ G hy ⟨bG, last, acc, v3, v4, ea, la, hA, rfl⟩
      have hi : i < zs.length := by
        have := (List.getElem?_eq_some_iff.mp hy).1
        rw [List.length_map, List.length_map] at this
        exact this
      rw [List.getElem?_map, List.getElem?_map, List.getElem?_eq_getElem hi] at hy
      obtain rfl : V.ref zs[i].1 = y := Option.some.inj hy
      have hw0 := KLam.sqT_ext (SqT_up s1 (zsm _ (List.getElem_mem hi))) e2
      have hw : SqT K G zs[i].1 (wv zs[i].2) := SqT_but bG hw0 ⟨_, hq2⟩
      have ei : (byEnd ws).drop i = zs[i].2 :: (byEnd ws).drop (i + 1) := by
        rw [← eb, List.drop_eq_getElem_cons (by rw [List.length_map]; exact hi), List.getElem_map]
      rw [ei] at ea
      refine ⟨zs[i].1, [_, _], rfl, hw, rfl, _, [_], rfl, _, [], rfl, rfl, ?_⟩
      refine ⟨_, rfl, _, rfl, _, _, rfl, rfl, _, rfl, ?_⟩
      by_cases c : last ≤ zs[i].2.1
      · have eg : greedy last (zs[i].2 :: (byEnd ws).drop (i + 1)) = zs[i].2 :: greedy zs[i].2.2 ((byEnd ws).drop (i + 1)) := if_pos c
        rw [eg] at ea
        refine iteP (by omega) ?_
        obtain ⟨ys, y1, y2, _⟩ := hA.app hw
        refine ⟨_, rfl, Or.inl ⟨rfl, _, SqL.of y1⟩, _, rfl, _, rfl, (by show 2 ≤ sizeLine; omega), fun T hT => ?_⟩
        have sT := Same.updf (o := .tup [V.int (zs[i].2.1 : Int), V.int (zs[i].2.2 : Int)]) hT
        obtain ⟨ys', y1', y2', hA'⟩ := (hA.same sT).app (t := T) (x := zs[i].2) (SqT.of upd_same)
        refine ⟨q, _, _, rfl, rfl, y1', by omega, ?_⟩
        refine ⟨_, rfl, (bG.trans (But.of sT)).trans (fun c o n e => by rw [upd_ne n]; exact e), zs[i].2.2, acc ++ [zs[i].2], _, _, by rw [ea, List.append_assoc]; rfl, by rw [List.length_append]; show _ + 1 ≤ _; omega, hA', rfl⟩
      · have eg : greedy last (zs[i].2 :: (byEnd ws).drop (i + 1)) = greedy last ((byEnd ws).drop (i + 1)) := if_neg c
        rw [eg] at ea
        exact iteQ (by omega) ⟨bG, last, acc, _, _, ea, by omega, hA, rfl⟩
    · rintro σ G ⟨bG, last, acc, v3, v4, ea, la, hA, rfl⟩
      rw [List.length_map, List.length_map, List.drop_of_length_le (by omega), show greedy last [] = [] from rfl, List.append_nil] at ea
      rw [← ea] at hA
      refine ⟨_, rfl, k q G (fun c o e nt => ?_) (tabs_but bG ⟨_, hq2⟩ T2) (NewN.of hq) hA⟩
      exact bG _ _ (ne_of_none e hq) (e2 _ _ (s1 _ _ e) nt)
abbrev s_ends_of : Stmt := top 22
abbrev N_ends_of : List Str := ["waits", "early", "late"]
theorem sc_ends_of : FnScope N_ends_of ["waits"] (defScope s_ends_of) := ⟨rfl, rfl, rfl, by decide +kernel, rfl, by decide +kernel, by decide +kernel⟩
theorem ok_ends_of {f : Addr} {fd : FuncData} (F : FnP K "ends_of" s_ends_of f fd) (Z : FreeS mg)
    {f_apart_of : Addr} {d_apart_of : FuncData} (g_apart_of : mg "apart_of" = some (.ref f_apart_of)) (F_apart_of : FnP K "apart_of" s_apart_of f_apart_of d_apart_of) (G_apart_of : FnOk P w K mg base CX0 4 f_apart_of d_apart_of ["waits"] (spApart K)) :
    FnOk P w K mg base CX0 5 f fd ["waits"] (spEnds K) := by
  have b_apart_of : Binds K d_apart_of ["waits"] [] := F_apart_of.bindsN fun _ _ _ _ _ _ us hl => match us, hl with | [_], _ => rfl
  refine F.ok sc_ends_of (fun vs H Q E h => ?_) (fun cdv A outer s H vs Q E hr h => ?_)
  · obtain ⟨b, ws, rfl, _⟩ := h
    rfl
  · obtain ⟨b, ws, rfl, hW, l1000, hT, k⟩ := h
    have sl : (9000 : Nat) ≤ sizeLine := by decide
    have nd := sc_ends_of.nd
    refine ⟨_, PSs.nox (pss_one (ps_ret (pe_lc (own := [("early", 1), ("late", 2)]) (g := gTup K 2 (gCons (gName 1) (gCons (gName 2) (gNil)))) (tt := tYes) (te := tVar 2) (by rfl) nd (pi_list (pe_call G_apart_of (hr.mono (by decide)) rfl g_apart_of F_apart_of.kp b_apart_of .nil pass0 (pa_cons (pv 0) (pa_nil))))
          (blkOk_by (own := [("early", 1), ("late", 2)]) (N := N_ends_of) (sc := defScope s_ends_of) (by decide +kernel)) (fun _ _ _ _ _ => pg_tup rfl (pgs_cons (pg_name (i := 1) nd rfl (Or.inl rfl)) (pgs_cons (pg_name (i := 2) nd rfl (Or.inl rfl)) (pgs_nil)))) (fun _ _ _ _ _ => pts_nil)
          (fun _ _ _ _ _ => pv 2)))), ?_⟩
    refine ⟨_, rfl, b, ws, rfl, hW, l1000, hT, fun q G eG TG nq hA => ?_⟩
    obtain ⟨ts, hq, lt, ht⟩ := hA.got
    have la : (apart ws).length ≤ 3000 := by
      have := (greedy_sub (byEnd ws) 0).length_le
      have bl : (byEnd ws).length = ws.length := List.length_mergeSort _
      unfold apart
      omega
    refine ⟨q, rfl, ⟨_, SqL.of hq⟩, fun D hD => ?_⟩
    refine lc_sel (n := (apart ws).length) (by have := walk_list (K := K) (a := q) (xs := ts.map V.ref); rw [List.length_map, lt] at this; exact this) (fun i => ((apart ws)[i]?).map fun w => .int (w.2 : Int)) (by omega) hD (fun G2 s => SqL.of (s _ _ hq)) ?_ ?_
    · rintro i v H2 H3 Qy Qn hi sH ⟨rfl, hv⟩ ky kn
      obtain ⟨t, e1, e2⟩ := ht i hi
      rw [e1] at hv
      obtain rfl : V.ref t = v := Option.some.inj hv
      refine ⟨t, [_, _], rfl, SqT_up sH e2, rfl, _, [_], rfl, _, [], rfl, rfl, ?_⟩
      exact ⟨rfl, _, rfl, ky _ _ (Same.refl _) (by rw [List.getElem?_eq_getElem hi]; rfl)⟩
    · intro H2 s2 hR
      refine k D H2 (eG.trans (ExtN.of s2)) (tabs_same s2 TG) (NewN.back eG (NewN.of hD)) ?_
      rw [hR, fm_all (fun w : Nat × Nat => V.int (w.2 : Int)) (apart ws)]
      unfold ends numsV
      rw [List.map_map]
      rfl
end
end K19
set_option linter.all false
/-! Orders of two runs, and the fewest barriers of a woven one: theory alone. -/
namespace K19
def least (ws : List (Nat × Nat)) : Nat := (apart ws).length
theorem least_ends (ws : List (Nat × Nat)) : (ends ws).length = least ws := List.length_map _
theorem chain_le' : ∀ {G : List (Nat × Nat)} {P : List Nat} {z : Nat}, Chain z G → (∀ g ∈ G, ∃ p ∈ P, g.1 < p ∧ p ≤ g.2) → G.length ≤ P.length
  | [], P, _, _, _ => Nat.zero_le _
  | g :: r, P, z, hc, hs => by
    obtain ⟨c1, c2, c3⟩ := hc
    obtain ⟨p, hp, q1, q2⟩ := hs g (.head _)
    have h := chain_le' (G := r) (P := P.erase p) c3 fun g' hg' => by
      obtain ⟨p', hp', q⟩ := hs g' (.tail _ hg')
      have := chain_lt c3 g' hg'
      exact ⟨p', (List.mem_erase_of_ne (by omega)).mpr hp', q⟩
    rw [List.length_erase_of_mem hp] at h
    have := List.length_pos_of_mem hp
    rw [List.length_cons]
    omega
/-- moments that serve, in any order -/
theorem least_le {ws : List (Nat × Nat)} (hl : ∀ w ∈ ws, w.1 < w.2) {P : List Nat} (hs : ∀ w ∈ ws, ∃ p ∈ P, w.1 < p ∧ p ≤ w.2) : least ws ≤ P.length :=
  chain_le' (apart_chain hl) fun g hg => hs g (apart_mem hl hg)
theorem ends_stab {ws : List (Nat × Nat)} (hl : ∀ w ∈ ws, w.1 < w.2) {w : Nat × Nat} (h : w ∈ ws) : ∃ p ∈ ends ws, w.1 < p ∧ p ≤ w.2 := served_iff.mp (ends_serve hl) w h
theorem chain_least {ws G : List (Nat × Nat)} (hl : ∀ w ∈ ws, w.1 < w.2) {z : Nat} (hc : Chain z G) (hG : ∀ g ∈ G, g ∈ ws) : G.length ≤ least ws := by
  rw [← least_ends]
  exact chain_le' hc fun g hg => ends_stab hl (hG g hg)
theorem least_mono {ws vs : List (Nat × Nat)} (hl : ∀ w ∈ vs, w.1 < w.2) (h : ∀ w ∈ ws, w ∈ vs) : least ws ≤ least vs := by
  rw [← least_ends vs]
  exact least_le (fun w hw => hl w (h w hw)) fun w hw => ends_stab hl (h w hw)
theorem least_perm {ws vs : List (Nat × Nat)} (hl : ∀ w ∈ ws, w.1 < w.2) (p : ws.Perm vs) : least ws = least vs :=
  Nat.le_antisymm (least_mono (fun w h => hl w (p.mem_iff.mpr h)) fun w h => p.mem_iff.mp h) (least_mono hl fun w h => p.mem_iff.mpr h)
/-! an order: the turns, 0 or 1 -/
/-- how many of this turn stand ahead of a place -/
def rk (o : List Nat) (t i : Nat) : Nat := (o.take i).count t
theorem rk_zero (o : List Nat) (t : Nat) : rk o t 0 = 0 := rfl
theorem rk_succ {o : List Nat} {t i : Nat} (h : i < o.length) : rk o t (i + 1) = rk o t i + (if o[i] = t then 1 else 0) := by
  unfold rk
  rw [List.take_succ, List.count_append, List.getElem?_eq_getElem h]
  congr 1
  show List.count t [o[i]] = _
  rw [List.count_singleton]
  by_cases e : o[i] = t
  · rw [if_pos e, if_pos (beq_iff_eq.mpr e)]
  · rw [if_neg e, if_neg (fun z => e (beq_iff_eq.mp z))]
theorem rk_len (o : List Nat) (t : Nat) : rk o t o.length = o.count t := by
  unfold rk
  rw [List.take_length]
theorem rk_mono {o : List Nat} {t i j : Nat} (h : i ≤ j) : rk o t i ≤ rk o t j := by
  unfold rk
  exact List.Sublist.count_le t (List.take_sublist_take_left h)
theorem rk_le (o : List Nat) (t i : Nat) : rk o t i ≤ o.count t := List.Sublist.count_le t (List.take_sublist _ _)
/-- the places of a turn -/
def plc (o : List Nat) (t : Nat) : List Nat := (List.range o.length).filter fun i => decide (o[i]? = some t)
def plcN (o : List Nat) (t n : Nat) : List Nat := (List.range n).filter fun i => decide (o[i]? = some t)
theorem plcN_len {o : List Nat} {t : Nat} : ∀ {n : Nat}, n ≤ o.length → (plcN o t n).length = rk o t n
  | 0, _ => rfl
  | n + 1, h => by
    have ih := plcN_len (o := o) (t := t) (n := n) (by omega)
    unfold plcN at ih ⊢
    rw [List.range_succ, List.filter_append, List.length_append, ih, rk_succ (by omega)]
    congr 1
    rw [List.filter_cons, List.getElem?_eq_getElem (by omega)]
    by_cases e : o[n] = t
    · rw [if_pos e, if_pos (by rw [e]; exact decide_eq_true rfl)]
      rfl
    · rw [if_neg e, if_neg (by simpa using e)]
      rfl
theorem plc_len (o : List Nat) (t : Nat) : (plc o t).length = o.count t := (plcN_len (Nat.le_refl _)).trans (rk_len o t)
theorem plcN_succ {o : List Nat} {t n : Nat} (h : n < o.length) : plcN o t (n + 1) = if o[n] = t then plcN o t n ++ [n] else plcN o t n := by
  unfold plcN
  rw [List.range_succ, List.filter_append, List.filter_cons, List.getElem?_eq_getElem h]
  by_cases e : o[n] = t
  · rw [if_pos e, if_pos (by rw [e]; exact decide_eq_true rfl)]
    rfl
  · rw [if_neg e, if_neg (by simpa using e)]
    simp
theorem plcN_asc (o : List Nat) (t n : Nat) : (plcN o t n).Pairwise (· < ·) := List.Pairwise.filter _ List.pairwise_lt_range
theorem plcN_pre {o : List Nat} {t m : Nat} (h : m ≤ o.length) : plc o t = plcN o t m ++ (plc o t).drop (plcN o t m).length := by
  have : ∀ n, m ≤ n → ∃ r, plcN o t n = plcN o t m ++ r := by
    intro n hn
    induction n with
    | zero =>
      obtain rfl : m = 0 := by omega
      exact ⟨[], by simp⟩
    | succ n ih =>
      by_cases e : m = n + 1
      · exact ⟨[], by rw [e]; simp⟩
      · obtain ⟨r, hr⟩ := ih (by omega)
        unfold plcN at hr ⊢
        rw [List.range_succ, List.filter_append, hr, List.append_assoc]
        exact ⟨_, rfl⟩
  obtain ⟨r, hr⟩ := this o.length h
  have e : plc o t = plcN o t m ++ r := hr
  rw [e, List.drop_left]
/-- the place of the e-th of a turn -/
def pl (o : List Nat) (t e : Nat) : Nat := (plc o t).getD e 0
theorem pl_rk {o : List Nat} {t i : Nat} (h : o[i]? = some t) : (plc o t)[rk o t i]? = some i := by
  have hi : i < o.length := (List.getElem?_eq_some_iff.mp h).1
  have e := (List.getElem?_eq_some_iff.mp h).2
  rw [plcN_pre (m := i + 1) (by omega), plcN_succ hi, if_pos e, List.getElem?_append_left (by rw [List.length_append, plcN_len (by omega)]; simp), List.getElem?_append_right (by rw [plcN_len (by omega)]; exact Nat.le_refl _), plcN_len (by omega), Nat.sub_self]
  rfl
theorem pl_mem {o : List Nat} {t e : Nat} (h : e < o.count t) : pl o t e < o.length ∧ o[pl o t e]? = some t ∧ rk o t (pl o t e) = e ∧ (plc o t)[e]? = some (pl o t e) := by
  have hl : e < (plc o t).length := by rw [plc_len]; exact h
  have eg : (plc o t)[e]? = some (pl o t e) := by
    unfold pl
    rw [List.getD_eq_getElem?_getD, List.getElem?_eq_getElem hl]
    rfl
  have m : pl o t e ∈ plc o t := List.mem_of_getElem? eg
  unfold plc at m
  rw [List.mem_filter, List.mem_range] at m
  have q : o[pl o t e]? = some t := of_decide_eq_true m.2
  refine ⟨m.1, q, ?_, eg⟩
  have h2 := pl_rk q
  have l2 : rk o t (pl o t e) < (plc o t).length := (List.getElem?_eq_some_iff.mp h2).1
  have e1 := (List.getElem?_eq_some_iff.mp h2).2
  have e2 := (List.getElem?_eq_some_iff.mp eg).2
  have asc := List.pairwise_iff_getElem.mp (plcN_asc o t o.length)
  rcases Nat.lt_trichotomy (rk o t (pl o t e)) e with z | z | z
  · have : (plc o t)[rk o t (pl o t e)] < (plc o t)[e] := asc _ _ l2 hl z
    omega
  · exact z
  · have : (plc o t)[e] < (plc o t)[rk o t (pl o t e)] := asc _ _ hl l2 z
    omega
/-- a place stands behind the e-th of a turn just if more than e of it stand ahead -/
theorem pl_lt {o : List Nat} {t e p : Nat} (h : e < o.count t) : pl o t e < p ↔ e < rk o t p := by
  obtain ⟨h1, h2, h3, _⟩ := pl_mem h
  constructor
  · intro q
    have := rk_mono (o := o) (t := t) (show pl o t e + 1 ≤ p from q)
    rw [rk_succ h1, if_pos (List.getElem?_eq_some_iff.mp h2).2, h3] at this
    omega
  · intro q
    rcases Nat.lt_or_ge (pl o t e) p with z | z
    · exact z
    · have := rk_mono (o := o) (t := t) z
      omega
theorem pl_mono {o : List Nat} {t e f : Nat} (h : f < o.count t) (l : e < f) : pl o t e < pl o t f := by
  rw [pl_lt (by omega), (pl_mem h).2.2.1]
  exact l
theorem pl_ne {o : List Nat} {e f : Nat} (h : e < o.count 0) (h2 : f < o.count 1) : pl o 0 e ≠ pl o 1 f := fun z => by
  have a := (pl_mem h).2.1
  have b := (pl_mem h2).2.1
  rw [z, b] at a
  cases a
/-! waits, moved -/
def mw (o : List Nat) (t : Nat) (w : Nat × Nat) : Nat × Nat := (pl o t w.1, pl o t w.2)
def mvL (o : List Nat) (ws vs : List (Nat × Nat)) : List (Nat × Nat) := ws.map (mw o 0) ++ vs.map (mw o 1)
def srt (ws : List (Nat × Nat)) : List (Nat × Nat) := ws.mergeSort fun u v => decide (u.1 < v.1 ∨ u.1 = v.1 ∧ u.2 ≤ v.2)
def moved (o : List Nat) (ws vs : List (Nat × Nat)) : List (Nat × Nat) := srt (mvL o ws vs)
theorem srt_perm (ws : List (Nat × Nat)) : (srt ws).Perm ws := List.mergeSort_perm _ _
/-- stretches within so many places -/
def Ins (a : Nat) (ws : List (Nat × Nat)) : Prop := ∀ w ∈ ws, w.1 < w.2 ∧ w.2 < a
/-- an order of two runs -/
def Ord (a b : Nat) (o : List Nat) : Prop := (∀ x ∈ o, x = 0 ∨ x = 1) ∧ o.count 0 = a ∧ o.count 1 = b
theorem two_count : ∀ {o : List Nat}, (∀ x ∈ o, x = 0 ∨ x = 1) → o.length = o.count 0 + o.count 1
  | [], _ => rfl
  | x :: o, h => by
    have ih := two_count (o := o) fun y hy => h y (.tail _ hy)
    rcases h x (.head _) with rfl | rfl
    · rw [List.length_cons, List.count_cons_self, List.count_cons_of_ne (by decide)]
      omega
    · rw [List.length_cons, List.count_cons_self, List.count_cons_of_ne (by decide)]
      omega
theorem Ord.len {a b : Nat} {o : List Nat} (h : Ord a b o) : o.length = a + b := by
  rw [two_count h.1, h.2.1, h.2.2]
section
variable {a b : Nat} {o : List Nat} {ws vs : List (Nat × Nat)} (ho : Ord a b o) (hw : Ins a ws) (hv : Ins b vs)
include ho hw hv
theorem mvL_ins : Ins o.length (mvL o ws vs) := fun w h => by
  rcases List.mem_append.mp h with h | h
  · obtain ⟨u, hu, rfl⟩ := List.mem_map.mp h
    have := hw u hu
    exact ⟨pl_mono (by rw [ho.2.1]; exact this.2) this.1, (pl_mem (by rw [ho.2.1]; exact this.2)).1⟩
  · obtain ⟨u, hu, rfl⟩ := List.mem_map.mp h
    have := hv u hu
    exact ⟨pl_mono (by rw [ho.2.2]; exact this.2) this.1, (pl_mem (by rw [ho.2.2]; exact this.2)).1⟩
theorem moved_ins : Ins o.length (moved o ws vs) := fun w h => mvL_ins ho hw hv w ((srt_perm _).mem_iff.mp h)
theorem least_moved : least (moved o ws vs) = least (mvL o ws vs) := least_perm (fun w h => (moved_ins ho hw hv w h).1) (srt_perm _)
theorem least_ge0 : least ws ≤ least (moved o ws vs) := by
  have hl : ∀ w ∈ moved o ws vs, w.1 < w.2 := fun w h => (moved_ins ho hw hv w h).1
  rw [← least_ends (moved o ws vs)]
  have h := least_le (P := (ends (moved o ws vs)).map (rk o 0)) (fun w h => (hw w h).1) fun w h => by
    have m : mw o 0 w ∈ moved o ws vs := (srt_perm _).mem_iff.mpr (List.mem_append.mpr (.inl (List.mem_map.mpr ⟨w, h, rfl⟩)))
    obtain ⟨p, hp, q1, q2⟩ := ends_stab hl m
    have := hw w h
    refine ⟨_, List.mem_map.mpr ⟨p, hp, rfl⟩, (pl_lt (by rw [ho.2.1]; omega)).mp q1, ?_⟩
    have q := pl_lt (o := o) (t := 0) (e := w.2) (p := p) (by rw [ho.2.1]; omega)
    unfold mw at q2
    omega
  rw [List.length_map] at h
  exact h
theorem least_ge1 : least vs ≤ least (moved o ws vs) := by
  have hl : ∀ w ∈ moved o ws vs, w.1 < w.2 := fun w h => (moved_ins ho hw hv w h).1
  rw [← least_ends (moved o ws vs)]
  have h := least_le (P := (ends (moved o ws vs)).map (rk o 1)) (fun w h => (hv w h).1) fun w h => by
    have m : mw o 1 w ∈ moved o ws vs := (srt_perm _).mem_iff.mpr (List.mem_append.mpr (.inr (List.mem_map.mpr ⟨w, h, rfl⟩)))
    obtain ⟨p, hp, q1, q2⟩ := ends_stab hl m
    have := hv w h
    refine ⟨_, List.mem_map.mpr ⟨p, hp, rfl⟩, (pl_lt (by rw [ho.2.2]; omega)).mp q1, ?_⟩
    have q := pl_lt (o := o) (t := 1) (e := w.2) (p := p) (by rw [ho.2.2]; omega)
    unfold mw at q2
    omega
  rw [List.length_map] at h
  exact h
theorem least_sum : least (moved o ws vs) ≤ least ws + least vs := by
  have h := least_le (ws := moved o ws vs) (P := (ends ws).map (pl o 0) ++ (ends vs).map (pl o 1)) (fun w h => (moved_ins ho hw hv w h).1) fun w h => by
    have h := (srt_perm _).mem_iff.mp h
    rcases List.mem_append.mp h with h | h
    · obtain ⟨u, hu, rfl⟩ := List.mem_map.mp h
      obtain ⟨p, hp, q1, q2⟩ := ends_stab (fun w h => (hw w h).1) hu
      have := hw u hu
      have c := ho.2.1
      refine ⟨_, List.mem_append.mpr (.inl (List.mem_map.mpr ⟨p, hp, rfl⟩)), pl_mono (by omega) q1, ?_⟩
      rcases Nat.lt_or_ge p u.2 with z | z
      · exact Nat.le_of_lt (pl_mono (by omega) z)
      · obtain rfl : p = u.2 := by omega
        exact Nat.le_refl _
    · obtain ⟨u, hu, rfl⟩ := List.mem_map.mp h
      obtain ⟨p, hp, q1, q2⟩ := ends_stab (fun w h => (hv w h).1) hu
      have := hv u hu
      have c := ho.2.2
      refine ⟨_, List.mem_append.mpr (.inr (List.mem_map.mpr ⟨p, hp, rfl⟩)), pl_mono (by omega) q1, ?_⟩
      rcases Nat.lt_or_ge p u.2 with z | z
      · exact Nat.le_of_lt (pl_mono (by omega) z)
      · obtain rfl : p = u.2 := by omega
        exact Nat.le_refl _
  rw [List.length_append, List.length_map, List.length_map, least_ends, least_ends] at h
  exact h
end
/-! one run behind the other -/
def behind (a b : Nat) : List Nat := List.replicate a 0 ++ List.replicate b 1
theorem behind_ord (a b : Nat) : Ord a b (behind a b) := by
  refine ⟨fun x h => ?_, ?_, ?_⟩
  · rcases List.mem_append.mp h with h | h
    · exact .inl (List.eq_of_mem_replicate h)
    · exact .inr (List.eq_of_mem_replicate h)
  · unfold behind
    rw [List.count_append, List.count_replicate_self, List.count_replicate, if_neg (by decide)]
    rfl
  · unfold behind
    rw [List.count_append, List.count_replicate_self, List.count_replicate, if_neg (by decide), Nat.zero_add]
theorem rk_behind0 {a b i : Nat} (h : i ≤ a) : rk (behind a b) 0 i = i := by
  unfold rk behind
  rw [List.take_append_of_le_length (by rw [List.length_replicate]; exact h), List.take_replicate, List.count_replicate_self]
  omega
theorem rk_behind1 {a b i : Nat} (h : i ≤ b) : rk (behind a b) 1 (a + i) = i := by
  unfold rk behind
  rw [List.take_append, List.length_replicate, List.count_append, List.take_replicate, List.take_replicate, List.count_replicate_self, List.count_replicate, if_neg (by decide)]
  omega
theorem behind_pl0 {a b e : Nat} (h : e < a) : pl (behind a b) 0 e = e := by
  have hb := behind_ord a b
  have c : e < (behind a b).count 0 := by rw [hb.2.1]; exact h
  have q1 := (pl_lt (p := e + 1) c).mpr (by rw [rk_behind0 (by omega)]; omega)
  have q2 : ¬ pl (behind a b) 0 e < e := fun z => by
    have := (pl_lt c).mp z
    rw [rk_behind0 (by omega)] at this
    omega
  omega
theorem behind_pl1 {a b e : Nat} (h : e < b) : pl (behind a b) 1 e = a + e := by
  have hb := behind_ord a b
  have c : e < (behind a b).count 1 := by rw [hb.2.2]; exact h
  have q1 := (pl_lt (p := a + (e + 1)) c).mpr (by rw [rk_behind1 (by omega)]; omega)
  have q2 : ¬ pl (behind a b) 1 e < a + e := fun z => by
    have := (pl_lt c).mp z
    rw [rk_behind1 (by omega)] at this
    omega
  omega
theorem chain_shift {a : Nat} : ∀ {G : List (Nat × Nat)} {z : Nat}, Chain z G → Chain (a + z) (G.map fun w => (a + w.1, a + w.2))
  | [], _, _ => trivial
  | w :: r, z, ⟨h1, h2, h3⟩ => ⟨by show a + z ≤ a + w.1; omega, by show a + w.1 < a + w.2; omega, chain_shift h3⟩
theorem chain_app {a : Nat} {R : List (Nat × Nat)} (hR : Chain a R) : ∀ {G : List (Nat × Nat)} {z : Nat}, Chain z G → z ≤ a → (∀ g ∈ G, g.2 ≤ a) → Chain z (G ++ R)
  | [], _, _, h, _ => chain_mono h hR
  | w :: r, z, ⟨h1, h2, h3⟩, h, k => ⟨h1, h2, chain_app hR h3 (k w (.head _)) fun g hg => k g (.tail _ hg)⟩
theorem least_behind {a b : Nat} {ws vs : List (Nat × Nat)} (hw : Ins a ws) (hv : Ins b vs) : least (moved (behind a b) ws vs) = least ws + least vs := by
  have ho := behind_ord a b
  refine Nat.le_antisymm (least_sum ho hw hv) ?_
  have hlw : ∀ w ∈ ws, w.1 < w.2 := fun w h => (hw w h).1
  have hlv : ∀ w ∈ vs, w.1 < w.2 := fun w h => (hv w h).1
  have h := chain_least (ws := moved (behind a b) ws vs) (G := apart ws ++ (apart vs).map fun w => (a + w.1, a + w.2)) (z := 0) (fun w h => (moved_ins ho hw hv w h).1)
    (chain_app (a := a) (chain_mono (show a ≤ a + 0 by omega) (chain_shift (apart_chain hlv))) (apart_chain hlw) (Nat.zero_le _) fun g hg => Nat.le_of_lt (hw g (apart_mem hlw hg)).2) fun g hg => by
    refine (srt_perm _).mem_iff.mpr (List.mem_append.mpr ?_)
    rcases List.mem_append.mp hg with hg | hg
    · have m := apart_mem hlw hg
      have := hw g m
      refine .inl (List.mem_map.mpr ⟨g, m, ?_⟩)
      unfold mw
      rw [behind_pl0 (by omega), behind_pl0 (by omega)]
    · obtain ⟨u, hu, rfl⟩ := List.mem_map.mp hg
      have m := apart_mem hlv hu
      have := hv u m
      refine .inr (List.mem_map.mpr ⟨u, m, ?_⟩)
      unfold mw
      rw [behind_pl1 (by omega), behind_pl1 (by omega)]
  rw [List.length_append, List.length_map] at h
  exact h
/-! the best order: cut where each run wants its barriers -/
def cutsL (c : List Nat) (a many : Nat) : List Nat := 0 :: (c ++ List.replicate (many + 1 - c.length) a)
def blk (c d : List Nat) : Nat → List Nat
  | 0 => []
  | i + 1 => blk c d i ++ List.replicate (c.getD (i + 1) 0 - c.getD i 0) 0 ++ List.replicate (d.getD (i + 1) 0 - d.getD i 0) 1
def Weak (c : List Nat) (n : Nat) : Prop := ∀ i, i < n → c.getD i 0 ≤ c.getD (i + 1) 0
theorem blk_two (c d : List Nat) : ∀ i, ∀ x ∈ blk c d i, x = 0 ∨ x = 1
  | 0, x, h => nomatch h
  | i + 1, x, h => by
    unfold blk at h
    rcases List.mem_append.mp h with h | h
    · rcases List.mem_append.mp h with h | h
      · exact blk_two c d i x h
      · exact .inl (List.eq_of_mem_replicate h)
    · exact .inr (List.eq_of_mem_replicate h)
theorem blk_count {c d : List Nat} {n : Nat} (hc : Weak c n) (hd : Weak d n) (c0 : c.getD 0 0 = 0) (d0 : d.getD 0 0 = 0) : ∀ i, i ≤ n → (blk c d i).count 0 = c.getD i 0 ∧ (blk c d i).count 1 = d.getD i 0
  | 0, _ => by rw [c0, d0]; exact ⟨rfl, rfl⟩
  | i + 1, h => by
    obtain ⟨h1, h2⟩ := blk_count hc hd c0 d0 i (by omega)
    have q1 := hc i (by omega)
    have q2 := hd i (by omega)
    unfold blk
    rw [List.count_append, List.count_append, List.count_append, List.count_append, h1, h2, List.count_replicate_self, List.count_replicate_self, List.count_replicate, List.count_replicate, if_neg (by decide), if_neg (by decide)]
    omega
theorem blk_len {c d : List Nat} {n : Nat} (hc : Weak c n) (hd : Weak d n) (c0 : c.getD 0 0 = 0) (d0 : d.getD 0 0 = 0) {i : Nat} (h : i ≤ n) : (blk c d i).length = c.getD i 0 + d.getD i 0 := by
  rw [two_count (blk_two c d i), (blk_count hc hd c0 d0 i h).1, (blk_count hc hd c0 d0 i h).2]
theorem blk_pre (c d : List Nat) : ∀ {i j : Nat}, i ≤ j → ∃ r, blk c d j = blk c d i ++ r
  | i, 0, h => ⟨[], by obtain rfl : i = 0 := by omega
                       simp⟩
  | i, j + 1, h => by
    by_cases e : i = j + 1
    · exact ⟨[], by rw [e]; simp⟩
    · obtain ⟨r, hr⟩ := blk_pre c d (i := i) (j := j) (by omega)
      show ∃ r, blk c d j ++ _ ++ _ = blk c d i ++ r
      rw [hr, List.append_assoc, List.append_assoc]
      exact ⟨_, rfl⟩
theorem blk_rk {c d : List Nat} {n : Nat} (hc : Weak c n) (hd : Weak d n) (c0 : c.getD 0 0 = 0) (d0 : d.getD 0 0 = 0) {i : Nat} (h : i ≤ n) : rk (blk c d n) 0 (c.getD i 0 + d.getD i 0) = c.getD i 0 ∧ rk (blk c d n) 1 (c.getD i 0 + d.getD i 0) = d.getD i 0 := by
  obtain ⟨r, hr⟩ := blk_pre c d h
  unfold rk
  rw [hr, ← blk_len hc hd c0 d0 h, List.take_left]
  exact blk_count hc hd c0 d0 i h
theorem ends_lt {a : Nat} {ws : List (Nat × Nat)} (hw : Ins a ws) : ∀ p ∈ ends ws, p < a := fun p h => by
  obtain ⟨g, hg, rfl⟩ := List.mem_map.mp h
  exact (hw g (apart_mem (fun w h => (hw w h).1) hg)).2
section
variable {a m : Nat} {c : List Nat} (hc : c.Pairwise (· < ·)) (ha : ∀ p ∈ c, p < a) (hm : c.length ≤ m)
include hm
theorem cuts_len : (cutsL c a m).length = m + 2 := by
  unfold cutsL
  rw [List.length_cons, List.length_append, List.length_replicate]
  omega
omit hm in
theorem cuts_zero : (cutsL c a m).getD 0 0 = 0 := rfl
theorem cuts_last : (cutsL c a m).getD (m + 1) 0 = a := by
  unfold cutsL
  rw [List.getD_cons_succ, List.getD_eq_getElem?_getD, List.getElem?_append_right hm, List.getElem?_replicate, if_pos (by omega)]
  rfl
omit hm in
theorem cuts_at {i : Nat} (h : i < c.length) : (cutsL c a m).getD (i + 1) 0 = c[i] := by
  unfold cutsL
  rw [List.getD_cons_succ, List.getD_eq_getElem?_getD, List.getElem?_append_left h, List.getElem?_eq_getElem h]
  rfl
theorem cuts_big {i : Nat} (h : c.length ≤ i) (h2 : i ≤ m) : (cutsL c a m).getD (i + 1) 0 = a := by
  unfold cutsL
  rw [List.getD_cons_succ, List.getD_eq_getElem?_getD, List.getElem?_append_right h, List.getElem?_replicate, if_pos (by omega)]
  rfl
include hc ha
theorem cuts_weak : Weak (cutsL c a m) (m + 1) := fun i h => by
  cases i with
  | zero =>
    rw [cuts_zero]
    exact Nat.zero_le _
  | succ i =>
    rcases Nat.lt_or_ge (i + 1) c.length with q | q
    · rw [cuts_at (by omega), cuts_at q]
      exact Nat.le_of_lt (List.pairwise_iff_getElem.mp hc i (i + 1) (by omega) q (by omega))
    · rw [cuts_big hm q (by omega)]
      rcases Nat.lt_or_ge i c.length with z | z
      · rw [cuts_at z]
        exact Nat.le_of_lt (ha _ (List.getElem_mem z))
      · rw [cuts_big hm z (by omega)]
        exact Nat.le_refl _
end
def bestO (a b : Nat) (ws vs : List (Nat × Nat)) : List Nat :=
  blk (cutsL (ends ws) a (max (ends ws).length (ends vs).length)) (cutsL (ends vs) b (max (ends ws).length (ends vs).length)) (max (ends ws).length (ends vs).length + 1)
section
variable {a b : Nat} {ws vs : List (Nat × Nat)} (hw : Ins a ws) (hv : Ins b vs)
include hw hv
theorem best_ord : Ord a b (bestO a b ws vs) := by
  have w1 := cuts_weak (a := a) (ends_asc fun w h => (hw w h).1) (ends_lt hw) (Nat.le_max_left (ends ws).length (ends vs).length)
  have w2 := cuts_weak (a := b) (ends_asc fun w h => (hv w h).1) (ends_lt hv) (Nat.le_max_right (ends ws).length (ends vs).length)
  have h := blk_count w1 w2 rfl rfl _ (Nat.le_refl _)
  rw [cuts_last (Nat.le_max_left _ _), cuts_last (Nat.le_max_right _ _)] at h
  exact ⟨blk_two _ _ _, h.1, h.2⟩
theorem least_best : least (moved (bestO a b ws vs) ws vs) = max (least ws) (least vs) := by
  have ho := best_ord hw hv
  refine Nat.le_antisymm ?_ (Nat.max_le.mpr ⟨least_ge0 ho hw hv, least_ge1 ho hw hv⟩)
  have w1 := cuts_weak (a := a) (ends_asc fun w h => (hw w h).1) (ends_lt hw) (Nat.le_max_left (ends ws).length (ends vs).length)
  have w2 := cuts_weak (a := b) (ends_asc fun w h => (hv w h).1) (ends_lt hv) (Nat.le_max_right (ends ws).length (ends vs).length)
  obtain ⟨m, em⟩ : ∃ m, m = max (ends ws).length (ends vs).length := ⟨_, rfl⟩
  obtain ⟨C, eC⟩ : ∃ C, C = cutsL (ends ws) a m := ⟨_, rfl⟩
  obtain ⟨D, eD⟩ : ∃ D, D = cutsL (ends vs) b m := ⟨_, rfl⟩
  have eo : bestO a b ws vs = blk C D (m + 1) := by
    unfold bestO
    rw [eC, eD, em]
  rw [← em, ← eC] at w1
  rw [← em, ← eD] at w2
  have r : ∀ i, i ≤ m + 1 → rk (bestO a b ws vs) 0 (C.getD i 0 + D.getD i 0) = C.getD i 0 ∧ rk (bestO a b ws vs) 1 (C.getD i 0 + D.getD i 0) = D.getD i 0 := fun i h => by
    rw [eo]
    exact blk_rk w1 w2 (by rw [eC]; rfl) (by rw [eD]; rfl) h
  have h := least_le (ws := moved (bestO a b ws vs) ws vs) (P := (List.range m).map fun i => C.getD (i + 1) 0 + D.getD (i + 1) 0) (fun w h => (moved_ins ho hw hv w h).1) fun w h => by
    have h := (srt_perm _).mem_iff.mp h
    rcases List.mem_append.mp h with h | h
    · obtain ⟨u, hu, rfl⟩ := List.mem_map.mp h
      obtain ⟨p, hp, q1, q2⟩ := ends_stab (fun w h => (hw w h).1) hu
      have := hw u hu
      have c := ho.2.1
      obtain ⟨i, hi, rfl⟩ := List.getElem_of_mem hp
      have e : C.getD (i + 1) 0 = (ends ws)[i] := by rw [eC]; exact cuts_at hi
      have r1 := (r (i + 1) (by omega)).1
      refine ⟨_, List.mem_map.mpr ⟨i, List.mem_range.mpr (by omega), rfl⟩, (pl_lt (by omega)).mpr (by rw [r1, e]; exact q1), ?_⟩
      have z := pl_lt (o := bestO a b ws vs) (t := 0) (e := u.2) (p := C.getD (i + 1) 0 + D.getD (i + 1) 0) (by omega)
      unfold mw
      show _ ≤ pl _ 0 u.2
      omega
    · obtain ⟨u, hu, rfl⟩ := List.mem_map.mp h
      obtain ⟨p, hp, q1, q2⟩ := ends_stab (fun w h => (hv w h).1) hu
      have := hv u hu
      have c := ho.2.2
      obtain ⟨i, hi, rfl⟩ := List.getElem_of_mem hp
      have e : D.getD (i + 1) 0 = (ends vs)[i] := by rw [eD]; exact cuts_at hi
      have r1 := (r (i + 1) (by omega)).2
      refine ⟨_, List.mem_map.mpr ⟨i, List.mem_range.mpr (by omega), rfl⟩, (pl_lt (by omega)).mpr (by rw [r1, e]; exact q1), ?_⟩
      have z := pl_lt (o := bestO a b ws vs) (t := 1) (e := u.2) (p := C.getD (i + 1) 0 + D.getD (i + 1) 0) (by omega)
      unfold mw
      show _ ≤ pl _ 1 u.2
      omega
  rw [List.length_map, List.length_range, em, least_ends, least_ends] at h
  exact h
end
end K19
set_option linter.all false
/-! Woven runs, and all orders: theory alone. -/
namespace K19
/-- what the program has written of a woven run: k of the one, l of the other -/
def ew (one other : List Ev) (o : List Nat) (k l i : Nat) : Ev :=
  if o[i]? = some 0 ∧ rk o 0 i < k then one.getD (rk o 0 i) .tell else if o[i]? = some 1 ∧ rk o 1 i < l then other.getD (rk o 1 i) .tell else .tell
def ewL (one other : List Ev) (o : List Nat) (k l : Nat) : List Ev := (List.range o.length).map (ew one other o k l)
def wvn (one other : List Ev) (o : List Nat) : List Ev := ewL one other o one.length other.length
theorem ewL_len (one other : List Ev) (o : List Nat) (k l : Nat) : (ewL one other o k l).length = o.length := by
  unfold ewL
  rw [List.length_map, List.length_range]
theorem ewL_get {one other : List Ev} {o : List Nat} {k l i : Nat} (h : i < o.length) : (ewL one other o k l)[i]? = some (ew one other o k l i) := by
  unfold ewL
  rw [List.getElem?_map, List.getElem?_range h]
  rfl
theorem ewL_zero (one other : List Ev) (o : List Nat) : ewL one other o 0 0 = List.replicate o.length .tell := by
  apply List.ext_getElem?
  intro i
  rcases Nat.lt_or_ge i o.length with h | h
  · rw [ewL_get h, List.getElem?_replicate, if_pos h]
    unfold ew
    rw [if_neg (by omega), if_neg (by omega)]
  · rw [List.getElem?_eq_none (by rw [ewL_len]; exact h), List.getElem?_eq_none (by rw [List.length_replicate]; exact h)]
theorem pl_inj {o : List Nat} {t e i : Nat} (h : e < o.count t) : (o[i]? = some t ∧ rk o t i = e) ↔ i = pl o t e := by
  obtain ⟨_, h2, h3, h4⟩ := pl_mem h
  constructor
  · rintro ⟨a, b⟩
    have := pl_rk a
    rw [b, h4] at this
    exact (Option.some.inj this).symm
  · rintro rfl
    exact ⟨h2, h3⟩
theorem ewL_one {one other : List Ev} {o : List Nat} {k l : Nat} (h : k < o.count 0) : (ewL one other o k l).set (pl o 0 k) (one.getD k .tell) = ewL one other o (k + 1) l := by
  apply List.ext_getElem?
  intro i
  rw [List.getElem?_set, ewL_len]
  rcases Nat.lt_or_ge i o.length with q | q
  · rw [ewL_get q, ewL_get q]
    by_cases e : pl o 0 k = i
    · rw [if_pos e, if_pos (by omega)]
      obtain ⟨a, b⟩ := (pl_inj h).mpr e.symm
      unfold ew
      rw [if_pos ⟨a, by omega⟩, b]
    · rw [if_neg e]
      unfold ew
      by_cases c : o[i]? = some 0 ∧ rk o 0 i < k
      · rw [if_pos c, if_pos ⟨c.1, by omega⟩]
      · rw [if_neg c]
        by_cases c2 : o[i]? = some 0 ∧ rk o 0 i < k + 1
        · exact absurd ((pl_inj h).mp ⟨c2.1, by have := c2.1; have := c2.2; have : ¬ rk o 0 i < k := fun z => c ⟨c2.1, z⟩; omega⟩).symm e
        · rw [if_neg c2]
  · rw [List.getElem?_eq_none (by rw [ewL_len]; exact q), List.getElem?_eq_none (by rw [ewL_len]; exact q)]
    have := (pl_mem h).1
    rw [if_neg (by omega)]
theorem ewL_two {one other : List Ev} {o : List Nat} {k l : Nat} (h : l < o.count 1) : (ewL one other o k l).set (pl o 1 l) (other.getD l .tell) = ewL one other o k (l + 1) := by
  apply List.ext_getElem?
  intro i
  rw [List.getElem?_set, ewL_len]
  rcases Nat.lt_or_ge i o.length with q | q
  · rw [ewL_get q, ewL_get q]
    by_cases e : pl o 1 l = i
    · rw [if_pos e, if_pos (by omega)]
      obtain ⟨a, b⟩ := (pl_inj h).mpr e.symm
      unfold ew
      rw [if_neg (fun z => by rw [a] at z; cases z.1), if_pos ⟨a, by omega⟩, b]
    · rw [if_neg e]
      unfold ew
      by_cases c0 : o[i]? = some 0 ∧ rk o 0 i < k
      · rw [if_pos c0, if_pos c0]
      · rw [if_neg c0, if_neg c0]
        by_cases c : o[i]? = some 1 ∧ rk o 1 i < l
        · rw [if_pos c, if_pos ⟨c.1, by omega⟩]
        · rw [if_neg c]
          by_cases c2 : o[i]? = some 1 ∧ rk o 1 i < l + 1
          · exact absurd ((pl_inj h).mp ⟨c2.1, by have := c2.2; have : ¬ rk o 1 i < l := fun z => c ⟨c2.1, z⟩; omega⟩).symm e
          · rw [if_neg c2]
  · rw [List.getElem?_eq_none (by rw [ewL_len]; exact q), List.getElem?_eq_none (by rw [ewL_len]; exact q)]
    have := (pl_mem h).1
    rw [if_neg (by omega)]
section
variable {one other : List Ev} {o : List Nat} (ho : Ord one.length other.length o)
include ho
theorem wvn_len : (wvn one other o).length = o.length := ewL_len _ _ _ _ _
theorem wvn_get {i : Nat} (h : i < o.length) : (wvn one other o)[i]? = if o[i]? = some 0 then one[rk o 0 i]? else other[rk o 1 i]? := by
  unfold wvn
  rw [ewL_get h]
  unfold ew
  have e : o[i]? = some o[i] := List.getElem?_eq_getElem h
  rcases ho.1 _ (List.getElem_mem h) with q | q
  · rw [q] at e
    have r : rk o 0 i < one.length := by
      have := rk_le o 0 (i + 1)
      rw [rk_succ h, if_pos q, ho.2.1] at this
      omega
    rw [if_pos ⟨e, r⟩, if_pos e, List.getD_eq_getElem?_getD, List.getElem?_eq_getElem r]
    rfl
  · rw [q] at e
    have r : rk o 1 i < other.length := by
      have := rk_le o 1 (i + 1)
      rw [rk_succ h, if_pos q, ho.2.2] at this
      omega
    have e0 : ¬ o[i]? = some 0 := fun z => by rw [e] at z; cases z
    rw [if_neg (fun z => e0 z.1), if_pos ⟨e, r⟩, if_neg e0, List.getD_eq_getElem?_getD, List.getElem?_eq_getElem r]
    rfl
theorem wvn_pl0 {e : Nat} (h : e < one.length) : (wvn one other o)[pl o 0 e]? = one[e]? := by
  have q := pl_mem (o := o) (t := 0) (e := e) (by rw [ho.2.1]; exact h)
  rw [wvn_get ho q.1, if_pos q.2.1, q.2.2.1]
theorem wvn_pl1 {e : Nat} (h : e < other.length) : (wvn one other o)[pl o 1 e]? = other[e]? := by
  have q := pl_mem (o := o) (t := 1) (e := e) (by rw [ho.2.2]; exact h)
  rw [wvn_get ho q.1, if_neg (fun z => by rw [q.2.1] at z; cases z), q.2.2.1]
theorem wvn_mem {e : Ev} (h : e ∈ wvn one other o) : e ∈ one ∨ e ∈ other := by
  obtain ⟨i, hi, e2⟩ := List.getElem_of_mem h
  have g : (wvn one other o)[i]? = some e := by rw [List.getElem?_eq_getElem hi, e2]
  rw [wvn_len ho] at hi
  rw [wvn_get ho hi] at g
  split at g
  · exact .inl (List.mem_of_getElem? g)
  · exact .inr (List.mem_of_getElem? g)
end
theorem waits_ins {es : List Ev} {ws : List (Nat × Nat)} (h : WaitsOk es ws) : Ins es.length ws := fun w hw => ⟨(h.ok w hw).lt, (h.ok w hw).len⟩
theorem lex_nd {ws : List (Nat × Nat)} (h : ws.Pairwise lexP) : ws.Nodup := List.nodup_iff_pairwise_ne.mpr (h.imp fun {u v} q e => by
  subst e
  rcases q with q | q <;> omega)
theorem mvL_nd {a b : Nat} {o : List Nat} {ws vs : List (Nat × Nat)} (ho : Ord a b o) (hw : Ins a ws) (hv : Ins b vs) (nw : ws.Nodup) (nv : vs.Nodup) : (mvL o ws vs).Nodup := by
  have inj : ∀ {t n : Nat} {us : List (Nat × Nat)}, o.count t = n → Ins n us → us.Nodup → (us.map (mw o t)).Nodup := fun {t n us} c hi nd => by
    refine List.nodup_iff_pairwise_ne.mpr (List.pairwise_map.mpr ?_)
    have hp := List.nodup_iff_pairwise_ne.mp nd
    refine List.Pairwise.imp_of_mem (fun {u v} mu mv q e => q ?_) hp
    obtain ⟨e1, e2⟩ := Prod.mk.inj e
    have hu := hi u mu
    have hv := hi v mv
    have k : ∀ {x y : Nat}, x < n → y < n → pl o t x = pl o t y → x = y := fun {x y} hx hy z => by
      have a := (pl_mem (o := o) (t := t) (e := x) (by omega)).2.2.1
      have b := (pl_mem (o := o) (t := t) (e := y) (by omega)).2.2.1
      rw [← a, z, b]
    exact Prod.ext (k (by omega) (by omega) e1) (k (by omega) (by omega) e2)
  refine List.nodup_append.mpr ⟨inj ho.2.1 hw nw, inj ho.2.2 hv nv, ?_⟩
  rintro u hu v hv' rfl
  obtain ⟨x, hx, e⟩ := List.mem_map.mp hu
  obtain ⟨y, hy, e2⟩ := List.mem_map.mp hv'
  rw [← e2] at e
  have := hw x hx
  have := hv y hy
  exact pl_ne (o := o) (e := x.1) (f := y.1) (by rw [ho.2.1]; omega) (by rw [ho.2.2]; omega) (Prod.mk.inj e).1
theorem srt_asc {ws : List (Nat × Nat)} (nd : ws.Nodup) : (srt ws).Pairwise lexP := by
  have h1 : (srt ws).Pairwise fun u v => u.1 < v.1 ∨ (u.1 = v.1 ∧ u.2 ≤ v.2) := by
    have h := List.pairwise_mergeSort (le := fun u v : Nat × Nat => decide (u.1 < v.1 ∨ (u.1 = v.1 ∧ u.2 ≤ v.2))) (fun a b c h1 h2 => by
      simp only [decide_eq_true_eq] at *
      omega) (fun a b => by
      simp only [Bool.or_eq_true, decide_eq_true_eq]
      omega) ws
    exact h.imp fun h => of_decide_eq_true h
  have h2 : (srt ws).Nodup := (List.mergeSort_perm ws _).nodup_iff.mpr nd
  refine (h1.and (List.nodup_iff_pairwise_ne.mp h2)).imp fun {u v} h => ?_
  obtain ⟨h, n⟩ := h
  rcases h with h | ⟨e, h⟩
  · exact .inl h
  · refine .inr ⟨e, ?_⟩
    rcases Nat.lt_or_ge u.2 v.2 with c | c
    · exact c
    · exact absurd (Prod.ext e (by omega)) n
theorem moved_ok {one other : List Ev} {o : List Nat} {ws vs : List (Nat × Nat)} (ho : Ord one.length other.length o) (hw : WaitsOk one ws) (hv : WaitsOk other vs) : WaitsOk (wvn one other o) (moved o ws vs) := by
  refine ⟨fun w h => ?_, srt_asc (mvL_nd ho (waits_ins hw) (waits_ins hv) (lex_nd hw.asc) (lex_nd hv.asc))⟩
  have q := moved_ins ho (waits_ins hw) (waits_ins hv) w h
  refine ⟨q.1, by rw [wvn_len ho]; exact q.2, ?_⟩
  rcases List.mem_append.mp ((srt_perm _).mem_iff.mp h) with h | h
  · obtain ⟨u, hu, rfl⟩ := List.mem_map.mp h
    have ok := hw.ok u hu
    have := ok.lt
    have := ok.len
    obtain ⟨c, e1, e2⟩ := ok.ev
    refine ⟨c, ?_⟩
    show (wvn one other o)[pl o 0 u.1]? = _ ∧ ((wvn one other o)[pl o 0 u.2]? = _ ∨ ∃ c', (wvn one other o)[pl o 0 u.2]? = _ ∧ _)
    rw [wvn_pl0 ho (by omega), wvn_pl0 ho (by omega)]
    exact ⟨e1, e2⟩
  · obtain ⟨u, hu, rfl⟩ := List.mem_map.mp h
    have ok := hv.ok u hu
    have := ok.lt
    have := ok.len
    obtain ⟨c, e1, e2⟩ := ok.ev
    refine ⟨c, ?_⟩
    show (wvn one other o)[pl o 1 u.1]? = _ ∧ ((wvn one other o)[pl o 1 u.2]? = _ ∨ ∃ c', (wvn one other o)[pl o 1 u.2]? = _ ∧ _)
    rw [wvn_pl1 ho (by omega), wvn_pl1 ho (by omega)]
    exact ⟨e1, e2⟩
/-- a run without barriers breaks no wait -/
theorem broken_bare {es : List Ev} {ws : List (Nat × Nat)} (h : Ev.bar ∉ es) : brokenL es ws = ws := by
  have z : ∀ i, ahead es i = 0 := fun i => by
    unfold ahead
    rw [List.countP_eq_zero]
    intro e he q
    have := of_decide_eq_true q
    subst this
    exact h (List.mem_of_mem_take he)
  unfold brokenL
  exact List.filter_eq_self.mpr fun w _ => by rw [z, z]; exact decide_eq_true rfl
/-! all orders, as the law makes them -/
def ords (a b : Nat) : Nat → List (List Nat)
  | 0 => [[]]
  | n + 1 => ((ords a b n).filter fun l => decide (l.count 0 < a)).map (· ++ [0]) ++ ((ords a b n).filter fun l => decide (l.count 1 < b)).map (· ++ [1])
theorem ords_len (a b : Nat) : ∀ n, (ords a b n).length ≤ 2 ^ n
  | 0 => Nat.le_refl _
  | n + 1 => by
    have ih := ords_len a b n
    have h1 := List.length_filter_le (fun l : List Nat => decide (l.count 0 < a)) (ords a b n)
    have h2 := List.length_filter_le (fun l : List Nat => decide (l.count 1 < b)) (ords a b n)
    show (_ ++ _ : List (List Nat)).length ≤ _
    rw [List.length_append, List.length_map, List.length_map, Nat.pow_succ]
    omega
theorem cnt_snoc (l : List Nat) (x t : Nat) : (l ++ [x]).count t = l.count t + if x = t then 1 else 0 := by
  rw [List.count_append, List.count_singleton]
  by_cases e : x = t
  · rw [if_pos e, if_pos (beq_iff_eq.mpr e)]
  · rw [if_neg e, if_neg (fun z => e (beq_iff_eq.mp z))]
theorem mem_ords {a b : Nat} : ∀ {n : Nat} {o : List Nat}, o ∈ ords a b n ↔ (∀ x ∈ o, x = 0 ∨ x = 1) ∧ o.length = n ∧ o.count 0 ≤ a ∧ o.count 1 ≤ b
  | 0, o => by
    show o ∈ [[]] ↔ _
    rw [List.mem_singleton]
    constructor
    · rintro rfl
      exact ⟨fun x h => (nomatch h), rfl, Nat.zero_le _, Nat.zero_le _⟩
    · rintro ⟨_, h, _⟩
      exact List.length_eq_zero_iff.mp h
  | n + 1, o => by
    show o ∈ _ ++ _ ↔ _
    rw [List.mem_append, List.mem_map, List.mem_map]
    constructor
    · rintro (⟨p, h, rfl⟩ | ⟨p, h, rfl⟩)
      · obtain ⟨h1, h2⟩ := List.mem_filter.mp h
        obtain ⟨x1, x2, x3, x4⟩ := mem_ords.mp h1
        have := of_decide_eq_true h2
        refine ⟨fun x hx => ?_, by rw [List.length_append, x2]; rfl, by rw [cnt_snoc, if_pos rfl]; omega, by rw [cnt_snoc, if_neg (by decide)]; exact x4⟩
        rcases List.mem_append.mp hx with m | m
        · exact x1 x m
        · exact .inl (List.mem_singleton.mp m)
      · obtain ⟨h1, h2⟩ := List.mem_filter.mp h
        obtain ⟨x1, x2, x3, x4⟩ := mem_ords.mp h1
        have := of_decide_eq_true h2
        refine ⟨fun x hx => ?_, by rw [List.length_append, x2]; rfl, by rw [cnt_snoc, if_neg (by decide)]; exact x3, by rw [cnt_snoc, if_pos rfl]; omega⟩
        rcases List.mem_append.mp hx with m | m
        · exact x1 x m
        · exact .inr (List.mem_singleton.mp m)
    · rintro ⟨x1, x2, x3, x4⟩
      rcases List.eq_nil_or_concat o with rfl | ⟨p, x, rfl⟩
      · cases x2
      · rw [List.concat_eq_append] at x1 x2 x3 x4 ⊢
        rw [cnt_snoc] at x3 x4
        rw [List.length_append, List.length_singleton] at x2
        have y1 : ∀ y ∈ p, y = 0 ∨ y = 1 := fun y hy => x1 y (List.mem_append.mpr (.inl hy))
        rcases x1 x (by simp) with rfl | rfl
        · rw [if_pos rfl] at x3
          rw [if_neg (by decide)] at x4
          exact .inl ⟨p, List.mem_filter.mpr ⟨mem_ords.mpr ⟨y1, by omega, by omega, x4⟩, decide_eq_true (by omega)⟩, rfl⟩
        · rw [if_neg (by decide)] at x3
          rw [if_pos rfl] at x4
          exact .inr ⟨p, List.mem_filter.mpr ⟨mem_ords.mpr ⟨y1, by omega, x3, by omega⟩, decide_eq_true (by omega)⟩, rfl⟩
def allO (a b : Nat) : List (List Nat) := ords a b (a + b)
theorem mem_allO {a b : Nat} {o : List Nat} : o ∈ allO a b ↔ Ord a b o := by
  unfold allO
  rw [mem_ords]
  constructor
  · rintro ⟨h1, h2, h3, h4⟩
    have := two_count h1
    exact ⟨h1, by omega, by omega⟩
  · intro h
    exact ⟨h.1, h.len, by rw [h.2.1]; exact Nat.le_refl _, by rw [h.2.2]; exact Nat.le_refl _⟩
/-- the least of all orders, the greatest of all -/
theorem sizes_min {a b : Nat} {ws vs : List (Nat × Nat)} (hw : Ins a ws) (hv : Ins b vs) {m : Nat} (h1 : m ∈ (allO a b).map fun o => least (moved o ws vs)) (h2 : ∀ y ∈ (allO a b).map fun o => least (moved o ws vs), m ≤ y) : m = max (least ws) (least vs) := by
  obtain ⟨o, ho, rfl⟩ := List.mem_map.mp h1
  have ho := mem_allO.mp ho
  have q := h2 _ (List.mem_map.mpr ⟨bestO a b ws vs, mem_allO.mpr (best_ord hw hv), rfl⟩)
  rw [least_best hw hv] at q
  exact Nat.le_antisymm q (Nat.max_le.mpr ⟨least_ge0 ho hw hv, least_ge1 ho hw hv⟩)
theorem sizes_max {a b : Nat} {ws vs : List (Nat × Nat)} (hw : Ins a ws) (hv : Ins b vs) {m : Nat} (h1 : m ∈ (allO a b).map fun o => least (moved o ws vs)) (h2 : ∀ y ∈ (allO a b).map fun o => least (moved o ws vs), y ≤ m) : m = least ws + least vs := by
  obtain ⟨o, ho, rfl⟩ := List.mem_map.mp h1
  have ho := mem_allO.mp ho
  have q := h2 _ (List.mem_map.mpr ⟨behind a b, mem_allO.mpr (behind_ord a b), rfl⟩)
  rw [least_behind hw hv] at q
  exact Nat.le_antisymm (least_sum ho hw hv) q
end K19
set_option Elab.async false
set_option linter.all false
set_option maxRecDepth 100000
set_option maxHeartbeats 8000000
/-! Orders, and places by them. -/
namespace K19
open PySem PySem.Spec PyProof.Rows L2 KB LamX
theorem room65 {k : Nat} {A : Around} (r : Room k A) : A.units + 65 < cLine := by have := r.un; omega
theorem But.upd' {p : Addr} {H : Hp} {o : HO} : But p H (upd H p o) := fun c o' n e => by
  rw [upd_ne n]
  exact e
theorem LsT.but {K : PySem.W.Frag} {α : Type} {vv : α → List V} {H H' : Hp} {a p : Addr} {xs : List α} (k : But p H H') (n : a ≠ p) (hp : ∃ ys, H p = some (.lst ys)) (h : LsT K vv H a xs) : LsT K vv H' a xs := by
  obtain ⟨ts, h1, h2, h3⟩ := h
  exact ⟨ts, k _ _ n h1, h2, fun i t e e1 e2 => SqT_but k (h3 i t e e1 e2) hp⟩
theorem LsT.set {K : PySem.W.Frag} {α : Type} {vv : α → List V} {G : Hp} {q : Addr} {xs : List α} (h : LsT K vv G q xs) {t : Addr} {x : α} (ht : SqT K G t (vv x)) {i : Nat} (hi : i < xs.length) : ∃ ys, G q = some (.lst ys) ∧ ys.length = xs.length ∧ LsT K vv (upd G q (.lst (ys.set i (.ref t)))) q (xs.set i x) := by
  obtain ⟨us, hus, lus, kus⟩ := h
  have b : But q G (upd G q (.lst ((us.map V.ref).set i (.ref t)))) := But.upd'
  refine ⟨_, hus, by rw [List.length_map, lus], us.set i t, by rw [upd_same, List.map_set], by rw [List.length_set, List.length_set, lus], fun j u y e1 e2 => ?_⟩
  rw [List.getElem?_set] at e1 e2
  by_cases c : i = j
  · rw [if_pos c, if_pos (by omega)] at e1 e2
    cases e1
    cases e2
    exact SqT_but b ht ⟨_, hus⟩
  · rw [if_neg c] at e1 e2
    exact SqT_but b (kus j u y e1 e2) ⟨_, hus⟩
theorem shaped_list {ds : List PyData} (h : ∀ d ∈ ds, PyData.canLay0 d = true ∧ PyData.depth d ≤ 2) : SeqAt.shaped (.list ds) = true := by
  have g : PyData.canLayAll0 ds = true ∧ PyData.depthAll ds ≤ 3 := by
    induction ds with
    | nil => exact ⟨rfl, Nat.zero_le _⟩
    | cons x r ih =>
      obtain ⟨i1, i2⟩ := ih fun d m => h d (List.mem_cons_of_mem _ m)
      obtain ⟨h1, h2⟩ := h x List.mem_cons_self
      constructor
      · simp only [PyData.canLayAll0, h1, i1, Bool.and_self]
      · simp only [PyData.depthAll]
        omega
  refine Bool.and_eq_true_iff.mpr ⟨?_, decide_eq_true ?_⟩
  · simp only [PyData.canLay0]
    exact g.1
  · simp only [PyData.depth]
    have := g.2
    omega
theorem shaped_run (es : List Ev) : SeqAt.shaped (.list (es.map Ev.d)) = true := shaped_list fun d hd => by
  obtain ⟨e, _, rfl⟩ := List.mem_map.mp hd
  constructor
  · cases e <;> simp [Ev.d, PyData.canLay0, PyData.canLayAll0] <;> decide +kernel
  · cases e <;> simp [Ev.d, PyData.depth, PyData.depthAll]
theorem LsT.dp {K : PySem.W.Frag} {H : Hp} {α : Type} {vv : α → List V} {vd : α → PyData} (hv : ∀ {t : Addr} {x : α}, SqT K H t (vv x) → Dp K H (.ref t) (vd x)) {a : Addr} {xs : List α} (h : LsT K vv H a xs) : Dp K H (.ref a) (.list (xs.map vd)) := by
  obtain ⟨ts, h1, h2, h3⟩ := h
  refine .lst (SqL.of h1) ?_
  clear h1
  induction ts generalizing xs with
  | nil =>
    cases xs with
    | nil => exact .nil
    | cons _ _ => cases h2
  | cons t ts ih =>
    cases xs with
    | nil => cases h2
    | cons x xs =>
      exact .cons (hv (h3 0 t x rfl rfl)) (ih (Nat.succ.inj h2) fun i u y e1 e2 => h3 (i + 1) u y e1 e2)
/-- numbers as data -/
abbrev dN (o : List Nat) : List PyData := o.map fun x : Nat => PyData.int (x : Int)
theorem dpAll_nums {K : PySem.W.Frag} {H : Hp} : ∀ o : List Nat, DpAll K H (numsV o) (dN o)
  | [] => .nil
  | x :: o => .cons (.int _) (dpAll_nums o)
theorem dp_nums {K : PySem.W.Frag} {H : Hp} {a : Addr} {o : List Nat} (h : H a = some (.lst (numsV o))) : Dp K H (.ref a) (.list (dN o)) := .lst (SqL.of h) (dpAll_nums o)
theorem shaped_nums (o : List Nat) : SeqAt.shaped (.list (dN o)) = true := shaped_list fun d hd => by
  obtain ⟨x, _, rfl⟩ := List.mem_map.mp hd
  exact ⟨by simp [PyData.canLay0], by simp [PyData.depth]⟩
theorem count_nums (o : List Nat) (i : Nat) : ((dN o).countP fun z => PyData.eqv z (.int (i : Int))) = o.count i := by
  rw [List.countP_map]
  have e : ((fun z => PyData.eqv z (.int (i : Int))) ∘ fun x : Nat => PyData.int (x : Int)) = fun x : Nat => x == i := funext fun x => by
    show PyData.eqv (.int (x : Int)) (.int (i : Int)) = _
    simp only [PyData.eqv]
    rw [Bool.eq_iff_iff, beq_iff_eq, beq_iff_eq]
    omega
  rw [e]
  rfl
def toN : PyData → Nat
  | .int i => i.toNat
  | _ => 0
def ordB (a b : Nat) : PyData → Bool
  | .list ds => ds.all (belB 2) && (decide ((ds.map toN).count 0 = a) && decide ((ds.map toN).count 1 = b))
  | _ => false
theorem dN_toN (o : List Nat) : (dN o).map toN = o := by
  rw [List.map_map]
  exact (List.map_congr_left fun x _ => by show ((x : Int)).toNat = x; rw [Int.toNat_natCast]).trans (List.map_id o)
theorem bel_all : ∀ {ds : List PyData}, ds.all (belB 2) = true → ∃ o : List Nat, ds = dN o ∧ ∀ x ∈ o, x = 0 ∨ x = 1
  | [], _ => ⟨[], rfl, fun x h => nomatch h⟩
  | d :: ds, h => by
    rw [List.all_cons, Bool.and_eq_true] at h
    obtain ⟨i, rfl, hi⟩ := belB_iff.mp h.1
    obtain ⟨o, rfl, k⟩ := bel_all h.2
    refine ⟨i :: o, rfl, fun x hx => ?_⟩
    rcases List.mem_cons.mp hx with rfl | hx
    · omega
    · exact k x hx
theorem ordB_of {a b : Nat} {o : List Nat} (h : Ord a b o) : ordB a b (.list (dN o)) = true := by
  show ((dN o).all (belB 2) && (decide (((dN o).map toN).count 0 = a) && decide (((dN o).map toN).count 1 = b))) = true
  rw [dN_toN, decide_eq_true h.2.1, decide_eq_true h.2.2, Bool.and_true, Bool.and_true, List.all_eq_true]
  intro d hd
  obtain ⟨x, hx, rfl⟩ := List.mem_map.mp hd
  exact belB_iff.mpr ⟨x, rfl, by rcases h.1 x hx with rfl | rfl <;> decide⟩
theorem ordB_iff {a b : Nat} {d : PyData} : ordB a b d = true ↔ ∃ o, d = .list (dN o) ∧ Ord a b o := by
  constructor
  · intro h
    unfold ordB at h
    split at h
    · rename_i ds
      rw [Bool.and_eq_true, Bool.and_eq_true] at h
      obtain ⟨o, rfl, k⟩ := bel_all h.1
      rw [dN_toN] at h
      exact ⟨o, rfl, k, of_decide_eq_true h.2.1, of_decide_eq_true h.2.2⟩
    · cases h
  · rintro ⟨o, rfl, h⟩
    exact ordB_of h
theorem td_nums {K : PySem.W.Frag} {H : Hp} {m : Nat} : ∀ {xs : List V} {o : List Nat}, xs.length = (dN o).length → (∀ (i : Nat) (u : V) (e : PyData), xs[i]? = some u → (dN o)[i]? = some e → TD K H m u e) → xs = numsV o
  | [], [], _, _ => rfl
  | [], _ :: _, l, _ => by cases l
  | _ :: _, [], l, _ => by cases l
  | x :: xs, y :: o, l, k => by
    have h0 := td_int (k 0 x _ rfl rfl)
    rw [h0, td_nums (xs := xs) (o := o) (Nat.succ.inj l) fun i u e h1 h2 => k (i + 1) u e h1 h2]
    rfl
theorem nums_len (o : List Nat) : (numsV o).length = o.length := List.length_map _
theorem nums_get {o : List Nat} {i : Nat} {v : V} (h : (numsV o)[i]? = some v) : ∃ x, o[i]? = some x ∧ v = .int (x : Int) := by
  unfold numsV at h
  rw [List.getElem?_map] at h
  obtain ⟨x, q, rfl⟩ := Option.map_eq_some_iff.mp h
  exact ⟨x, q, rfl⟩
theorem nums_at {o : List Nat} {i x : Nat} (h : o[i]? = some x) : (numsV o)[i]? = some (.int (x : Int)) := by
  unfold numsV
  rw [List.getElem?_map, h]
  rfl
theorem rep_nums (k x : Nat) : (List.replicate k [V.int (x : Int)]).flatten = numsV (List.replicate k x) := by
  unfold numsV
  induction k with
  | zero => rfl
  | succ k ih =>
    rw [List.replicate_succ, List.flatten_cons, ih, List.replicate_succ]
    rfl
theorem nums_app (o p : List Nat) : numsV o ++ numsV p = numsV (o ++ p) := by
  unfold numsV
  rw [List.map_append]
def spNeedBare (K : PySem.W.Frag) : Sp := fun vs H Q _ => ∃ (a : Addr) (es : List Ev), vs = [.ref a] ∧ RunOk K H a es ∧ Ev.bar ∉ es ∧ ∀ H', Same H H' → Q .non H'
def spFor (K : PySem.W.Frag) : Sp := fun vs H Q _ => ∃ (a b : Addr) (es : List Ev) (ws : List (Nat × Nat)), vs = [.ref a, .ref b] ∧ RunOk K H a es ∧ WtOk K H b es ws ∧ Tabs (TbK K) H ∧ ∀ q H', ExtN H H' → Tabs (TbK K) H' → NewN H q → H' q = some (.lst (numsV (ends (brokenL es ws)))) → Q (.ref q) H'
def spNeedTwo (K : PySem.W.Frag) : Sp := fun vs H Q _ => ∃ (a b c d : Addr) (one other : List Ev) (ws us : List (Nat × Nat)), vs = [.ref a, .ref b, .ref c, .ref d] ∧ RunOk K H a one ∧ Ev.bar ∉ one ∧ WtOk K H b one ws ∧ RunOk K H c other ∧ Ev.bar ∉ other ∧ WtOk K H d other us ∧ ∀ H', Same H H' → Q .non H'
def spIsOrder (K : PySem.W.Frag) : Sp := fun vs H Q _ => ∃ (a c : Addr) (x : V) (one other : List Ev) (d : PyData) (m : Nat), vs = [.ref a, .ref c, x] ∧ RunOk K H a one ∧ RunOk K H c other ∧ TD K H m x d ∧ ∀ H', Same H H' → Q (.bl (ordB one.length other.length d)) H'
def spNeedOrder (K : PySem.W.Frag) : Sp := fun vs H Q _ => ∃ (a c q : Addr) (one other : List Ev) (o : List Nat), vs = [.ref a, .ref c, .ref q] ∧ RunOk K H a one ∧ RunOk K H c other ∧ H q = some (.lst (numsV o)) ∧ Ord one.length other.length o ∧ ∀ H', Same H H' → Q .non H'
def spPlBy (K : PySem.W.Frag) : Sp := fun vs H Q _ => ∃ (q : Addr) (o : List Nat) (t : Nat), vs = [.ref q, .int (t : Int)] ∧ H q = some (.lst (numsV o)) ∧ o.length ≤ 1000 ∧ ∀ r H', Same H H' → H r = none → H' r = some (.lst (numsV (plc o t))) → Q (.ref r) H'
section
variable {P : Program} {w : World} {K : PySem.W.Frag} {mg : Str → Option Value} {base : Heap}
abbrev s_need_bare_run : Stmt := top 15
abbrev N_need_bare_run : List Str := ["run"]
theorem sc_need_bare_run : FnScope N_need_bare_run ["run"] (defScope s_need_bare_run) := ⟨rfl, rfl, rfl, by decide +kernel, rfl, by decide +kernel, by decide +kernel⟩
theorem ok_need_bare_run {f : Addr} {fd : FuncData} (F : FnP K "need_bare_run" s_need_bare_run f fd) (Z : FreeS mg)
    {f_are_events : Addr} {d_are_events : FuncData} (g_are_events : mg "are_events" = some (.ref f_are_events)) (F_are_events : FnP K "are_events" s_are_events f_are_events d_are_events) (G_are_events : FnOk P w K mg base CX0 4 f_are_events d_are_events ["value"] (spEvents K)) :
    FnOk P w K mg base CX0 5 f fd ["run"] (spNeedBare K) := by
  have b_are_events : Binds K d_are_events ["value"] [] := F_are_events.bindsN fun _ _ _ _ _ _ us hl => match us, hl with | [_], _ => rfl
  refine F.ok sc_need_bare_run (fun vs H Q E h => ?_) (fun cdv A outer s H vs Q E hr h => ?_)
  · obtain ⟨a, es, rfl, _⟩ := h
    rfl
  · obtain ⟨a, es, rfl, hR, nb, k⟩ := h
    have nd := sc_need_bare_run.nd
    refine ⟨_, PSs.nox (pss_one (ps_if (PW.pt (pw_or (pt_not (pt_val (pe_call G_are_events (hr.mono (by decide)) rfl g_are_events F_are_events.kp b_are_events .nil pass0 (pa_cons (pv 0) (pa_nil))))) (pw_or1 (pt_cmpR (op_inD (room65 hr)) (pe_tup (pa_cons (pe_str) (pa_nil))) (pv 0) (by rfl))))) (pss_one (ps_dead)) (pss_nil))), ?_⟩
    refine ⟨_, rfl, a, es, rfl, hR, fun H1 s1 => ⟨true, rfl, ?_⟩⟩
    refine iteF ⟨(by show 1 ≤ sizeLine; decide), fun T hT => ?_⟩
    have sT := Same.updf (o := .tup [V.str "barrier"]) hT
    refine ⟨_, rfl, _, _, Ev.dp (e := .bar) (SqT.of upd_same), LsT.dp Ev.dp (hR.at_.same (s1.trans sT)), shaped_ev _, shaped_run _, ?_⟩
    have e : ((es.map Ev.d).any fun z => PyData.eqv z Ev.bar.d) = false := by
      rw [List.any_map, ← Bool.not_eq_true, List.any_eq_true]
      rintro ⟨x, hx, q⟩
      have q : PyData.eqv x.d Ev.bar.d = true := q
      rw [eqv_ev] at q
      exact nb (of_decide_eq_true q ▸ hx)
    rw [e]
    exact ⟨_, rfl, iteF (k _ (s1.trans sT))⟩
abbrev s_barriers_for : Stmt := top 24
abbrev N_barriers_for : List Str := ["run", "waits"]
theorem sc_barriers_for : FnScope N_barriers_for ["run", "waits"] (defScope s_barriers_for) := ⟨rfl, rfl, rfl, by decide +kernel, rfl, by decide +kernel, by decide +kernel⟩
theorem ok_barriers_for {f : Addr} {fd : FuncData} (F : FnP K "barriers_for" s_barriers_for f fd) (Z : FreeS mg)
    {f_need_run : Addr} {d_need_run : FuncData} (g_need_run : mg "need_run" = some (.ref f_need_run)) (F_need_run : FnP K "need_run" s_need_run f_need_run d_need_run) (G_need_run : FnOk P w K mg base CX0 5 f_need_run d_need_run ["run"] (spNeedRun K))
    {f_need_waits : Addr} {d_need_waits : FuncData} (g_need_waits : mg "need_waits" = some (.ref f_need_waits)) (F_need_waits : FnP K "need_waits" s_need_waits f_need_waits d_need_waits) (G_need_waits : FnOk P w K mg base CX0 6 f_need_waits d_need_waits ["run", "waits"] (spNeedWaits K))
    {f_ends_of : Addr} {d_ends_of : FuncData} (g_ends_of : mg "ends_of" = some (.ref f_ends_of)) (F_ends_of : FnP K "ends_of" s_ends_of f_ends_of d_ends_of) (G_ends_of : FnOk P w K mg base CX0 5 f_ends_of d_ends_of ["waits"] (spEnds K))
    {f_broken_waits : Addr} {d_broken_waits : FuncData} (g_broken_waits : mg "broken_waits" = some (.ref f_broken_waits)) (F_broken_waits : FnP K "broken_waits" s_broken_waits f_broken_waits d_broken_waits) (G_broken_waits : FnOk P w K mg base CX0 2 f_broken_waits d_broken_waits ["run", "waits"] (spBrokenW K)) :
    FnOk P w K mg base CX0 7 f fd ["run", "waits"] (spFor K) := by
  have b_need_run : Binds K d_need_run ["run"] [] := F_need_run.bindsN fun _ _ _ _ _ _ us hl => match us, hl with | [_], _ => rfl
  have b_need_waits : Binds K d_need_waits ["run", "waits"] [] := F_need_waits.bindsN fun _ _ _ _ _ _ us hl => match us, hl with | [_, _], _ => rfl
  have b_ends_of : Binds K d_ends_of ["waits"] [] := F_ends_of.bindsN fun _ _ _ _ _ _ us hl => match us, hl with | [_], _ => rfl
  have b_broken_waits : Binds K d_broken_waits ["run", "waits"] [] := F_broken_waits.bindsN fun _ _ _ _ _ _ us hl => match us, hl with | [_, _], _ => rfl
  refine F.ok sc_barriers_for (fun vs H Q E h => ?_) (fun cdv A outer s H vs Q E hr h => ?_)
  · obtain ⟨a, b, es, ws, rfl, _⟩ := h
    rfl
  · obtain ⟨a, b, es, ws, rfl, hR, hW, hT, k⟩ := h
    have nd := sc_barriers_for.nd
    refine ⟨_, PSs.nox (pss_cons (ps_expr (pe_call G_need_run (hr.mono (by decide)) rfl g_need_run F_need_run.kp b_need_run .nil pass0 (pa_cons (pv 0) (pa_nil))))
      (pss_cons (ps_expr (pe_call G_need_waits (hr.mono (by decide)) rfl g_need_waits F_need_waits.kp b_need_waits .nil pass0 (pa_cons (pv 0) (pa_cons (pv 1) (pa_nil)))))
      (pss_one (ps_ret (pe_call G_ends_of (hr.mono (by decide)) rfl g_ends_of F_ends_of.kp b_ends_of .nil pass0 (pa_cons (pe_call G_broken_waits (hr.mono (by decide)) rfl g_broken_waits F_broken_waits.kp b_broken_waits .nil pass0 (pa_cons (pv 0) (pa_cons (pv 1) (pa_nil)))) (pa_nil))))))), ?_⟩
    refine ⟨_, rfl, a, es, rfl, hR, fun G1 s1 => ⟨_, rfl, _, rfl, a, b, es, ws, rfl, hR.same s1, hW.same s1, fun G2 s2 => ?_⟩⟩
    have s12 := s1.trans s2
    refine ⟨_, rfl, _, rfl, a, b, es, ws, rfl, hR.same s12, hW.same s12, fun q G s nq hq => ?_⟩
    have s123 := s12.trans s
    refine ⟨q, _, rfl, hq, (by have := List.length_filter_le (fun w => decide (ahead es w.1 = ahead es w.2)) ws; have := hW.len; unfold brokenL; omega), tabs_same s123 hT, fun r G' e T' nr hr' => ?_⟩
    exact k r G' ((ExtN.of s123).trans e) T' (NewN.back (ExtN.of s123) nr) hr'
abbrev s_need_two_runs : Stmt := top 31
abbrev N_need_two_runs : List Str := ["one", "waits", "other", "late"]
theorem sc_need_two_runs : FnScope N_need_two_runs ["one", "waits", "other", "late"] (defScope s_need_two_runs) := ⟨rfl, rfl, rfl, by decide +kernel, rfl, by decide +kernel, by decide +kernel⟩
theorem ok_need_two_runs {f : Addr} {fd : FuncData} (F : FnP K "need_two_runs" s_need_two_runs f fd) (Z : FreeS mg)
    {f_need_bare_run : Addr} {d_need_bare_run : FuncData} (g_need_bare_run : mg "need_bare_run" = some (.ref f_need_bare_run)) (F_need_bare_run : FnP K "need_bare_run" s_need_bare_run f_need_bare_run d_need_bare_run) (G_need_bare_run : FnOk P w K mg base CX0 5 f_need_bare_run d_need_bare_run ["run"] (spNeedBare K))
    {f_need_waits : Addr} {d_need_waits : FuncData} (g_need_waits : mg "need_waits" = some (.ref f_need_waits)) (F_need_waits : FnP K "need_waits" s_need_waits f_need_waits d_need_waits) (G_need_waits : FnOk P w K mg base CX0 6 f_need_waits d_need_waits ["run", "waits"] (spNeedWaits K)) :
    FnOk P w K mg base CX0 7 f fd ["one", "waits", "other", "late"] (spNeedTwo K) := by
  have b_need_bare_run : Binds K d_need_bare_run ["run"] [] := F_need_bare_run.bindsN fun _ _ _ _ _ _ us hl => match us, hl with | [_], _ => rfl
  have b_need_waits : Binds K d_need_waits ["run", "waits"] [] := F_need_waits.bindsN fun _ _ _ _ _ _ us hl => match us, hl with | [_, _], _ => rfl
  refine F.ok sc_need_two_runs (fun vs H Q E h => ?_) (fun cdv A outer s H vs Q E hr h => ?_)
  · obtain ⟨a, b, c, d, one, other, ws, us, rfl, _⟩ := h
    rfl
  · obtain ⟨a, b, c, d, one, other, ws, us, rfl, hA, nA, hW, hC, nC, hU, k⟩ := h
    have nd := sc_need_two_runs.nd
    refine ⟨_, PSs.nox (pss_cons (ps_expr (pe_call G_need_bare_run (hr.mono (by decide)) rfl g_need_bare_run F_need_bare_run.kp b_need_bare_run .nil pass0 (pa_cons (pv 0) (pa_nil))))
      (pss_cons (ps_expr (pe_call G_need_waits (hr.mono (by decide)) rfl g_need_waits F_need_waits.kp b_need_waits .nil pass0 (pa_cons (pv 0) (pa_cons (pv 1) (pa_nil)))))
      (pss_cons (ps_expr (pe_call G_need_bare_run (hr.mono (by decide)) rfl g_need_bare_run F_need_bare_run.kp b_need_bare_run .nil pass0 (pa_cons (pv 2) (pa_nil))))
      (pss_one (ps_expr (pe_call G_need_waits (hr.mono (by decide)) rfl g_need_waits F_need_waits.kp b_need_waits .nil pass0 (pa_cons (pv 2) (pa_cons (pv 3) (pa_nil))))))))), ?_⟩
    refine ⟨_, rfl, a, one, rfl, hA, nA, fun G1 s1 => ?_⟩
    refine ⟨_, rfl, _, rfl, a, b, one, ws, rfl, hA.same s1, hW.same s1, fun G2 s2 => ?_⟩
    have s12 := s1.trans s2
    refine ⟨_, rfl, c, other, rfl, hC.same s12, nC, fun G3 s3 => ?_⟩
    have s13 := s12.trans s3
    refine ⟨_, rfl, _, rfl, c, d, other, us, rfl, hC.same s13, hU.same s13, fun G4 s4 => ?_⟩
    exact k _ (s13.trans s4)
abbrev s_is_order : Stmt := top 25
abbrev N_is_order : List Str := ["one", "other", "value", "turn"]
theorem sc_is_order : FnScope N_is_order ["one", "other", "value"] (defScope s_is_order) := ⟨rfl, rfl, rfl, by decide +kernel, rfl, by decide +kernel, by decide +kernel⟩
theorem ok_is_order {f : Addr} {fd : FuncData} (F : FnP K "is_order" s_is_order f fd) (Z : FreeS mg)
    {f_is_count_below : Addr} {d_is_count_below : FuncData} (g_is_count_below : mg "is_count_below" = some (.ref f_is_count_below)) (F_is_count_below : FnP K "is_count_below" s_is_count_below f_is_count_below d_is_count_below) (G_is_count_below : FnOk P w K mg base CX0 3 f_is_count_below d_is_count_below ["value", "bound"] (spBelow K)) :
    FnOk P w K mg base CX0 4 f fd ["one", "other", "value"] (spIsOrder K) := by
  have b_is_count_below : Binds K d_is_count_below ["value", "bound"] [] := F_is_count_below.bindsN fun _ _ _ _ _ _ us hl => match us, hl with | [_, _], _ => rfl
  refine F.ok sc_is_order (fun vs H Q E h => ?_) (fun cdv A outer s H vs Q E hr h => ?_)
  · obtain ⟨a, c, x, one, other, d, m, rfl, _⟩ := h
    rfl
  · obtain ⟨a, c, x, one, other, d, m, rfl, hA, hC, hx, k⟩ := h
    have hu := room65 hr
    have nd := sc_is_order.nd
    refine ⟨_, PSs.nox (pss_cons (ps_if (PW.pt (pw_or (pt_not (pt_val (pe_callB call_isi (by rfl) Z.isi (by decide +kernel) (pa_cons (pv 2) (pa_cons (pe_bltn (v := .ty "list") (by rfl) Z.tlist (by decide +kernel) rfl) pa_nil))))) (pw_or1 (pt_not (pt_val (pe_callB (cr_all rfl) (by rfl) Z.all (by decide +kernel) (pa_cons (pe_lc (own := [("turn", 3)]) (g := gName 3) (tt := tYes) (te := tCall (spBelow K) [] E0 (tCons (tVar 3) (tCons (tC (.int 2)) (tNil)))) (by rfl) nd (pi_list (pv 2))
          (blkOk_by (own := [("turn", 3)]) (N := N_is_order) (sc := defScope s_is_order) (by decide +kernel)) (fun _ _ _ _ _ => pg_name (i := 3) nd rfl (Or.inl rfl)) (fun _ _ _ _ _ => pts_nil)
          (fun _ _ _ _ _ => pe_call G_is_count_below (hr.mono (by decide)) rfl g_is_count_below F_is_count_below.kp b_is_count_below .nil pass0 (pa_cons (pv 3) (pa_cons (pe_int) (pa_nil))))) (pa_nil)))))))) (pss_one (ps_ret (pe_bl))) (pss_nil))
      (pss_one (ps_ret (pe_and (pe_cmpR op_eq (pe_bm PySem.F.plainAttrs_list PySem.F.slot_list_count PySem.F.type_list_count (mt_countD hu) (pv 2) (pa_cons (pe_int) (pa_nil))) (pe_callB call_len_seq (by rfl) Z.len (by decide +kernel) (pa_cons (pv 0) (pa_nil))) (nomark _)) (pe_one (pe_cmpR op_eq (pe_bm PySem.F.plainAttrs_list PySem.F.slot_list_count PySem.F.type_list_count (mt_countD hu) (pv 2) (pa_cons (pe_int) (pa_nil))) (pe_callB call_len_seq (by rfl) Z.len (by decide +kernel) (pa_cons (pv 1) (pa_nil))) (nomark _))))))), ?_⟩
    obtain ⟨ta, ha, lta, _⟩ := hA.at_.got
    obtain ⟨tc, hc, ltc, _⟩ := hC.at_.got
    rcases td_cs hx with ⟨rfl, rfl⟩ | ⟨b, rfl, rfl⟩ | ⟨i, rfl, rfl⟩ | ⟨z, rfl, rfl⟩ | ⟨b, xs, ds, rfl, hb, rfl, lx, l1, kx⟩ | ⟨b, xs, ds, rfl, hb, rfl, _⟩ | ⟨b, ps, m, rfl, hb, rfl⟩
    · exact ⟨_, rfl, _, .ty "list", .type "NoneType", .type "list", false, rfl, .ty _, .base .non, kit_ty (by decide +kernel), false, rfl, iteT (iteT (k H (Same.refl _)))⟩
    · exact ⟨_, rfl, _, .ty "list", .type "bool", .type "list", false, rfl, .ty _, .base (.bl b), kit_ty (by decide +kernel), false, rfl, iteT (iteT (k H (Same.refl _)))⟩
    · exact ⟨_, rfl, _, .ty "list", .type "int", .type "list", false, rfl, .ty _, .base (.int i), kit_ty (by decide +kernel), false, rfl, iteT (iteT (k H (Same.refl _)))⟩
    · exact ⟨_, rfl, _, .ty "list", .type "str", .type "list", false, rfl, .ty _, .base (.str z), kit_ty (by decide +kernel), false, rfl, iteT (iteT (k H (Same.refl _)))⟩
    · refine ⟨_, rfl, .ref b, .ty "list", .type "list", .type "list", true, rfl, .ty _, .base (.lst hb), kit_ty (by decide +kernel), true, rfl, iteF ?_⟩
      refine ⟨_, rfl, b, rfl, ⟨_, SqL.of hb⟩, fun D hD => ?_⟩
      refine lc_sel (n := ds.length) (by have := walk_list (K := K) (a := b) (xs := xs); rw [lx] at this; exact this) (fun i => some (.bl (belB 2 (ds.getD i .none)))) (by omega) hD (fun H2 s2 => SqL.of (s2 _ _ hb)) ?_ ?_
      · rintro i v H2 H3 Qy Qn hi sH ⟨rfl, hv⟩ ky kn
        have ed : ds[i]? = some (ds.getD i .none) := by
          rw [List.getD_eq_getElem?_getD, List.getElem?_eq_getElem hi]
          rfl
        exact ⟨rfl, _, rfl, v, _, m - 1, 2, rfl, (kx i v _ hv ed).same sH, ky _ _ (Same.refl _) rfl⟩
      · intro H2 s2 hR2
        have hB := all_bl' (K := K) hR2
        refine ⟨D, _, rfl, hB, ?_⟩
        have eb : (((List.range ds.length).map fun i => belB 2 (ds.getD i .none)).all id) = ds.all (belB 2) := by
          rw [List.all_map, Bool.eq_iff_iff, List.all_eq_true, List.all_eq_true]
          constructor
          · intro h e he
            obtain ⟨i, hi, rfl⟩ := List.getElem_of_mem he
            have := h i (List.mem_range.mpr hi)
            rw [show (id ∘ fun i => belB 2 (ds.getD i .none)) i = belB 2 (ds.getD i .none) from rfl, List.getD_eq_getElem?_getD, List.getElem?_eq_getElem hi] at this
            exact this
          · intro h i hi
            have hi := List.mem_range.mp hi
            show belB 2 (ds.getD i .none) = true
            rw [List.getD_eq_getElem?_getD, List.getElem?_eq_getElem hi]
            exact h _ (List.getElem_mem hi)
        rw [eb]
        have ew : ordB one.length other.length (.list ds) = (ds.all (belB 2) && (decide ((ds.map toN).count 0 = one.length) && decide ((ds.map toN).count 1 = other.length))) := rfl
        cases qa : ds.all (belB 2) with
        | false =>
          rw [ew, qa, Bool.false_and] at k
          exact ⟨_, rfl, iteT (k _ s2)⟩
        | true =>
          rw [ew, qa, Bool.true_and] at k
          obtain ⟨o, rfl, _⟩ := bel_all qa
          obtain rfl := td_nums lx kx
          rw [dN_toN] at k
          have hb2 := s2 _ _ hb
          refine ⟨_, rfl, iteF ?_⟩
          have c0 : ((dN o).countP fun z => PyData.eqv z (.int 0)) = o.count 0 := count_nums o 0
          have c1 : ((dN o).countP fun z => PyData.eqv z (.int 1)) = o.count 1 := count_nums o 1
          refine ⟨_, rfl, Or.inl ⟨rfl, _, SqL.of hb2⟩, b, _, .int 0, _, rfl, rfl, dp_nums hb2, .int _, shaped_nums _, rfl, ?_⟩
          rw [c0]
          refine ⟨_, rfl, a, _, rfl, .inl (SqL.of (s2 _ _ ha)), rfl, _, rfl, ?_⟩
          rw [List.length_map, lta]
          by_cases q0 : o.count 0 = one.length
          · rw [decide_eq_true q0, Bool.true_and] at k
            refine iteP (by rw [q0]) ?_
            refine ⟨_, rfl, Or.inl ⟨rfl, _, SqL.of hb2⟩, b, _, .int 1, _, rfl, rfl, dp_nums hb2, .int _, shaped_nums _, rfl, ?_⟩
            rw [c1]
            refine ⟨_, rfl, c, _, rfl, .inl (SqL.of (s2 _ _ hc)), rfl, ?_⟩
            rw [List.length_map, ltc]
            have e : decide (V.int ((o.count 1 : Nat) : Int) = V.int (other.length : Int)) = decide (o.count 1 = other.length) := by
              rw [decide_eq_decide]
              exact ⟨fun z => by have := V.int.inj z; omega, fun z => by rw [z]⟩
            rw [e]
            exact k _ s2
          · rw [decide_eq_false q0, Bool.false_and] at k
            exact iteQ (fun z => q0 (by have := V.int.inj z; omega)) (k _ s2)
    · exact ⟨_, rfl, _, .ty "list", .type "tuple", .type "list", false, rfl, .ty _, sqT_ty hb, kit_ty (by decide +kernel), false, rfl, iteT (iteT (k H (Same.refl _)))⟩
    · exact ⟨_, rfl, _, .ty "list", .type "dict", .type "list", false, rfl, .ty _, .base (.dK hb), kit_ty (by decide +kernel), false, rfl, iteT (iteT (k H (Same.refl _)))⟩
abbrev s_need_order : Stmt := top 26
abbrev N_need_order : List Str := ["one", "other", "order"]
theorem sc_need_order : FnScope N_need_order ["one", "other", "order"] (defScope s_need_order) := ⟨rfl, rfl, rfl, by decide +kernel, rfl, by decide +kernel, by decide +kernel⟩
theorem ok_need_order {f : Addr} {fd : FuncData} (F : FnP K "need_order" s_need_order f fd) (Z : FreeS mg)
    {f_is_order : Addr} {d_is_order : FuncData} (g_is_order : mg "is_order" = some (.ref f_is_order)) (F_is_order : FnP K "is_order" s_is_order f_is_order d_is_order) (G_is_order : FnOk P w K mg base CX0 4 f_is_order d_is_order ["one", "other", "value"] (spIsOrder K)) :
    FnOk P w K mg base CX0 5 f fd ["one", "other", "order"] (spNeedOrder K) := by
  have b_is_order : Binds K d_is_order ["one", "other", "value"] [] := F_is_order.bindsN fun _ _ _ _ _ _ us hl => match us, hl with | [_, _, _], _ => rfl
  refine F.ok sc_need_order (fun vs H Q E h => ?_) (fun cdv A outer s H vs Q E hr h => ?_)
  · obtain ⟨a, c, q, one, other, o, rfl, _⟩ := h
    rfl
  · obtain ⟨a, c, q, one, other, o, rfl, hA, hC, hq, ho, k⟩ := h
    have nd := sc_need_order.nd
    refine ⟨_, PSs.nox (pss_one (ps_if (pt_not (pt_val (pe_call G_is_order (hr.mono (by decide)) rfl g_is_order F_is_order.kp b_is_order .nil pass0 (pa_cons (pv 0) (pa_cons (pv 1) (pa_cons (pv 2) (pa_nil))))))) (pss_one (ps_dead)) (pss_nil))), ?_⟩
    have lo := ho.len
    have la := hA.len
    have lc := hC.len
    refine ⟨_, rfl, _, rfl, _, rfl, a, c, .ref q, one, other, .list (dN o), 1, rfl, hA, hC, nums_td 0 hq (by omega), fun H1 s1 => ⟨true, ?_, iteF (k H1 s1)⟩⟩
    rw [ordB_of ho]
abbrev s_places_by : Stmt := top 27
abbrev N_places_by : List Str := ["order", "turn", "place", "taken"]
theorem sc_places_by : FnScope N_places_by ["order", "turn"] (defScope s_places_by) := ⟨rfl, rfl, rfl, by decide +kernel, rfl, by decide +kernel, by decide +kernel⟩
theorem ok_places_by {f : Addr} {fd : FuncData} (F : FnP K "places_by" s_places_by f fd) (Z : FreeS mg) :
    FnOk P w K mg base CX0 1 f fd ["order", "turn"] (spPlBy K) := by
  refine F.ok sc_places_by (fun vs H Q E h => ?_) (fun cdv A outer s H vs Q E hr h => ?_)
  · obtain ⟨q, o, t, rfl, _⟩ := h
    rfl
  · obtain ⟨q, o, t, rfl, hq, lo, k⟩ := h
    have nd := sc_places_by.nd
    refine ⟨_, PSs.nox (pss_one (ps_ret (pe_lc (own := [("place", 2), ("taken", 3)]) (g := gTup K 2 (gCons (gName 2) (gCons (gName 3) (gNil)))) (tt := tTest (tOp rEq (tVar 3) (tVar 1))) (te := tVar 2) (by rfl) nd (pi_enum (by rfl) Z.enumerate (pa_cons (pv 0) (pa_nil)))
          (blkOk_by (own := [("place", 2), ("taken", 3)]) (N := N_places_by) (sc := defScope s_places_by) (by decide +kernel)) (fun _ _ _ _ _ => pg_tup rfl (pgs_cons (pg_name (i := 2) nd rfl (Or.inl rfl)) (pgs_cons (pg_name (i := 3) nd rfl (Or.inl rfl)) (pgs_nil)))) (fun _ _ _ _ _ => pts_one (pt_cmpR op_eq (pv 3) (pv 1) (nomark _)))
          (fun _ _ _ _ _ => pv 2)))), ?_⟩
    refine ⟨_, rfl, q, _, rfl, SqL.of hq, fun D hD => ?_⟩
    refine lc_sel (n := o.length) (by have := walk_enum (K := K) (a := q) (xs := numsV o); rw [nums_len] at this; exact this) (fun i => if o[i]? = some t then some (.int (i : Int)) else none) (by omega) hD (fun H2 s2 => SqL.of (s2 _ _ hq)) ?_ ?_
    · rintro i v H2 H3 Qy Qn hi sH ⟨T2, x1, x2, rfl, nT, rfl, g1, g2⟩ ky kn
      dsimp only at g1 g2
      obtain rfl := Option.some.inj g1
      obtain ⟨x, ex, rfl⟩ := nums_get g2
      have sT : Same H2 (upd H2 T2 (.tup [.int (i : Nat), .int (x : Int)])) := Same.updf nT
      refine ⟨T2, [_, _], rfl, .inl (.inl upd_same), rfl, _, [_], rfl, _, [], rfl, rfl, ?_⟩
      refine ⟨rfl, ?_⟩
      by_cases h : x = t
      · subst h
        refine ⟨_, rfl, _, rfl, rfl, _, rfl, iteP rfl ⟨_, rfl, ky _ _ sT (if_pos ex)⟩⟩
      · refine ⟨_, rfl, _, rfl, rfl, _, rfl, iteQ (fun z => h (by have := V.int.inj z; omega)) (kn _ sT (if_neg (fun z => h (by rw [ex] at z; exact Option.some.inj z))))⟩
    · intro H2 s2 hR2
      refine k D H2 s2 hD (hR2.trans (congrArg (fun l => some (HO.lst l)) ?_))
      unfold plc numsV
      rw [← List.filterMap_eq_filter, List.map_filterMap]
      refine fm_congr fun i _ => ?_
      show _ = Option.map _ (Option.guard _ i)
      unfold Option.guard
      by_cases h : o[i]? = some t
      · rw [if_pos h, if_pos (decide_eq_true h)]
        rfl
      · rw [if_neg h, if_neg (fun z => h (of_decide_eq_true z))]
        rfl
end
end K19
set_option Elab.async false
set_option linter.all false
set_option maxRecDepth 100000
set_option maxHeartbeats 8000000
/-! The woven run, and its waits. -/
namespace K19
open PySem PySem.Spec PyProof.Rows L2 KB LamX
def spWoven (K : PySem.W.Frag) : Sp := fun vs H Q _ => ∃ (a c q : Addr) (one other : List Ev) (o : List Nat), vs = [.ref a, .ref c, .ref q] ∧ RunOk K H a one ∧ Ev.bar ∉ one ∧ RunOk K H c other ∧ Ev.bar ∉ other ∧ H q = some (.lst (numsV o)) ∧ Ord one.length other.length o ∧
  ∀ r H', Same H H' → H r = none → RunAt K H' r (wvn one other o) → Q (.ref r) H'
def spMoved (K : PySem.W.Frag) : Sp := fun vs H Q _ => ∃ (b d q : Addr) (n m : Nat) (ws us : List (Nat × Nat)) (o : List Nat), vs = [.ref b, .ref d, .ref q] ∧ WtAt K H b ws ∧ WtAt K H d us ∧ Ins n ws ∧ Ins m us ∧ ws.length ≤ 1000 ∧ us.length ≤ 1000 ∧ H q = some (.lst (numsV o)) ∧ Ord n m o ∧ n ≤ 100 ∧ m ≤ 100 ∧
  ∀ r H', Same H H' → H r = none → WtAt K H' r (moved o ws us) → Q (.ref r) H'
def spWaitsW (K : PySem.W.Frag) : Sp := fun vs H Q _ => ∃ (a b c d q : Addr) (one other : List Ev) (ws us : List (Nat × Nat)) (o : List Nat), vs = [.ref a, .ref b, .ref c, .ref d, .ref q] ∧ RunOk K H a one ∧ Ev.bar ∉ one ∧ WtOk K H b one ws ∧ RunOk K H c other ∧ Ev.bar ∉ other ∧ WtOk K H d other us ∧ H q = some (.lst (numsV o)) ∧ Ord one.length other.length o ∧
  ∀ r H', Same H H' → H r = none → WtAt K H' r (moved o ws us) → Q (.ref r) H'
theorem rep_flat {x : V} : ∀ k : Nat, (List.replicate k [x]).flatten = List.replicate k x
  | 0 => rfl
  | k + 1 => by rw [List.replicate_succ, List.flatten_cons, rep_flat k, List.replicate_succ]; rfl
theorem LsT.rep {K : PySem.W.Frag} {α : Type} {vv : α → List V} {G : Hp} {q t : Addr} {x : α} {n : Nat} (h : G q = some (.lst (List.replicate n (.ref t)))) (ht : SqT K G t (vv x)) : LsT K vv G q (List.replicate n x) := by
  refine ⟨List.replicate n t, by rw [h, List.map_replicate], by rw [List.length_replicate, List.length_replicate], fun i u y e1 e2 => ?_⟩
  rw [List.getElem?_replicate] at e1 e2
  by_cases c : i < n
  · rw [if_pos c] at e1 e2
    cases e1
    cases e2
    exact ht
  · rw [if_neg c] at e1
    cases e1
/-- pairs in the order of the tuples -/
def sortP (ws : List (Nat × Nat)) : List (Nat × Nat) := ws.mergeSort fun u v => decide (u.1 < v.1 ∨ (u.1 = v.1 ∧ u.2 ≤ v.2))
def iv (w : Nat × Nat) : List Int := [(w.1 : Int), (w.2 : Int)]
theorem sortT_iv (ws : List (Nat × Nat)) : sortT (ws.map iv) = (sortP ws).map iv := by
  unfold sortT sortP
  rw [List.map_mergeSort (s := fun a b => PySem.W.dataLe false intsD a b)]
  intro u _ v _
  have e := congrFun (congrFun (PySem.W.dataLe_ii (fun w : Nat × Nat => (w.1 : Int)) (fun w : Nat × Nat => (w.2 : Int))) u) v
  have e2 : PySem.W.dataLe false intsD (iv u) (iv v) = PySem.W.dataLe false (fun b : Nat × Nat => .tuple [.int (b.1 : Int), .int (b.2 : Int)]) u v := rfl
  rw [e2, e, decide_eq_decide]
  omega
theorem sortP_asc {ws : List (Nat × Nat)} (nd : ws.Nodup) : (sortP ws).Pairwise lexP := by
  have h1 : (sortP ws).Pairwise fun u v => u.1 < v.1 ∨ (u.1 = v.1 ∧ u.2 ≤ v.2) := by
    have h := List.pairwise_mergeSort (le := fun u v : Nat × Nat => decide (u.1 < v.1 ∨ (u.1 = v.1 ∧ u.2 ≤ v.2))) (fun a b c h1 h2 => by
      simp only [decide_eq_true_eq] at *
      omega) (fun a b => by
      simp only [Bool.or_eq_true, decide_eq_true_eq]
      omega) ws
    exact h.imp fun h => of_decide_eq_true h
  have h2 : (sortP ws).Nodup := (List.mergeSort_perm ws _).nodup_iff.mpr nd
  refine (h1.and (List.nodup_iff_pairwise_ne.mp h2)).imp fun {u v} h => ?_
  obtain ⟨h, n⟩ := h
  rcases h with h | ⟨e, h⟩
  · exact .inl h
  · refine .inr ⟨e, ?_⟩
    rcases Nat.lt_or_ge u.2 v.2 with c | c
    · exact c
    · exact absurd (Prod.ext e (by omega)) n
theorem sortP_mem {ws : List (Nat × Nat)} {w : Nat × Nat} : w ∈ sortP ws ↔ w ∈ ws := List.mem_mergeSort
theorem paired_len {α β : Type} {R : α → β → Prop} : ∀ {xs : List α} {ys : List β}, Paired R xs ys → xs.length = ys.length
  | _, _, .nil => rfl
  | _, _, .cons _ t => congrArg (· + 1) (paired_len t)
theorem ixN_nat' {n j : Nat} (hj : j < n) : ixN n (j : Int) = some j := by
  unfold ixN
  rw [if_pos (by omega), if_pos (by omega)]
  simp
theorem plc_get {o : List Nat} {t k : Nat} (h : k < o.count t) : (numsV (plc o t))[k]? = some (.int (pl o t k : Int)) := nums_at (pl_mem h).2.2.2
section
variable {P : Program} {w : World} {K : PySem.W.Frag} {mg : Str → Option Value} {base : Heap}
abbrev s_woven : Stmt := top 28
abbrev N_woven : List Str := ["one", "other", "order", "events", "turn", "run", "place", "event"]
theorem sc_woven : FnScope N_woven ["one", "other", "order"] (defScope s_woven) := ⟨rfl, rfl, rfl, by decide +kernel, rfl, by decide +kernel, by decide +kernel⟩
theorem ok_woven {f : Addr} {fd : FuncData} (F : FnP K "woven" s_woven f fd) (Z : FreeS mg)
    {f_need_bare_run : Addr} {d_need_bare_run : FuncData} (g_need_bare_run : mg "need_bare_run" = some (.ref f_need_bare_run)) (F_need_bare_run : FnP K "need_bare_run" s_need_bare_run f_need_bare_run d_need_bare_run) (G_need_bare_run : FnOk P w K mg base CX0 5 f_need_bare_run d_need_bare_run ["run"] (spNeedBare K))
    {f_need_order : Addr} {d_need_order : FuncData} (g_need_order : mg "need_order" = some (.ref f_need_order)) (F_need_order : FnP K "need_order" s_need_order f_need_order d_need_order) (G_need_order : FnOk P w K mg base CX0 5 f_need_order d_need_order ["one", "other", "order"] (spNeedOrder K))
    {f_places_by : Addr} {d_places_by : FuncData} (g_places_by : mg "places_by" = some (.ref f_places_by)) (F_places_by : FnP K "places_by" s_places_by f_places_by d_places_by) (G_places_by : FnOk P w K mg base CX0 1 f_places_by d_places_by ["order", "turn"] (spPlBy K)) :
    FnOk P w K mg base CX0 6 f fd ["one", "other", "order"] (spWoven K) := by
  have b_need_bare_run : Binds K d_need_bare_run ["run"] [] := F_need_bare_run.bindsN fun _ _ _ _ _ _ us hl => match us, hl with | [_], _ => rfl
  have b_need_order : Binds K d_need_order ["one", "other", "order"] [] := F_need_order.bindsN fun _ _ _ _ _ _ us hl => match us, hl with | [_, _, _], _ => rfl
  have b_places_by : Binds K d_places_by ["order", "turn"] [] := F_places_by.bindsN fun _ _ _ _ _ _ us hl => match us, hl with | [_, _], _ => rfl
  refine F.ok sc_woven (fun vs H Q E h => ?_) (fun cdv A outer s H vs Q E hr h => ?_)
  · obtain ⟨a, c, q, one, other, o, rfl, _⟩ := h
    rfl
  · obtain ⟨a, c, q, one, other, o, rfl, hA, nA, hC, nC, hq, ho, k⟩ := h
    have lo := ho.len
    have la := hA.len
    have lc := hC.len
    have sl : (3000 : Nat) ≤ sizeLine := by decide
    have nd := sc_woven.nd
    refine ⟨_, PSs.nox (pss_cons (ps_expr (pe_call G_need_bare_run (hr.mono (by decide)) rfl g_need_bare_run F_need_bare_run.kp b_need_bare_run .nil pass0 (pa_cons (pv 0) (pa_nil))))
      (pss_cons (ps_expr (pe_call G_need_bare_run (hr.mono (by decide)) rfl g_need_bare_run F_need_bare_run.kp b_need_bare_run .nil pass0 (pa_cons (pv 1) (pa_nil))))
      (pss_cons (ps_expr (pe_call G_need_order (hr.mono (by decide)) rfl g_need_order F_need_order.kp b_need_order .nil pass0 (pa_cons (pv 0) (pa_cons (pv 1) (pa_cons (pv 2) (pa_nil))))))
      (pss_cons (ps_set (i := 3) nd rfl (Or.inl rfl) (pe_op op_rep (pe_lst (pa_cons (pe_tup (pa_cons (pe_str) (pa_nil))) (pa_nil))) (pe_callB call_len_seq (by rfl) Z.len (by decide +kernel) (pa_cons (pv 2) (pa_nil)))))
      (pss_cons (ps_for PassesOwn.never rfl (pi_enum (by rfl) Z.enumerate (pa_cons (pe_lst (pa_cons (pv 0) (pa_cons (pv 1) (pa_nil)))) (pa_nil))) (pg_tup rfl (pgs_cons (pg_name (i := 4) nd rfl (Or.inl rfl)) (pgs_cons (pg_name (i := 5) nd rfl (Or.inl rfl)) (pgs_nil))))
        (pss_one (ps_for PassesOwn.never rfl (pi_zip (by rfl) Z.zip (pa_cons (pe_call G_places_by (hr.mono (by decide)) rfl g_places_by F_places_by.kp b_places_by .nil pass0 (pa_cons (pv 2) (pa_cons (pv 4) (pa_nil)))) (pa_cons (pv 5) (pa_nil)))) (pg_tup rfl (pgs_cons (pg_name (i := 6) nd rfl (Or.inl rfl)) (pgs_cons (pg_name (i := 7) nd rfl (Or.inl rfl)) (pgs_nil))))
        (pss_one (ps_asg (pv 7) (pg_sub (pv 3) (pv 6) set_list))))))
      (pss_one (ps_ret (pv 3)))))))), ?_⟩
    refine ⟨_, rfl, a, one, rfl, hA, nA, fun G1 s1 => ?_⟩
    refine ⟨_, rfl, c, other, rfl, hC.same s1, nC, fun G2 s2 => ?_⟩
    have s12 := s1.trans s2
    refine ⟨_, rfl, _, rfl, _, rfl, a, c, q, one, other, o, rfl, hA.same s12, hC.same s12, s12 _ _ hq, ho, fun G3 s3 => ?_⟩
    have s13 := s12.trans s3
    clear s1 s2 s12 s3
    have hA0 := hA
    have hC0 := hC
    have hA := hA.same s13
    have hC := hC.same s13
    have hq := s13 _ _ hq
    refine via_nx ?_
    refine ⟨(by show 1 ≤ sizeLine; omega), fun t0 ht0 => ⟨(by show 1 ≤ sizeLine; omega), fun b0 hb0 => ?_⟩⟩
    have x0 := Same.updf (o := .tup [V.str "tell"]) ht0
    have x1 := Same.updf (o := .lst [V.ref t0]) hb0
    have x01 := x0.trans x1
    refine ⟨_, rfl, q, _, rfl, .inl (SqL.of (x01 _ _ hq)), b0, _, _, rfl, rfl, upd_same, by omega, by rw [nums_len]; omega, by rw [List.length_singleton, nums_len]; omega, fun D hD => ?_⟩
    rw [nums_len, Int.toNat_natCast, rep_flat]
    have x2 := Same.updf (o := .lst (List.replicate o.length (V.ref t0))) hD
    have x02 := x01.trans x2
    have hD3 : G3 D = none := none_back x01 hD
    have hRD := LsT.rep (K := K) (vv := Ev.v) (x := Ev.tell) (n := o.length) (upd_same (H := upd (upd G3 t0 (.tup [V.str "tell"])) b0 (.lst [V.ref t0])) (a := D) (o := .lst (List.replicate o.length (V.ref t0)))) (SqT.of ((x1.trans x2) _ _ upd_same))
    rw [← ewL_zero one other o] at hRD
    obtain ⟨G4, eG⟩ : ∃ X, X = upd (upd (upd G3 t0 (.tup [V.str "tell"])) b0 (.lst [V.ref t0])) D (.lst (List.replicate o.length (V.ref t0))) := ⟨_, rfl⟩
    rw [← eG] at hRD x02 ⊢
    clear eG x0 x1 x2 x01 hb0 ht0 hD
    refine ⟨_, rfl, _, rfl, (by show 2 ≤ sizeLine; omega), fun e he => ?_⟩
    have x3 := Same.updf (o := .lst [V.ref a, V.ref c]) he
    have he5 := upd_same (H := G4) (a := e) (o := .lst [V.ref a, V.ref c])
    have neD : e ≠ D := fun z => by
      obtain ⟨_, h, _⟩ := hRD.ex
      rw [z, h] at he
      cases he
    have hRD := hRD.same x3
    have s5 := x02.trans x3
    obtain ⟨G5, eG⟩ : ∃ X, X = upd G4 e (.lst [V.ref a, V.ref c]) := ⟨_, rfl⟩
    rw [← eG] at hRD he5 s5 ⊢
    clear eG x02 x3 he
    have hA := hA.same s5
    have hC := hC.same s5
    have hq5 := s5 _ _ hq
    have naD : a ≠ D := fun z => by
      obtain ⟨_, h, _⟩ := hA.at_.ex
      obtain ⟨_, h', _⟩ := hA0.at_.ex
      have := s13 _ _ h'
      rw [z, hD3] at this
      cases this
    have ncD : c ≠ D := fun z => by
      obtain ⟨_, h', _⟩ := hC0.at_.ex
      have := s13 _ _ h'
      rw [z, hD3] at this
      cases this
    have nqD : q ≠ D := fun z => by
      rw [z, hD3] at hq
      cases hq
    have hDl : ∃ ys, G5 D = some (.lst ys) := by
      obtain ⟨ts, h, _⟩ := hRD.ex
      exact ⟨_, h⟩
    refine ⟨e, _, rfl, SqL.of he5, ?_⟩
    refine for_it (walk_enum (K := K) (a := e) (xs := [V.ref a, V.ref c])) (fun i σ G => But D G5 G ∧ RunAt K G D (ewL one other o (if i = 0 then 0 else one.length) (if i ≤ 1 then 0 else other.length)) ∧ ∃ v4 v5 v6 v7, σ = [some (.ref a), some (.ref c), some (.ref q), some (.ref D), v4, v5, v6, v7])
      ⟨But.refl _ _, hRD, none, none, none, none, rfl⟩ (fun i σ G _ hh => SqL.of (hh.1 _ _ neD he5)) ?_ ?_
    · rintro i v σ G' G hi ⟨bG, hR, v4, v5, v6, v7, rfl⟩ ⟨T, x1, x2, rfl, nT, rfl, g1, g2⟩
      dsimp only at g1 g2
      obtain rfl := Option.some.inj g1
      obtain ⟨r, es, f, rfl, hE, nrD, ci, f0, f1, fs⟩ : ∃ (r : Addr) (es : List Ev) (f : Nat → List Ev), x2 = .ref r ∧ RunOk K G5 r es ∧ r ≠ D ∧ o.count i = es.length ∧ f 0 = ewL one other o (if i = 0 then 0 else one.length) (if i ≤ 1 then 0 else other.length) ∧ f es.length = ewL one other o (if i + 1 = 0 then 0 else one.length) (if i + 1 ≤ 1 then 0 else other.length) ∧ ∀ k, k < es.length → (f k).set (pl o i k) (es.getD k .tell) = f (k + 1) ∧ (f k).length = o.length := by
        match i with
        | 0 =>
          cases g2
          exact ⟨a, one, fun k => ewL one other o k 0, rfl, hA, naD, ho.2.1, rfl, rfl, fun k hk => ⟨ewL_one (by rw [ho.2.1]; exact hk), ewL_len _ _ _ _ _⟩⟩
        | 1 =>
          cases g2
          exact ⟨c, other, fun k => ewL one other o one.length k, rfl, hC, ncD, ho.2.2, rfl, rfl, fun k hk => ⟨ewL_two (by rw [ho.2.2]; exact hk), ewL_len _ _ _ _ _⟩⟩
        | i + 2 => simp at g2
      have sT := Same.updf (o := .tup [V.int (i : Nat), V.ref r]) nT
      have bT : But D G5 (upd G' T (.tup [V.int (i : Nat), V.ref r])) := bG.trans (But.of sT)
      have hR := hR.same sT
      refine ⟨T, [_, _], rfl, SqT.of upd_same, rfl, _, [_], rfl, _, [], rfl, rfl, ?_⟩
      obtain ⟨G6, eG⟩ : ∃ X, X = upd G' T (.tup [V.int (i : Nat), V.ref r]) := ⟨_, rfl⟩
      rw [← eG] at hR bT ⊢
      clear eG sT nT bG
      refine ⟨_, rfl, _, rfl, q, o, i, rfl, bT _ _ nqD hq5, by omega, fun r1 G7 s7 nr1 hr1 => ⟨_, rfl, ?_⟩⟩
      have b7 := bT.trans (But.of s7)
      have hR := hR.same s7
      have n1D : r1 ≠ D := fun z => by
        obtain ⟨ys, h⟩ := hDl
        obtain ⟨ts, h2, _⟩ := hR.ex
        rw [z] at nr1
        obtain ⟨ts, h3, _⟩ := (‹RunAt K G6 D _›).ex
        rw [nr1] at h3
        cases h3
      obtain ⟨ts, hr5, lts, hts⟩ := hE.at_.got
      refine ⟨r1, r, _, _, rfl, SqL.of hr1, SqL.of (b7 _ _ nrD hr5), ?_⟩
      rw [← f0] at hR
      refine for_it (walk_zip (K := K) (a := r1) (b := r) (xs := numsV (plc o i)) (ys := ts.map V.ref) (n := es.length) (by rw [nums_len, plc_len, ci, List.length_map, lts]; omega)) (fun k σ G => But D G7 G ∧ RunAt K G D (f k) ∧ ∃ v6 v7, σ = [some (.ref a), some (.ref c), some (.ref q), some (.ref D), some (.int (i : Nat)), some (.ref r), v6, v7])
        ⟨But.refl _ _, hR, v6, v7, rfl⟩ (fun k σ G _ hh => ⟨SqL.of (hh.1 _ _ n1D hr1), SqL.of (hh.1 _ _ nrD (b7 _ _ nrD hr5))⟩) ?_ ?_
      · rintro k v σ Ga G hk ⟨bG, hR, v6, v7, rfl⟩ ⟨T2, y1, y2, rfl, nT2, rfl, g1, g2⟩
        dsimp only at g1 g2
        rw [plc_get (by omega)] at g1
        obtain rfl := Option.some.inj g1
        obtain ⟨t, e1, e2⟩ := hts k hk
        rw [e1] at g2
        obtain rfl := Option.some.inj g2
        have sT := Same.updf (o := .tup [V.int (pl o i k : Int), V.ref t]) nT2
        have he2 := SqT_but ((b7.trans bG).trans (But.of sT)) e2 hDl
        have ep := pl_mem (o := o) (t := i) (e := k) (by omega)
        obtain ⟨fs1, fs2⟩ := fs k hk
        have eg : es.getD k .tell = es[k] := by
          rw [List.getD_eq_getElem?_getD, List.getElem?_eq_getElem hk]
          rfl
        obtain ⟨ys, hys, lys, hset⟩ := (hR.same sT).set (t := t) (x := es.getD k .tell) (by rw [eg]; exact he2) (i := pl o i k) (by rw [fs2]; exact ep.1)
        rw [fs1] at hset
        refine ⟨T2, [_, _], rfl, SqT.of upd_same, rfl, _, [_], rfl, _, [], rfl, rfl, ?_⟩
        refine ⟨_, rfl, _, rfl, _, rfl, D, ys, _, pl o i k, rfl, rfl, hys, ixN_nat' (by rw [lys, fs2]; exact ep.1), ?_⟩
        exact ⟨(bG.trans (But.of sT)).trans But.upd', hset, _, _, rfl⟩
      · rintro σ G ⟨bG, hR, v6, v7, rfl⟩
        rw [f1] at hR
        exact ⟨b7.trans bG, hR, _, _, _, _, rfl⟩
    · rintro σ G ⟨bG, hR, v4, v5, v6, v7, rfl⟩
      refine ⟨_, rfl, k D G (fun x o' e => ?_) (none_back s13 hD3) hR⟩
      exact bG _ _ (ne_of_none (s13 _ _ e) hD3) (s5 _ _ (s13 _ _ e))
abbrev s_moved_waits : Stmt := top 29
abbrev N_moved_waits : List Str := ["waits", "late", "order", "found", "turn", "rows", "places", "before", "behind"]
theorem sc_moved_waits : FnScope N_moved_waits ["waits", "late", "order"] (defScope s_moved_waits) := ⟨rfl, rfl, rfl, by decide +kernel, rfl, by decide +kernel, by decide +kernel⟩
theorem ok_moved_waits {f : Addr} {fd : FuncData} (F : FnP K "moved_waits" s_moved_waits f fd) (Z : FreeS mg)
    {f_places_by : Addr} {d_places_by : FuncData} (g_places_by : mg "places_by" = some (.ref f_places_by)) (F_places_by : FnP K "places_by" s_places_by f_places_by d_places_by) (G_places_by : FnOk P w K mg base CX0 1 f_places_by d_places_by ["order", "turn"] (spPlBy K)) :
    FnOk P w K mg base CX0 2 f fd ["waits", "late", "order"] (spMoved K) := by
  have b_places_by : Binds K d_places_by ["order", "turn"] [] := F_places_by.bindsN fun _ _ _ _ _ _ us hl => match us, hl with | [_, _], _ => rfl
  refine F.ok sc_moved_waits (fun vs H Q E h => ?_) (fun cdv A outer s H vs Q E hr h => ?_)
  · obtain ⟨b, d, q, n, m, ws, us, o, rfl, _⟩ := h
    rfl
  · obtain ⟨b, d, q, n, m, ws, us, o, rfl, hW, hU, iw, iu, l1, l2, hq, ho, n1, m1, k⟩ := h
    have sl : (10000 : Nat) ≤ sizeLine := by decide
    have nd := sc_moved_waits.nd
    refine ⟨_, PSs.nox (pss_cons (ps_set (i := 3) nd rfl (Or.inl rfl) (pe_lst (pa_nil)))
      (pss_cons (ps_for PassesOwn.never rfl (pi_enum (by rfl) Z.enumerate (pa_cons (pe_lst (pa_cons (pv 0) (pa_cons (pv 1) (pa_nil)))) (pa_nil))) (pg_tup rfl (pgs_cons (pg_name (i := 4) nd rfl (Or.inl rfl)) (pgs_cons (pg_name (i := 5) nd rfl (Or.inl rfl)) (pgs_nil))))
        (pss_cons (ps_set (i := 6) nd rfl (Or.inl rfl) (pe_call G_places_by (hr.mono (by decide)) rfl g_places_by F_places_by.kp b_places_by .nil pass0 (pa_cons (pv 2) (pa_cons (pv 4) (pa_nil)))))
      (pss_one (ps_for PassesOwn.never rfl (pi_list (pv 5)) (pg_tup rfl (pgs_cons (pg_name (i := 7) nd rfl (Or.inl rfl)) (pgs_cons (pg_name (i := 8) nd rfl (Or.inl rfl)) (pgs_nil))))
        (pss_one (ps_expr (pe_bm PySem.F.plainAttrs_list PySem.F.slot_list_append PySem.F.type_list_append mt_append (pv 3) (pa_cons (pe_tup (pa_cons (pe_ix ix_list (pv 6) (pv 7) (fun _ _ => rfl)) (pa_cons (pe_ix ix_list (pv 6) (pv 8) (fun _ _ => rfl)) (pa_nil)))) (pa_nil)))))))))
      (pss_one (ps_ret (pe_callB ((cr_sortedT hr.units)) (by rfl) Z.sorted (by decide +kernel) (pa_cons (pv 3) (pa_nil))))))), ?_⟩
    have lo := ho.len
    refine ⟨(by show 0 ≤ sizeLine; omega), fun D hD => ?_⟩
    refine ⟨_, rfl, _, rfl, (by show 2 ≤ sizeLine; omega), fun e he => ?_⟩
    have x1 := Same.updf (o := .lst []) hD
    have x2 := Same.updf (o := .lst [V.ref b, V.ref d]) he
    have s5 := x1.trans x2
    have he5 := upd_same (H := upd H D (.lst [])) (a := e) (o := .lst [V.ref b, V.ref d])
    have hD5 := x2 _ _ (upd_same (H := H) (a := D) (o := .lst []))
    have neD : e ≠ D := fun z => by rw [z, upd_same] at he; cases he
    obtain ⟨G5, eG⟩ : ∃ X, X = upd (upd H D (.lst [])) e (.lst [V.ref b, V.ref d]) := ⟨_, rfl⟩
    rw [← eG] at s5 he5 hD5 ⊢
    clear eG x1 x2 he
    have hq5 := s5 _ _ hq
    have nqD := ne_of_none hq hD
    have nx : ∀ {x : Addr} {vs : List (Nat × Nat)}, WtAt K H x vs → x ≠ D := fun h => by
      obtain ⟨_, h', _⟩ := h.ex
      exact ne_of_none h' hD
    have nbD := nx hW
    have ndD := nx hU
    have hW := hW.same s5
    have hU := hU.same s5
    refine ⟨e, _, rfl, SqL.of he5, ?_⟩
    refine for_it (walk_enum (K := K) (a := e) (xs := [V.ref b, V.ref d])) (fun i σ G => But D G5 G ∧ (∃ (acc : List (Nat × Nat)) (ys : List V), G D = some (.lst ys) ∧ Paired (fun w y => IntsAt G (iv w) y) acc ys ∧ acc = (if i = 0 then [] else ws.map (mw o 0)) ++ (if i ≤ 1 then [] else us.map (mw o 1))) ∧ ∃ v4 v5 v6 v7 v8, σ = [some (.ref b), some (.ref d), some (.ref q), some (.ref D), v4, v5, v6, v7, v8])
      ⟨But.refl _ _, ⟨[], [], hD5, .nil, rfl⟩, none, none, none, none, none, rfl⟩ (fun i σ G _ hh => SqL.of (hh.1 _ _ neD he5)) ?_ ?_
    · rintro i v σ G' G hi ⟨bG, ⟨acc, ys, hys, py, ea⟩, v4, v5, v6, v7, v8, rfl⟩ ⟨T, x1, x2, rfl, nT, rfl, g1, g2⟩
      dsimp only at g1 g2
      obtain rfl := Option.some.inj g1
      obtain ⟨r, rs, nn, rfl, hE, nrD, ir, lr, ci, en⟩ : ∃ (r : Addr) (rs : List (Nat × Nat)) (nn : Nat), x2 = .ref r ∧ WtAt K G5 r rs ∧ r ≠ D ∧ Ins nn rs ∧ rs.length ≤ 1000 ∧ o.count i = nn ∧ acc ++ rs.map (mw o i) = (if i + 1 = 0 then [] else ws.map (mw o 0)) ++ (if i + 1 ≤ 1 then [] else us.map (mw o 1)) := by
        match i with
        | 0 =>
          cases g2
          exact ⟨b, ws, n, rfl, hW, nbD, iw, l1, ho.2.1, by rw [ea]; simp⟩
        | 1 =>
          cases g2
          exact ⟨d, us, m, rfl, hU, ndD, iu, l2, ho.2.2, by rw [ea]; simp⟩
        | i + 2 => simp at g2
      have l0 : acc.length ≤ 1000 := by
        rw [ea, List.length_append]
        match i with
        | 0 => simp
        | 1 => simp; exact l1
        | i + 2 => simp at g2
      have sT := Same.updf (o := .tup [V.int (i : Nat), V.ref r]) nT
      have bT : But D G5 (upd G' T (.tup [V.int (i : Nat), V.ref r])) := bG.trans (But.of sT)
      have pT := paired_mono (fun w y h => IntsAt.same sT h) py
      have qT := sT _ _ hys
      refine ⟨T, [_, _], rfl, SqT.of upd_same, rfl, _, [_], rfl, _, [], rfl, rfl, ?_⟩
      obtain ⟨G6, eG⟩ : ∃ X, X = upd G' T (.tup [V.int (i : Nat), V.ref r]) := ⟨_, rfl⟩
      rw [← eG] at bT pT qT ⊢
      clear eG sT nT bG py hys
      refine ⟨_, rfl, _, rfl, q, o, i, rfl, bT _ _ nqD hq5, by omega, fun r1 G7 s7 nr1 hr1 => ?_⟩
      have b7 := bT.trans (But.of s7)
      have n1D : r1 ≠ D := fun z => by
        rw [z, qT] at nr1
        cases nr1
      obtain ⟨ts, hr5, lts, hts⟩ := hE.got
      refine ⟨_, rfl, r, rfl, ⟨_, SqL.of (b7 _ _ nrD hr5)⟩, ?_⟩
      refine for_it (n := rs.length) (by have := walk_list (K := K) (a := r) (xs := ts.map V.ref); rw [List.length_map, lts] at this; exact this) (fun j σ G => But D G7 G ∧ (∃ ys : List V, G D = some (.lst ys) ∧ Paired (fun w y => IntsAt G (iv w) y) (acc ++ (rs.take j).map (mw o i)) ys) ∧ ∃ v7 v8, σ = [some (.ref b), some (.ref d), some (.ref q), some (.ref D), some (.int (i : Nat)), some (.ref r), some (.ref r1), v7, v8])
        ⟨But.refl _ _, ⟨ys, s7 _ _ qT, by rw [List.take_zero, List.map_nil, List.append_nil]; exact paired_mono (fun w y h => IntsAt.same s7 h) pT⟩, v7, v8, rfl⟩ (fun j σ G _ hh => SqL.of (hh.1 _ _ nrD (b7 _ _ nrD hr5))) ?_ ?_
      · rintro j v σ Ga G hj ⟨bG, ⟨zs, hzs, pz⟩, v7, v8, rfl⟩ ⟨rfl, hv⟩
        obtain ⟨t, e1, e2⟩ := hts j hj
        rw [e1] at hv
        obtain rfl := Option.some.inj hv
        have hw := SqT_but (b7.trans bG) e2 ⟨_, hD5⟩
        have lt := ir _ (List.getElem_mem hj)
        have lz := paired_len pz
        rw [List.length_append, List.length_map, List.length_take] at lz
        have h1G := bG _ _ n1D hr1
        refine ⟨t, [_, _], rfl, hw, rfl, _, [_], rfl, _, [], rfl, rfl, ?_⟩
        refine ⟨_, rfl, Or.inl ⟨rfl, _, SqL.of hzs⟩, _, rfl, _, rfl, r1, _, _, _, rfl, rfl, SqL.of h1G, atI_nat (plc_get (by omega)), _, rfl, _, rfl, r1, _, _, _, rfl, rfl, SqL.of h1G, atI_nat (plc_get (by omega)), (by show 2 ≤ sizeLine; omega), fun T2 hT2 => ?_⟩
        have sT := Same.updf (o := .tup [V.int (pl o i rs[j].1 : Int), V.int (pl o i rs[j].2 : Int)]) hT2
        have nTD : T2 ≠ D := fun z => by rw [z, hzs] at hT2; cases hT2
        have up : ∀ {w y x}, IntsAt (upd G T2 (.tup [V.int (pl o i rs[j].1 : Int), V.int (pl o i rs[j].2 : Int)])) (iv w) y → IntsAt (upd (upd G T2 (.tup [V.int (pl o i rs[j].1 : Int), V.int (pl o i rs[j].2 : Int)])) D (.lst x)) (iv w) y := fun {w y x} ⟨u, eu, hu⟩ => ⟨u, eu, by
          rw [upd_ne (fun z => by rw [z, sT _ _ hzs] at hu; cases hu)]
          exact hu⟩
        refine ⟨D, _, _, rfl, rfl, sT _ _ hzs, by omega, ?_⟩
        refine ⟨(bG.trans (But.of sT)).trans But.upd', ⟨_, upd_same, ?_⟩, _, _, rfl⟩
        have tk : rs.take (j + 1) = rs.take j ++ [rs[j]] := by
          rw [List.take_succ, List.getElem?_eq_getElem hj]
          rfl
        rw [tk, List.map_append, ← List.append_assoc]
        exact paired_snoc (paired_mono (fun w y h => up (IntsAt.same sT h)) pz) (up ⟨T2, rfl, upd_same⟩)
      · rintro σ G ⟨bG, ⟨zs, hzs, pz⟩, v7, v8, rfl⟩
        rw [List.take_length, en] at pz
        exact ⟨b7.trans bG, ⟨_, zs, hzs, pz, rfl⟩, _, _, _, _, _, rfl⟩
    · rintro σ G ⟨bG, ⟨acc, ys, hys, py, ea⟩, v4, v5, v6, v7, v8, rfl⟩
      have ea : acc = mvL o ws us := ea
      subst ea
      refine via_nx ?_
      have pm : Paired (IntsAt G) ((mvL o ws us).map iv) ys := paired_mapG py
      refine ⟨_, rfl, D, ys, (mvL o ws us).map iv, rfl, SqL.of hys, pm, (fun t ht => ?_), fun p zs hp pz => ?_⟩
      · obtain ⟨w, _, rfl⟩ := List.mem_map.mp ht
        exact fun z => by cases z
      · have sp := Same.updf (o := .lst zs) hp
        have sB : Same H G := fun c o e => bG _ _ (ne_of_none e hD) (s5 _ _ e)
        rw [sortT_iv] at pz
        refine k p _ (sB.trans sp) (none_back sB hp) ?_
        obtain ⟨ts', h1, h2, h3⟩ := (LsT.of_paired (K := K) (vv := fun t : List Int => t.map V.int) (upd_same (H := G) (a := p) (o := .lst zs)) (paired_mono (fun x y ⟨u, e, h⟩ => ⟨u, e, SqT.of (sp _ _ h)⟩) pz)).ex
        refine ⟨ts', h1, by rw [h2, List.length_map]; rfl, fun i u x q1 q2 => ?_⟩
        exact h3 i u (iv x) q1 (by rw [List.getElem?_map, show (sortP (mvL o ws us))[i]? = some x from q2]; rfl)
abbrev s_waits_woven : Stmt := top 30
abbrev N_waits_woven : List Str := ["one", "waits", "other", "late", "order"]
theorem sc_waits_woven : FnScope N_waits_woven ["one", "waits", "other", "late", "order"] (defScope s_waits_woven) := ⟨rfl, rfl, rfl, by decide +kernel, rfl, by decide +kernel, by decide +kernel⟩
theorem ok_waits_woven {f : Addr} {fd : FuncData} (F : FnP K "waits_woven" s_waits_woven f fd) (Z : FreeS mg)
    {f_need_two_runs : Addr} {d_need_two_runs : FuncData} (g_need_two_runs : mg "need_two_runs" = some (.ref f_need_two_runs)) (F_need_two_runs : FnP K "need_two_runs" s_need_two_runs f_need_two_runs d_need_two_runs) (G_need_two_runs : FnOk P w K mg base CX0 7 f_need_two_runs d_need_two_runs ["one", "waits", "other", "late"] (spNeedTwo K))
    {f_need_order : Addr} {d_need_order : FuncData} (g_need_order : mg "need_order" = some (.ref f_need_order)) (F_need_order : FnP K "need_order" s_need_order f_need_order d_need_order) (G_need_order : FnOk P w K mg base CX0 5 f_need_order d_need_order ["one", "other", "order"] (spNeedOrder K))
    {f_moved_waits : Addr} {d_moved_waits : FuncData} (g_moved_waits : mg "moved_waits" = some (.ref f_moved_waits)) (F_moved_waits : FnP K "moved_waits" s_moved_waits f_moved_waits d_moved_waits) (G_moved_waits : FnOk P w K mg base CX0 2 f_moved_waits d_moved_waits ["waits", "late", "order"] (spMoved K)) :
    FnOk P w K mg base CX0 8 f fd ["one", "waits", "other", "late", "order"] (spWaitsW K) := by
  have b_need_two_runs : Binds K d_need_two_runs ["one", "waits", "other", "late"] [] := F_need_two_runs.bindsN fun _ _ _ _ _ _ us hl => match us, hl with | [_, _, _, _], _ => rfl
  have b_need_order : Binds K d_need_order ["one", "other", "order"] [] := F_need_order.bindsN fun _ _ _ _ _ _ us hl => match us, hl with | [_, _, _], _ => rfl
  have b_moved_waits : Binds K d_moved_waits ["waits", "late", "order"] [] := F_moved_waits.bindsN fun _ _ _ _ _ _ us hl => match us, hl with | [_, _, _], _ => rfl
  refine F.ok sc_waits_woven (fun vs H Q E h => ?_) (fun cdv A outer s H vs Q E hr h => ?_)
  · obtain ⟨a, b, c, d, q, one, other, ws, us, o, rfl, _⟩ := h
    rfl
  · obtain ⟨a, b, c, d, q, one, other, ws, us, o, rfl, hA, nA, hW, hC, nC, hU, hq, ho, k⟩ := h
    have nd := sc_waits_woven.nd
    refine ⟨_, PSs.nox (pss_cons (ps_expr (pe_call G_need_two_runs (hr.mono (by decide)) rfl g_need_two_runs F_need_two_runs.kp b_need_two_runs .nil pass0 (pa_cons (pv 0) (pa_cons (pv 1) (pa_cons (pv 2) (pa_cons (pv 3) (pa_nil)))))))
      (pss_cons (ps_expr (pe_call G_need_order (hr.mono (by decide)) rfl g_need_order F_need_order.kp b_need_order .nil pass0 (pa_cons (pv 0) (pa_cons (pv 2) (pa_cons (pv 4) (pa_nil))))))
      (pss_one (ps_ret (pe_call G_moved_waits (hr.mono (by decide)) rfl g_moved_waits F_moved_waits.kp b_moved_waits .nil pass0 (pa_cons (pv 1) (pa_cons (pv 3) (pa_cons (pv 4) (pa_nil))))))))), ?_⟩
    refine ⟨_, rfl, _, rfl, _, rfl, _, rfl, a, b, c, d, one, other, ws, us, rfl, hA, nA, hW, hC, nC, hU, fun G1 s1 => ?_⟩
    refine ⟨_, rfl, _, rfl, _, rfl, a, c, q, one, other, o, rfl, hA.same s1, hC.same s1, s1 _ _ hq, ho, fun G2 s2 => ?_⟩
    have s12 := s1.trans s2
    refine ⟨_, rfl, _, rfl, _, rfl, b, d, q, _, _, ws, us, o, rfl, hW.at_.same s12, hU.at_.same s12, waits_ins hW.ok, waits_ins hU.ok, hW.len, hU.len, s12 _ _ hq, ho, hA.len, hC.len, fun r G3 s3 nr hr' => ?_⟩
    exact k r G3 (s12.trans s3) (none_back s12 nr) hr'
end
end K19
set_option Elab.async false
set_option linter.all false
set_option maxRecDepth 100000
set_option maxHeartbeats 8000000
/-! The best order. -/
namespace K19
open PySem PySem.Spec PyProof.Rows L2 KB LamX
def toO : PyData → List Nat
  | .list ds => ds.map toN
  | _ => []
def bestB (a b : Nat) (ws us : List (Nat × Nat)) (d : PyData) : Bool := ordB a b d && decide (least (moved (toO d) ws us) = max (least ws) (least us))
/-- two runs with their waits -/
structure Two (K : PySem.W.Frag) (H : Hp) (a b c d : Addr) (one other : List Ev) (ws us : List (Nat × Nat)) : Prop where
  A : RunOk K H a one
  nA : Ev.bar ∉ one
  W : WtOk K H b one ws
  C : RunOk K H c other
  nC : Ev.bar ∉ other
  U : WtOk K H d other us
theorem Two.ext {K : PySem.W.Frag} {H H' : Hp} {a b c d : Addr} {one other : List Ev} {ws us : List (Nat × Nat)} (k : ExtN H H') (h : Two K H a b c d one other ws us) : Two K H' a b c d one other ws us := ⟨h.A.ext k, h.nA, h.W.ext k, h.C.ext k, h.nC, h.U.ext k⟩
theorem Two.same {K : PySem.W.Frag} {H H' : Hp} {a b c d : Addr} {one other : List Ev} {ws us : List (Nat × Nat)} (k : Same H H') (h : Two K H a b c d one other ws us) : Two K H' a b c d one other ws us := h.ext (ExtN.of k)
def spBest (K : PySem.W.Frag) : Sp := fun vs H Q _ => ∃ (a b c d : Addr) (one other : List Ev) (ws us : List (Nat × Nat)), vs = [.ref a, .ref b, .ref c, .ref d] ∧ Two K H a b c d one other ws us ∧ Tabs (TbK K) H ∧
  ∀ q H', ExtN H H' → Tabs (TbK K) H' → NewN H q → H' q = some (.lst (numsV (bestO one.length other.length ws us))) → Q (.ref q) H'
def spIsBest (K : PySem.W.Frag) : Sp := fun vs H Q _ => ∃ (a b c d : Addr) (x : V) (one other : List Ev) (ws us : List (Nat × Nat)) (e : PyData) (m : Nat), vs = [.ref a, .ref b, .ref c, .ref d, x] ∧ Two K H a b c d one other ws us ∧ Tabs (TbK K) H ∧ TD K H m x e ∧
  ∀ H', ExtN H H' → Tabs (TbK K) H' → Q (.bl (bestB one.length other.length ws us e)) H'
theorem asc_len : ∀ {P : List Nat} {b n : Nat}, P.Pairwise (· < ·) → (∀ p ∈ P, b ≤ p ∧ p < n) → P.length ≤ n - b
  | [], _, _, _, _ => Nat.zero_le _
  | x :: r, b, n, h, k => by
    obtain ⟨h1, h2⟩ := List.pairwise_cons.mp h
    have hx := k x List.mem_cons_self
    have := asc_len (b := x + 1) (n := n) h2 fun p hp => ⟨h1 p hp, (k p (List.mem_cons_of_mem _ hp)).2⟩
    rw [List.length_cons]
    omega
theorem ends_short {n : Nat} {ws : List (Nat × Nat)} (h : Ins n ws) : (ends ws).length ≤ n := asc_len (b := 0) (ends_asc fun w hw => (h w hw).1) fun p hp => ⟨Nat.zero_le _, ends_lt h p hp⟩
theorem blk_len_le {c d : List Nat} {n m k : Nat} (hc : Weak c n) (hd : Weak d n) (c0 : c.getD 0 0 = 0) (d0 : d.getD 0 0 = 0) {i : Nat} (h : i ≤ n) (h1 : c.getD i 0 ≤ m) (h2 : d.getD i 0 ≤ k) : (blk c d i).length ≤ m + k := by
  rw [blk_len hc hd c0 d0 h]
  omega
theorem cuts_le {a m : Nat} {c : List Nat} (ha : ∀ p ∈ c, p < a) (i : Nat) : (cutsL c a m).getD i 0 ≤ a := by
  rw [List.getD_eq_getElem?_getD]
  cases e : (cutsL c a m)[i]? with
  | none => exact Nat.zero_le _
  | some x =>
    show x ≤ a
    have h := List.mem_of_getElem? e
    unfold cutsL at h
    rcases List.mem_cons.mp h with h | h
    · omega
    · rcases List.mem_append.mp h with h | h
      · have := ha x h
        omega
      · rw [List.eq_of_mem_replicate h]
        exact Nat.le_refl _
theorem max_int (x y : Nat) : (if (y : Int) > (x : Int) then (y : Int) else (x : Int)) = ((max x y : Nat) : Int) := by
  split <;> omega
theorem cuts_nums {o : List Nat} {n m : Nat} (h : o.length ≤ m) : [V.int 0] ++ numsV o ++ (List.replicate (((m : Int) + 1 - (o.length : Int)).toNat) [V.int (n : Int)]).flatten = numsV (cutsL o n m) := by
  rw [rep_nums, show (m : Int) + 1 - (o.length : Int) = ((m + 1 - o.length : Nat) : Int) by omega, Int.toNat_natCast]
  unfold cutsL numsV
  rw [List.map_cons, List.map_append]
  rfl
theorem rep0 {x y : Nat} (h : y ≤ x) : (List.replicate (((x : Int) - (y : Int)).toNat) [V.int 0]).flatten = numsV (List.replicate (x - y) 0) := by
  rw [show (x : Int) - (y : Int) = ((x - y : Nat) : Int) by omega, Int.toNat_natCast]
  exact rep_nums (x - y) 0
theorem rep1 {x y : Nat} (h : y ≤ x) : (List.replicate (((x : Int) - (y : Int)).toNat) [V.int 1]).flatten = numsV (List.replicate (x - y) 1) := by
  rw [show (x : Int) - (y : Int) = ((x - y : Nat) : Int) by omega, Int.toNat_natCast]
  exact rep_nums (x - y) 1
section
variable {P : Program} {w : World} {K : PySem.W.Frag} {mg : Str → Option Value} {base : Heap}
abbrev s_best_order : Stmt := top 32
abbrev N_best_order : List Str := ["one", "waits", "other", "late", "cuts", "others", "many", "order", "place"]
theorem sc_best_order : FnScope N_best_order ["one", "waits", "other", "late"] (defScope s_best_order) := ⟨rfl, rfl, rfl, by decide +kernel, rfl, by decide +kernel, by decide +kernel⟩
theorem ok_best_order {f : Addr} {fd : FuncData} (F : FnP K "best_order" s_best_order f fd) (Z : FreeS mg)
    {f_need_two_runs : Addr} {d_need_two_runs : FuncData} (g_need_two_runs : mg "need_two_runs" = some (.ref f_need_two_runs)) (F_need_two_runs : FnP K "need_two_runs" s_need_two_runs f_need_two_runs d_need_two_runs) (G_need_two_runs : FnOk P w K mg base CX0 7 f_need_two_runs d_need_two_runs ["one", "waits", "other", "late"] (spNeedTwo K))
    {f_ends_of : Addr} {d_ends_of : FuncData} (g_ends_of : mg "ends_of" = some (.ref f_ends_of)) (F_ends_of : FnP K "ends_of" s_ends_of f_ends_of d_ends_of) (G_ends_of : FnOk P w K mg base CX0 5 f_ends_of d_ends_of ["waits"] (spEnds K)) :
    FnOk P w K mg base CX0 8 f fd ["one", "waits", "other", "late"] (spBest K) := by
  have b_need_two_runs : Binds K d_need_two_runs ["one", "waits", "other", "late"] [] := F_need_two_runs.bindsN fun _ _ _ _ _ _ us hl => match us, hl with | [_, _, _, _], _ => rfl
  have b_ends_of : Binds K d_ends_of ["waits"] [] := F_ends_of.bindsN fun _ _ _ _ _ _ us hl => match us, hl with | [_], _ => rfl
  refine F.ok sc_best_order (fun vs H Q E h => ?_) (fun cdv A outer s H vs Q E hr h => ?_)
  · obtain ⟨a, b, c, d, one, other, ws, us, rfl, _⟩ := h
    rfl
  · obtain ⟨a, b, c, d, one, other, ws, us, rfl, h2, hT, k⟩ := h
    have sl : (10000 : Nat) ≤ sizeLine := by decide
    have nd := sc_best_order.nd
    refine ⟨_, PSs.nox (pss_cons (ps_expr (pe_call G_need_two_runs (hr.mono (by decide)) rfl g_need_two_runs F_need_two_runs.kp b_need_two_runs .nil pass0 (pa_cons (pv 0) (pa_cons (pv 1) (pa_cons (pv 2) (pa_cons (pv 3) (pa_nil)))))))
      (pss_cons (ps_set (i := 4) nd rfl (Or.inl rfl) (pe_call G_ends_of (hr.mono (by decide)) rfl g_ends_of F_ends_of.kp b_ends_of .nil pass0 (pa_cons (pv 1) (pa_nil))))
      (pss_cons (ps_set (i := 5) nd rfl (Or.inl rfl) (pe_call G_ends_of (hr.mono (by decide)) rfl g_ends_of F_ends_of.kp b_ends_of .nil pass0 (pa_cons (pv 3) (pa_nil))))
      (pss_cons (ps_set (i := 6) nd rfl (Or.inl rfl) (pe_callB (call_max2 rfl) (by rfl) Z.max (by decide +kernel) (pa_cons (pe_callB call_len_seq (by rfl) Z.len (by decide +kernel) (pa_cons (pv 4) (pa_nil))) (pa_cons (pe_callB call_len_seq (by rfl) Z.len (by decide +kernel) (pa_cons (pv 5) (pa_nil))) (pa_nil)))))
      (pss_cons (ps_set (i := 4) nd rfl (Or.inl rfl) (pe_op op_cat (pe_op op_cat (pe_lst (pa_cons (pe_int) (pa_nil))) (pv 4)) (pe_op op_rep (pe_lst (pa_cons (pe_callB call_len_seq (by rfl) Z.len (by decide +kernel) (pa_cons (pv 0) (pa_nil))) (pa_nil))) (pe_op op_sub (pe_op op_add (pv 6) (pe_int)) (pe_callB call_len_seq (by rfl) Z.len (by decide +kernel) (pa_cons (pv 4) (pa_nil)))))))
      (pss_cons (ps_set (i := 5) nd rfl (Or.inl rfl) (pe_op op_cat (pe_op op_cat (pe_lst (pa_cons (pe_int) (pa_nil))) (pv 5)) (pe_op op_rep (pe_lst (pa_cons (pe_callB call_len_seq (by rfl) Z.len (by decide +kernel) (pa_cons (pv 2) (pa_nil))) (pa_nil))) (pe_op op_sub (pe_op op_add (pv 6) (pe_int)) (pe_callB call_len_seq (by rfl) Z.len (by decide +kernel) (pa_cons (pv 5) (pa_nil)))))))
      (pss_cons (ps_set (i := 7) nd rfl (Or.inl rfl) (pe_lst (pa_nil)))
      (pss_cons (ps_for PassesOwn.never rfl (pi_range1 (by rfl) Z.range (pa_cons (pe_op op_add (pv 6) (pe_int)) (pa_nil))) (pg_name (i := 8) nd rfl (Or.inl rfl))
        (pss_cons (ps_expr (pe_bm PySem.F.plainAttrs_list PySem.F.slot_list_extend PySem.F.type_list_extend mt_extend (pv 7) (pa_cons (pe_op op_rep (pe_lst (pa_cons (pe_int) (pa_nil))) (pe_op op_sub (pe_ix ix_list (pv 4) (pe_op op_add (pv 8) (pe_int)) (fun _ _ => rfl)) (pe_ix ix_list (pv 4) (pv 8) (fun _ _ => rfl)))) (pa_nil))))
      (pss_one (ps_expr (pe_bm PySem.F.plainAttrs_list PySem.F.slot_list_extend PySem.F.type_list_extend mt_extend (pv 7) (pa_cons (pe_op op_rep (pe_lst (pa_cons (pe_int) (pa_nil))) (pe_op op_sub (pe_ix ix_list (pv 5) (pe_op op_add (pv 8) (pe_int)) (fun _ _ => rfl)) (pe_ix ix_list (pv 5) (pv 8) (fun _ _ => rfl)))) (pa_nil)))))))
      (pss_one (ps_ret (pv 7))))))))))), ?_⟩
    refine ⟨_, rfl, _, rfl, _, rfl, _, rfl, a, b, c, d, one, other, ws, us, rfl, h2.A, h2.nA, h2.W, h2.C, h2.nC, h2.U, fun G1 s1 => ?_⟩
    refine via_nx ?_
    refine ⟨_, rfl, b, ws, rfl, (h2.same s1).W.at_, (Nat.le_trans h2.W.len (by decide)), tabs_same s1 hT, fun q1 G2 e2 T2 n1 hq1 => ?_⟩
    have e12 := (ExtN.of s1).trans e2
    refine ⟨_, rfl, d, us, rfl, (h2.ext e12).U.at_, (Nat.le_trans h2.U.len (by decide)), T2, fun q2 G3 e3 T3 n2 hq2 => ?_⟩
    have e13 := e12.trans e3
    have h3 := h2.ext e13
    have nt : ∀ {xs : List V} (ps), HO.lst xs ≠ .tbl ps := fun ps z => by cases z
    have hq1 := e3 _ _ hq1 nt
    have iw := waits_ins h2.W.ok
    have iu := waits_ins h2.U.ok
    have lw := ends_short iw
    have lu := ends_short iu
    have la := h2.A.len
    have lc := h2.C.len
    refine ⟨_, rfl, q1, _, rfl, .inl (SqL.of hq1), _, rfl, q2, _, rfl, .inl (SqL.of hq2), _, _, rfl, ?_⟩
    rw [nums_len, nums_len, max_int]
    obtain ⟨m, em⟩ : ∃ m, m = max (ends ws).length (ends us).length := ⟨_, rfl⟩
    rw [← em]
    obtain ⟨ta, hta, lta, _⟩ := h3.A.at_.got
    obtain ⟨tc, htc, ltc, _⟩ := h3.C.at_.got
    refine ⟨(by show 1 ≤ sizeLine; omega), fun z0 hz0 => ?_⟩
    have x0 := Same.updf (o := .lst [V.int 0]) hz0
    refine ⟨_, rfl, z0, q1, _, _, rfl, rfl, upd_same, x0 _ _ hq1, (by rw [nums_len, List.length_singleton]; omega), fun p hp => ?_⟩
    have x1 := Same.updf (o := .lst ([V.int 0] ++ numsV (ends ws))) hp
    have x01 := x0.trans x1
    refine ⟨_, rfl, a, _, rfl, .inl (SqL.of (x01 _ _ hta)), (by show 1 ≤ sizeLine; omega), fun b1 hb1 => ?_⟩
    rw [List.length_map, lta]
    have x2 := Same.updf (o := .lst [V.int (one.length : Int)]) hb1
    have x02 := x01.trans x2
    refine ⟨_, rfl, _, _, rfl, rfl, _, rfl, q1, _, rfl, .inl (SqL.of (x02 _ _ hq1)), _, _, rfl, rfl, b1, _, _, rfl, rfl, upd_same, by rw [nums_len]; omega, by rw [nums_len]; omega, by rw [nums_len, List.length_singleton]; omega, fun r hr' => ?_⟩
    have x3 := Same.updf (o := .lst (List.replicate (((m : Int) + 1 - ((numsV (ends ws)).length : Int)).toNat) [V.int (one.length : Int)]).flatten) hr'
    refine ⟨p, r, _, _, rfl, rfl, (x2.trans x3) _ _ upd_same, upd_same, ?_, fun C hC => ?_⟩
    · rw [List.length_append, nums_len, List.length_singleton, rep_flat, List.length_replicate]
      omega
    rw [nums_len] at x3 hC ⊢
    have x03 := x02.trans x3
    rw [cuts_nums (show (ends ws).length ≤ m by omega)]
    have x4 := Same.updf (o := .lst (numsV (cutsL (ends ws) one.length m))) hC
    have s4 := x03.trans x4
    have h4 := h3.same s4
    have hq2 := s4 _ _ hq2
    have hC4 := upd_same (H := upd (upd (upd (upd G3 z0 (.lst [V.int 0])) p (.lst ([V.int 0] ++ numsV (ends ws)))) b1 (.lst [V.int (one.length : Int)])) r (.lst (List.replicate (((m : Int) + 1 - ((ends ws).length : Int)).toNat) [V.int (one.length : Int)]).flatten)) (a := C) (o := .lst (numsV (cutsL (ends ws) one.length m)))
    have T4 := tabs_same s4 T3
    have e14 := e13.trans (ExtN.of s4)
    have htc := s4 _ _ htc
    obtain ⟨G4, eG⟩ : ∃ X, X = upd (upd (upd (upd (upd G3 z0 (.lst [V.int 0])) p (.lst ([V.int 0] ++ numsV (ends ws)))) b1 (.lst [V.int (one.length : Int)])) r (.lst (List.replicate (((m : Int) + 1 - ((ends ws).length : Int)).toNat) [V.int (one.length : Int)]).flatten)) C (.lst (numsV (cutsL (ends ws) one.length m))) := ⟨_, rfl⟩
    rw [← eG] at h4 hq2 hC4 T4 e14 htc ⊢
    clear eG x4 x3 x03 x02 x2 x01 x1 x0 hC hr' hb1 hp hz0 s4 h3 T3 hq1 hta lta
    refine via_nx ?_
    refine norm (σ' := [some (.ref a), some (.ref b), some (.ref c), some (.ref d), some (.ref C), some (.ref q2), some (.int (m : Int)), none, none]) rfl ?_
    refine ⟨(by show 1 ≤ sizeLine; omega), fun z0 hz0 => ?_⟩
    have x0 := Same.updf (o := .lst [V.int 0]) hz0
    refine ⟨_, rfl, z0, q2, _, _, rfl, rfl, upd_same, x0 _ _ hq2, (by rw [nums_len, List.length_singleton]; omega), fun p hp => ?_⟩
    have x1 := Same.updf (o := .lst ([V.int 0] ++ numsV (ends us))) hp
    have x01 := x0.trans x1
    refine ⟨_, rfl, c, _, rfl, .inl (SqL.of (x01 _ _ htc)), (by show 1 ≤ sizeLine; omega), fun b1 hb1 => ?_⟩
    rw [List.length_map, ltc]
    have x2 := Same.updf (o := .lst [V.int (other.length : Int)]) hb1
    have x02 := x01.trans x2
    refine ⟨_, rfl, _, _, rfl, rfl, _, rfl, q2, _, rfl, .inl (SqL.of (x02 _ _ hq2)), _, _, rfl, rfl, b1, _, _, rfl, rfl, upd_same, by rw [nums_len]; omega, by rw [nums_len]; omega, by rw [nums_len, List.length_singleton]; omega, fun r hr' => ?_⟩
    have x3 := Same.updf (o := .lst (List.replicate (((m : Int) + 1 - ((numsV (ends us)).length : Int)).toNat) [V.int (other.length : Int)]).flatten) hr'
    refine ⟨p, r, _, _, rfl, rfl, (x2.trans x3) _ _ upd_same, upd_same, ?_, fun E1 hE => ?_⟩
    · rw [List.length_append, nums_len, List.length_singleton, rep_flat, List.length_replicate]
      omega
    rw [nums_len] at x3 hE ⊢
    have x03 := x02.trans x3
    rw [cuts_nums (show (ends us).length ≤ m by omega)]
    have x4 := Same.updf (o := .lst (numsV (cutsL (ends us) other.length m))) hE
    have s4 := x03.trans x4
    have hE4 := upd_same (H := upd (upd (upd (upd G4 z0 (.lst [V.int 0])) p (.lst ([V.int 0] ++ numsV (ends us)))) b1 (.lst [V.int (other.length : Int)])) r (.lst (List.replicate (((m : Int) + 1 - ((ends us).length : Int)).toNat) [V.int (other.length : Int)]).flatten)) (a := E1) (o := .lst (numsV (cutsL (ends us) other.length m)))
    have T4 := tabs_same s4 T4
    have e14 := e14.trans (ExtN.of s4)
    have hC4 := s4 _ _ hC4
    obtain ⟨G5, eG⟩ : ∃ X, X = upd (upd (upd (upd (upd G4 z0 (.lst [V.int 0])) p (.lst ([V.int 0] ++ numsV (ends us)))) b1 (.lst [V.int (other.length : Int)])) r (.lst (List.replicate (((m : Int) + 1 - ((ends us).length : Int)).toNat) [V.int (other.length : Int)]).flatten)) E1 (.lst (numsV (cutsL (ends us) other.length m))) := ⟨_, rfl⟩
    rw [← eG] at hE4 hC4 T4 e14 ⊢
    clear eG x4 x3 x03 x02 x2 x01 x1 x0 hE hr' hb1 hp hz0 s4 htc ltc
    refine via_nx ?_
    refine norm (σ' := [some (.ref a), some (.ref b), some (.ref c), some (.ref d), some (.ref C), some (.ref E1), some (.int (m : Int)), none, none]) rfl ?_
    have w1 := cuts_weak (a := one.length) (m := m) (ends_asc fun w h => (iw w h).1) (ends_lt iw) (show (ends ws).length ≤ m by omega)
    have w2 := cuts_weak (a := other.length) (m := m) (ends_asc fun w h => (iu w h).1) (ends_lt iu) (show (ends us).length ≤ m by omega)
    have eb : bestO one.length other.length ws us = blk (cutsL (ends ws) one.length m) (cutsL (ends us) other.length m) (m + 1) := by
      unfold bestO
      rw [em]
    have gC : ∀ i, i ≤ m + 1 → (numsV (cutsL (ends ws) one.length m))[i]? = some (.int ((cutsL (ends ws) one.length m).getD i 0 : Int)) := fun i h => by
      have l := cuts_len (a := one.length) (c := ends ws) (m := m) (by omega)
      refine nums_at ?_
      rw [List.getD_eq_getElem?_getD, List.getElem?_eq_getElem (by omega)]
      rfl
    have gE : ∀ i, i ≤ m + 1 → (numsV (cutsL (ends us) other.length m))[i]? = some (.int ((cutsL (ends us) other.length m).getD i 0 : Int)) := fun i h => by
      have l := cuts_len (a := other.length) (c := ends us) (m := m) (by omega)
      refine nums_at ?_
      rw [List.getD_eq_getElem?_getD, List.getElem?_eq_getElem (by omega)]
      rfl
    have cl := cuts_le (m := m) (ends_lt iw)
    have dl := cuts_le (m := m) (ends_lt iu)
    obtain ⟨cs, ecs⟩ : ∃ cs, cs = cutsL (ends ws) one.length m := ⟨_, rfl⟩
    obtain ⟨ds, eds⟩ : ∃ ds, ds = cutsL (ends us) other.length m := ⟨_, rfl⟩
    have c0 : cs.getD 0 0 = 0 := by rw [ecs]; rfl
    have d0 : ds.getD 0 0 = 0 := by rw [eds]; rfl
    rw [← ecs] at w1 eb gC cl hC4
    rw [← eds] at w2 eb gE dl hE4
    refine ⟨(by show 0 ≤ sizeLine; omega), fun D hD => ?_⟩
    have x0 := Same.updf (o := .lst []) hD
    have hD6 := upd_same (H := G5) (a := D) (o := .lst [])
    have nCD := ne_of_none hC4 hD
    have nED := ne_of_none hE4 hD
    have hC6 := x0 _ _ hC4
    have hE6 := x0 _ _ hE4
    refine ⟨_, rfl, _, _, rfl, rfl, ((m + 1 : Nat) : Int), rfl, by omega, by omega, ?_⟩
    rw [Int.toNat_natCast]
    obtain ⟨G6, eG⟩ : ∃ X, X = upd G5 D (.lst []) := ⟨_, rfl⟩
    rw [← eG] at x0 hD6 hC6 hE6 ⊢
    clear eG
    refine for_range (lo := 0) (n := m + 1) (fun i σ G => But D G6 G ∧ G D = some (.lst (numsV (blk cs ds i))) ∧ ∃ v8, σ = [some (.ref a), some (.ref b), some (.ref c), some (.ref d), some (.ref C), some (.ref E1), some (.int (m : Int)), some (.ref D), v8])
      ⟨But.refl _ _, hD6, none, rfl⟩ ?_ ?_
    · rintro i σ G hi ⟨bG, hDG, v8, rfl⟩
      have b1 := w1 i hi
      have b2 := w2 i hi
      have c1 := cl i
      have c2 := cl (i + 1)
      have d1 := dl i
      have d2 := dl (i + 1)
      have bl := blk_len_le (m := one.length) (k := other.length) w1 w2 c0 d0 (show i ≤ m + 1 by omega) c1 d1
      have hCG := bG _ _ nCD hC6
      have hEG := bG _ _ nED hE6
      refine ⟨_, rfl, Or.inl ⟨rfl, _, SqL.of hDG⟩, (by show 1 ≤ sizeLine; omega), fun z0 hz0 => ?_⟩
      have x1 := Same.updf (o := .lst [V.int 0]) hz0
      refine ⟨_, rfl, _, rfl, _, _, rfl, rfl, C, _, _, _, rfl, rfl, SqL.of (x1 _ _ hCG), (by rw [show (0 : Int) + (i : Int) + 1 = ((i + 1 : Nat) : Int) by omega]; exact atI_nat (gC _ (by omega))), ?_⟩
      refine ⟨_, rfl, _, rfl, C, _, _, _, rfl, rfl, SqL.of (x1 _ _ hCG), (by rw [show (0 : Int) + (i : Int) = (i : Int) by omega]; exact atI_nat (gC _ (by omega))), _, _, rfl, rfl, z0, _, _, rfl, rfl, upd_same, by omega, by omega, by rw [List.length_singleton]; omega, fun r1 hr1 => ?_⟩
      rw [rep0 b1]
      have x2 := Same.updf (o := .lst (numsV (List.replicate (cs.getD (i + 1) 0 - cs.getD i 0) 0))) hr1
      have x12 := x1.trans x2
      refine ⟨D, r1, _, _, rfl, rfl, x12 _ _ hDG, upd_same, by rw [nums_len, nums_len, List.length_replicate]; omega, ?_⟩
      rw [nums_app]
      have bH : But D G6 (upd (upd (upd G z0 (.lst [V.int 0])) r1 (.lst (numsV (List.replicate (cs.getD (i + 1) 0 - cs.getD i 0) 0)))) D (.lst (numsV (blk cs ds i ++ List.replicate (cs.getD (i + 1) 0 - cs.getD i 0) 0)))) := (bG.trans (But.of x12)).trans But.upd'
      have hDH := upd_same (H := upd (upd G z0 (.lst [V.int 0])) r1 (.lst (numsV (List.replicate (cs.getD (i + 1) 0 - cs.getD i 0) 0)))) (a := D) (o := .lst (numsV (blk cs ds i ++ List.replicate (cs.getD (i + 1) 0 - cs.getD i 0) 0)))
      obtain ⟨G7, eG⟩ : ∃ X, X = upd (upd (upd G z0 (.lst [V.int 0])) r1 (.lst (numsV (List.replicate (cs.getD (i + 1) 0 - cs.getD i 0) 0)))) D (.lst (numsV (blk cs ds i ++ List.replicate (cs.getD (i + 1) 0 - cs.getD i 0) 0))) := ⟨_, rfl⟩
      rw [← eG] at bH hDH ⊢
      clear eG x12 x2 x1 hr1 hz0 hDG bG hCG hEG
      have hEG := bH _ _ nED hE6
      refine ⟨_, rfl, Or.inl ⟨rfl, _, SqL.of hDH⟩, (by show 1 ≤ sizeLine; omega), fun z0 hz0 => ?_⟩
      have x1 := Same.updf (o := .lst [V.int 1]) hz0
      refine ⟨_, rfl, _, rfl, _, _, rfl, rfl, E1, _, _, _, rfl, rfl, SqL.of (x1 _ _ hEG), (by rw [show (0 : Int) + (i : Int) + 1 = ((i + 1 : Nat) : Int) by omega]; exact atI_nat (gE _ (by omega))), ?_⟩
      refine ⟨_, rfl, _, rfl, E1, _, _, _, rfl, rfl, SqL.of (x1 _ _ hEG), (by rw [show (0 : Int) + (i : Int) = (i : Int) by omega]; exact atI_nat (gE _ (by omega))), _, _, rfl, rfl, z0, _, _, rfl, rfl, upd_same, by omega, by omega, by rw [List.length_singleton]; omega, fun r1 hr1 => ?_⟩
      rw [rep1 b2]
      have x2 := Same.updf (o := .lst (numsV (List.replicate (ds.getD (i + 1) 0 - ds.getD i 0) 1))) hr1
      have x12 := x1.trans x2
      refine ⟨D, r1, _, _, rfl, rfl, x12 _ _ hDH, upd_same, by rw [nums_len, nums_len, List.length_append, List.length_replicate, List.length_replicate]; omega, ?_⟩
      rw [nums_app]
      exact ⟨(bH.trans (But.of x12)).trans But.upd', upd_same, _, rfl⟩
    · rintro σ G ⟨bG, hDG, v8, rfl⟩
      rw [← eb] at hDG
      refine ⟨_, rfl, k D G (fun x o e nt' => ?_) (tabs_but bG ⟨_, hD6⟩ (tabs_same x0 T4)) (NewN.back e14 (NewN.of hD)) hDG⟩
      have := e14 _ _ e nt'
      exact bG _ _ (ne_of_none this hD) (x0 _ _ this)
abbrev s_is_best_order : Stmt := top 33
abbrev N_is_best_order : List Str := ["one", "waits", "other", "late", "value", "fewest"]
theorem sc_is_best_order : FnScope N_is_best_order ["one", "waits", "other", "late", "value"] (defScope s_is_best_order) := ⟨rfl, rfl, rfl, by decide +kernel, rfl, by decide +kernel, by decide +kernel⟩
theorem ok_is_best_order {f : Addr} {fd : FuncData} (F : FnP K "is_best_order" s_is_best_order f fd) (Z : FreeS mg)
    {f_need_two_runs : Addr} {d_need_two_runs : FuncData} (g_need_two_runs : mg "need_two_runs" = some (.ref f_need_two_runs)) (F_need_two_runs : FnP K "need_two_runs" s_need_two_runs f_need_two_runs d_need_two_runs) (G_need_two_runs : FnOk P w K mg base CX0 7 f_need_two_runs d_need_two_runs ["one", "waits", "other", "late"] (spNeedTwo K))
    {f_is_order : Addr} {d_is_order : FuncData} (g_is_order : mg "is_order" = some (.ref f_is_order)) (F_is_order : FnP K "is_order" s_is_order f_is_order d_is_order) (G_is_order : FnOk P w K mg base CX0 4 f_is_order d_is_order ["one", "other", "value"] (spIsOrder K))
    {f_ends_of : Addr} {d_ends_of : FuncData} (g_ends_of : mg "ends_of" = some (.ref f_ends_of)) (F_ends_of : FnP K "ends_of" s_ends_of f_ends_of d_ends_of) (G_ends_of : FnOk P w K mg base CX0 5 f_ends_of d_ends_of ["waits"] (spEnds K))
    {f_moved_waits : Addr} {d_moved_waits : FuncData} (g_moved_waits : mg "moved_waits" = some (.ref f_moved_waits)) (F_moved_waits : FnP K "moved_waits" s_moved_waits f_moved_waits d_moved_waits) (G_moved_waits : FnOk P w K mg base CX0 2 f_moved_waits d_moved_waits ["waits", "late", "order"] (spMoved K)) :
    FnOk P w K mg base CX0 8 f fd ["one", "waits", "other", "late", "value"] (spIsBest K) := by
  have b_need_two_runs : Binds K d_need_two_runs ["one", "waits", "other", "late"] [] := F_need_two_runs.bindsN fun _ _ _ _ _ _ us hl => match us, hl with | [_, _, _, _], _ => rfl
  have b_is_order : Binds K d_is_order ["one", "other", "value"] [] := F_is_order.bindsN fun _ _ _ _ _ _ us hl => match us, hl with | [_, _, _], _ => rfl
  have b_ends_of : Binds K d_ends_of ["waits"] [] := F_ends_of.bindsN fun _ _ _ _ _ _ us hl => match us, hl with | [_], _ => rfl
  have b_moved_waits : Binds K d_moved_waits ["waits", "late", "order"] [] := F_moved_waits.bindsN fun _ _ _ _ _ _ us hl => match us, hl with | [_, _, _], _ => rfl
  refine F.ok sc_is_best_order (fun vs H Q E h => ?_) (fun cdv A outer s H vs Q E hr h => ?_)
  · obtain ⟨a, b, c, d, x, one, other, ws, us, e, m, rfl, _⟩ := h
    rfl
  · obtain ⟨a, b, c, d, x, one, other, ws, us, e, m, rfl, h2, hT, hx, k⟩ := h
    have nd := sc_is_best_order.nd
    refine ⟨_, PSs.nox (pss_cons (ps_expr (pe_call G_need_two_runs (hr.mono (by decide)) rfl g_need_two_runs F_need_two_runs.kp b_need_two_runs .nil pass0 (pa_cons (pv 0) (pa_cons (pv 1) (pa_cons (pv 2) (pa_cons (pv 3) (pa_nil)))))))
      (pss_cons (ps_if (pt_not (pt_val (pe_call G_is_order (hr.mono (by decide)) rfl g_is_order F_is_order.kp b_is_order .nil pass0 (pa_cons (pv 0) (pa_cons (pv 2) (pa_cons (pv 4) (pa_nil))))))) (pss_one (ps_ret (pe_bl))) (pss_nil))
      (pss_cons (ps_set (i := 5) nd rfl (Or.inl rfl) (pe_callB (call_max2 rfl) (by rfl) Z.max (by decide +kernel) (pa_cons (pe_callB call_len_seq (by rfl) Z.len (by decide +kernel) (pa_cons (pe_call G_ends_of (hr.mono (by decide)) rfl g_ends_of F_ends_of.kp b_ends_of .nil pass0 (pa_cons (pv 1) (pa_nil))) (pa_nil))) (pa_cons (pe_callB call_len_seq (by rfl) Z.len (by decide +kernel) (pa_cons (pe_call G_ends_of (hr.mono (by decide)) rfl g_ends_of F_ends_of.kp b_ends_of .nil pass0 (pa_cons (pv 3) (pa_nil))) (pa_nil))) (pa_nil)))))
      (pss_one (ps_ret (pe_cmpR op_eq (pe_callB call_len_seq (by rfl) Z.len (by decide +kernel) (pa_cons (pe_call G_ends_of (hr.mono (by decide)) rfl g_ends_of F_ends_of.kp b_ends_of .nil pass0 (pa_cons (pe_call G_moved_waits (hr.mono (by decide)) rfl g_moved_waits F_moved_waits.kp b_moved_waits .nil pass0 (pa_cons (pv 1) (pa_cons (pv 3) (pa_cons (pv 4) (pa_nil))))) (pa_nil))) (pa_nil))) (pv 5) (nomark _))))))), ?_⟩
    refine ⟨_, rfl, _, rfl, _, rfl, _, rfl, a, b, c, d, one, other, ws, us, rfl, h2.A, h2.nA, h2.W, h2.C, h2.nC, h2.U, fun G1 s1 => ?_⟩
    refine via_nx ?_
    refine ⟨_, rfl, _, rfl, _, rfl, a, c, x, one, other, e, m, rfl, (h2.same s1).A, (h2.same s1).C, hx.same s1, fun G2 s2 => ?_⟩
    have s12 := s1.trans s2
    have h2' := h2.same s12
    cases qo : ordB one.length other.length e with
    | false =>
      unfold bestB at k
      rw [qo] at k
      exact ⟨_, rfl, iteT (k _ (ExtN.of s12) (tabs_same s12 hT))⟩
    | true =>
      unfold bestB at k
      rw [qo, Bool.true_and] at k
      obtain ⟨o, rfl, ho⟩ := ordB_iff.mp qo
      have lo := ho.len
      have la := h2.A.len
      have lc := h2.C.len
      have hq : ∃ q, x = .ref q ∧ H q = some (.lst (numsV o)) := by
        rcases td_cs hx with ⟨rfl, z⟩ | ⟨b, rfl, z⟩ | ⟨i, rfl, z⟩ | ⟨z, rfl, z⟩ | ⟨b, xs, ds, rfl, hb, z, lx, l1, kx⟩ | ⟨b, xs, ds, rfl, hb, z, _⟩ | ⟨b, ps, m, rfl, hb, z⟩
        · cases z
        · cases z
        · cases z
        · cases z
        · cases z
          obtain rfl := td_nums lx kx
          exact ⟨b, rfl, hb⟩
        · cases z
        · cases z
      obtain ⟨q, rfl, hq⟩ := hq
      have nt : ∀ {xs : List V} (ps), HO.lst xs ≠ .tbl ps := fun ps z => by cases z
      refine ⟨_, rfl, iteF ?_⟩
      refine via_nx ?_
      refine ⟨_, rfl, b, ws, rfl, h2'.W.at_, (Nat.le_trans h2'.W.len (by decide)), tabs_same s12 hT, fun q1 G3 e3 T3 n1 hq1 => ?_⟩
      refine ⟨q1, _, rfl, .inl (SqL.of hq1), ?_⟩
      have h3 := h2'.ext e3
      refine ⟨_, rfl, d, us, rfl, h3.U.at_, (Nat.le_trans h3.U.len (by decide)), T3, fun q2 G4 e4 T4 n2 hq2 => ?_⟩
      refine ⟨q2, _, rfl, .inl (SqL.of hq2), _, _, rfl, ?_⟩
      rw [nums_len, nums_len, max_int]
      have h4 := h3.ext e4
      have e14 := ((ExtN.of s12).trans e3).trans e4
      refine ⟨_, rfl, _, rfl, _, rfl, b, d, q, _, _, ws, us, o, rfl, h4.W.at_, h4.U.at_, waits_ins h2.W.ok, waits_ins h2.U.ok, h2.W.len, h2.U.len, e14 _ _ hq nt, ho, la, lc, fun r G5 s5 nr hr' => ?_⟩
      have lmv : (moved o ws us).length ≤ 3000 := by
        rw [show (moved o ws us).length = (mvL o ws us).length from (srt_perm _).length_eq]
        unfold mvL
        rw [List.length_append, List.length_map, List.length_map]
        have := h2.W.len
        have := h2.U.len
        omega
      refine ⟨r, _, rfl, hr', lmv, tabs_same s5 T4, fun q3 G6 e6 T6 n3 hq3 => ?_⟩
      refine ⟨q3, _, rfl, .inl (SqL.of hq3), _, rfl, rfl, ?_⟩
      rw [nums_len, least_ends, least_ends, least_ends]
      have ee : decide (V.int ((least (moved o ws us) : Nat) : Int) = V.int ((max (least ws) (least us) : Nat) : Int)) = decide (least (moved (toO (.list (dN o))) ws us) = max (least ws) (least us)) := by
        rw [show toO (.list (dN o)) = o from dN_toN o, decide_eq_decide]
        exact ⟨fun z => by have := V.int.inj z; omega, fun z => by rw [z]⟩
      rw [ee]
      exact k _ ((e14.trans (ExtN.of s5)).trans e6) T6
end
end K19
set_option Elab.async false
set_option linter.all false
set_option maxRecDepth 100000
set_option maxHeartbeats 8000000
/-! Comprehensions over lists of numbers and of tuples. -/
namespace K19
open PySem PySem.Spec PyProof.Rows L2 KB LamX
theorem SqT_off {K : PySem.W.Frag} {G H : Hp} {t D : Addr} {xs : List V} (h : SqT K G t xs) (k : Same G H) (n : G D = none) : SqT K (off H D) t xs := by
  rcases h with (h | ⟨o, h⟩) | h
  · exact .inl (.inl (by rw [off_at (ne_of_none h n)]; exact k _ _ h))
  · exact .inl (.inr ⟨o, by rw [off_at (ne_of_none h n)]; exact k _ _ h⟩)
  · exact .inr h
theorem paired_fm {α : Type} {f : Nat → Option α} {R : α → V → Prop} : ∀ {is : List Nat} {ys : List V}, Paired (fun i y => ∃ d, f i = some d ∧ R d y) is ys → Paired R (is.filterMap f) ys
  | _, _, .nil => .nil
  | i :: is, _, .cons r t => by
    obtain ⟨d, e, h⟩ := r
    rw [List.filterMap_cons, e]
    exact .cons h (paired_fm t)
theorem fm_get {α β : Type} (f : α → β) (c : α → Bool) (l : List α) : (((List.range l.length).filter fun i => ((l[i]?).map c).getD false).filterMap fun i => (l[i]?).map f) = (l.filter c).map f := by
  induction l with
  | nil => rfl
  | cons x r ih =>
    rw [List.length_cons, List.range_succ_eq_map, List.filter_cons, List.filter_map]
    have e : ((fun i => (((x :: r)[i]?).map c).getD false) ∘ Nat.succ) = fun i => ((r[i]?).map c).getD false := rfl
    have e2 : ∀ is : List Nat, ((is.map Nat.succ).filterMap fun i => ((x :: r)[i]?).map f) = is.filterMap fun i => (r[i]?).map f := fun is => by
      rw [List.filterMap_map]
      rfl
    rw [e]
    by_cases h : c x = true
    · rw [if_pos (by simpa using h), List.filterMap_cons, e2, ih, List.filter_cons, if_pos h]
      rfl
    · rw [if_neg (by simpa using h), e2, ih, List.filter_cons, if_neg h]
theorem sel_bool (c : Nat → Bool) (l : List Nat) : ((List.range l.length).filterMap fun i => (l[i]?).bind fun x => if c x = true then some (V.int (x : Int)) else none) = numsV (l.filter c) := by
  induction l with
  | nil => rfl
  | cons x l ih =>
    rw [List.length_cons, List.range_succ_eq_map, List.filterMap_cons, List.filterMap_map, List.filter_cons]
    have e : ((fun i => ((x :: l)[i]?).bind fun x => if c x = true then some (V.int (x : Int)) else none) ∘ Nat.succ) = fun i => (l[i]?).bind fun x => if c x = true then some (V.int (x : Int)) else none := rfl
    rw [e, ih]
    by_cases h : c x = true
    · simp [h, numsV]
    · simp [h, numsV]
theorem lc_nums {K : PySem.W.Frag} {l : List Nat} {a : Addr} {g : TG} {tt : TT} {te : TE} {vs : List Nat} {σ : L2.St} {H1 : Hp} {D : Addr} {Qd : Hp → Prop} (c : Nat → Bool) (hn : l.length ≤ 100000) (ha : H1 a = some (.lst (numsV l))) (hD : H1 D = none)
    (hs : ∀ p H (Qy : V → Hp → Prop) (Qn : Hp → Prop), p ∈ l → Same H1 H → (∀ H4, Same H H4 → c p = true → Qy (.int (p : Int)) H4) → (∀ H4, Same H H4 → c p = false → Qn H4) →
      g (.int (p : Int)) (wipe σ vs) H fun σ2 H2 => wipe σ2 vs = wipe σ vs ∧ tt σ2 H2 fun b H3 => if b = true then te σ2 H3 Qy else Qn H3)
    (hd : ∀ H, Same H1 H → H D = some (.lst (numsV (l.filter c))) → Qd H) :
    ∃ W : Nat → Nat → Hp → Prop, (∃ m, W 0 m (upd H1 D (.lst []))) ∧ ∀ i m H, W i m H →
      ((Itl K a).stop i H ∧ Qd H) ∨ ((Itl K a).go i H ∧ ∃ Nx : Hp → Prop, (∀ H', Nx H' → ∃ m', m' < m ∧ W (i + 1) m' H') ∧ ∀ x H', (Itl K a).yld i H x H' → g x (wipe σ vs) H' fun σ2 H2 => wipe σ2 vs = wipe σ vs ∧ tt σ2 H2 fun b H3 =>
        if b = true then te σ2 H3 fun y H4 => ∃ acc, H4 D = some (.lst acc) ∧ acc.length < sizeLine ∧ Nx (upd H4 D (.lst (acc ++ [y]))) else Nx H3) := by
  have ln : (numsV l).length = l.length := List.length_map _
  refine lc_sel (n := (numsV l).length) (walk_list (K := K) (a := a) (xs := numsV l)) (fun j => (l[j]?).bind fun x => if c x = true then some (V.int (x : Int)) else none) (by omega) hD (fun H2 s3 => SqL.of (s3 _ _ ha)) ?_ ?_
  · rintro j v H5 H6 Qy Qn hj s5 ⟨rfl, hy⟩ ky_ kn
    have lj : j < l.length := by omega
    unfold numsV at hy
    rw [List.getElem?_map, List.getElem?_eq_getElem lj] at hy
    obtain rfl := Option.some.inj hy
    rw [List.getElem?_eq_getElem lj, Option.bind_some] at ky_ kn
    exact hs _ _ Qy Qn (List.getElem_mem lj) s5 (fun H4 s4 e => ky_ _ _ s4 (by rw [if_pos e])) (fun H4 s4 e => kn _ s4 (by rw [e]; rfl))
  · intro H5 s5 hR
    rw [ln, sel_bool] at hR
    exact hd H5 s5 hR
theorem lc_bools {K : PySem.W.Frag} {l : List Nat} {a : Addr} {g : TG} {tt : TT} {te : TE} {vs : List Nat} {σ : L2.St} {H1 : Hp} {D : Addr} {Qd : Hp → Prop} (c : Nat → Bool) (hn : l.length ≤ 100000) (ha : H1 a = some (.lst (numsV l))) (hD : H1 D = none)
    (hs : ∀ p H (Qy : V → Hp → Prop) (Qn : Hp → Prop), p ∈ l → Same H1 H → (∀ H4, Same H H4 → Qy (.bl (c p)) H4) →
      g (.int (p : Int)) (wipe σ vs) H fun σ2 H2 => wipe σ2 vs = wipe σ vs ∧ tt σ2 H2 fun b H3 => if b = true then te σ2 H3 Qy else Qn H3)
    (hd : ∀ H, Same H1 H → H D = some (.lst ((l.map c).map V.bl)) → Qd H) :
    ∃ W : Nat → Nat → Hp → Prop, (∃ m, W 0 m (upd H1 D (.lst []))) ∧ ∀ i m H, W i m H →
      ((Itl K a).stop i H ∧ Qd H) ∨ ((Itl K a).go i H ∧ ∃ Nx : Hp → Prop, (∀ H', Nx H' → ∃ m', m' < m ∧ W (i + 1) m' H') ∧ ∀ x H', (Itl K a).yld i H x H' → g x (wipe σ vs) H' fun σ2 H2 => wipe σ2 vs = wipe σ vs ∧ tt σ2 H2 fun b H3 =>
        if b = true then te σ2 H3 fun y H4 => ∃ acc, H4 D = some (.lst acc) ∧ acc.length < sizeLine ∧ Nx (upd H4 D (.lst (acc ++ [y]))) else Nx H3) := by
  have ln : (numsV l).length = l.length := List.length_map _
  refine lc_sel (n := (numsV l).length) (walk_list (K := K) (a := a) (xs := numsV l)) (fun j => (l[j]?).map fun x => V.bl (c x)) (by omega) hD (fun H2 s3 => SqL.of (s3 _ _ ha)) ?_ ?_
  · rintro j v H5 H6 Qy Qn hj s5 ⟨rfl, hy⟩ ky_ kn
    have lj : j < l.length := by omega
    unfold numsV at hy
    rw [List.getElem?_map, List.getElem?_eq_getElem lj] at hy
    obtain rfl := Option.some.inj hy
    rw [List.getElem?_eq_getElem lj, Option.map_some] at ky_
    exact hs _ _ Qy Qn (List.getElem_mem lj) s5 (fun H4 s4 => ky_ _ _ s4 rfl)
  · intro H5 s5 hR
    refine hd H5 s5 ?_
    rw [hR, ln]
    refine congrArg (fun z => some (HO.lst z)) ?_
    refine List.ext_getElem? fun j => ?_
    have key : ∀ m : Nat, (List.range m).filterMap (fun j => (l[j]?).map fun x => V.bl (c x)) = ((l.take m).map c).map V.bl := fun m => by
      induction m with
      | zero => rfl
      | succ m ih =>
        rw [List.range_succ, List.filterMap_append, ih, List.take_succ, List.map_append, List.map_append]
        cases h : l[m]? <;> simp [h]
    rw [key, List.take_length]
theorem ls_bools {K : PySem.W.Frag} {α : Type} {vv : α → List V} {xs : List α} {a : Addr} {g : TG} {tt : TT} {te : TE} {vs : List Nat} {σ : L2.St} {H1 : Hp} {D : Addr} {Qd : Hp → Prop} (c : α → Bool) (hn : xs.length ≤ 100000) (ha : LsT K vv H1 a xs) (hD : H1 D = none)
    (hs : ∀ x t H (Qy : V → Hp → Prop) (Qn : Hp → Prop), x ∈ xs → Same H1 H → SqT K H t (vv x) → (∀ H4, Same H H4 → Qy (.bl (c x)) H4) →
      g (.ref t) (wipe σ vs) H fun σ2 H2 => wipe σ2 vs = wipe σ vs ∧ tt σ2 H2 fun b H3 => if b = true then te σ2 H3 Qy else Qn H3)
    (hd : ∀ H, Same H1 H → H D = some (.lst ((xs.map c).map V.bl)) → Qd H) :
    ∃ W : Nat → Nat → Hp → Prop, (∃ m, W 0 m (upd H1 D (.lst []))) ∧ ∀ i m H, W i m H →
      ((Itl K a).stop i H ∧ Qd H) ∨ ((Itl K a).go i H ∧ ∃ Nx : Hp → Prop, (∀ H', Nx H' → ∃ m', m' < m ∧ W (i + 1) m' H') ∧ ∀ x H', (Itl K a).yld i H x H' → g x (wipe σ vs) H' fun σ2 H2 => wipe σ2 vs = wipe σ vs ∧ tt σ2 H2 fun b H3 =>
        if b = true then te σ2 H3 fun y H4 => ∃ acc, H4 D = some (.lst acc) ∧ acc.length < sizeLine ∧ Nx (upd H4 D (.lst (acc ++ [y]))) else Nx H3) := by
  obtain ⟨ts, h1, h2, h3⟩ := ha.got
  refine lc_sel (n := xs.length) (by have := walk_list (K := K) (a := a) (xs := ts.map V.ref); rw [List.length_map, h2] at this; exact this) (fun j => (xs[j]?).map fun x => V.bl (c x)) hn hD (fun H2 s3 => SqL.of (s3 _ _ h1)) ?_ ?_
  · rintro j v H5 H6 Qy Qn hj s5 ⟨rfl, hy⟩ ky_ kn
    obtain ⟨t, e1, e2⟩ := h3 j hj
    rw [e1] at hy
    obtain rfl := Option.some.inj hy
    exact hs xs[j] t _ Qy Qn (List.getElem_mem hj) s5 (SqT_up s5 e2) fun H4 s4 => ky_ _ _ s4 (by rw [List.getElem?_eq_getElem hj]; rfl)
  · intro H2 s2 hR
    refine hd H2 s2 ?_
    rw [hR, fm_all (fun x => V.bl (c x)) xs, List.map_map]
    rfl
theorem ls_rel {K : PySem.W.Frag} {α : Type} {vv : α → List V} {xs : List α} {a : Addr} {g : TG} {tt : TT} {te : TE} {vs : List Nat} {σ : L2.St} {H1 : Hp} {D : Addr} {Qd : Hp → Prop} (c : α → Bool) (R : α → V → Hp → Prop) (hR : ∀ x y H H', Same H H' → R x y H → R x y H') (hn : xs.length ≤ 100000) (ha : LsT K vv H1 a xs) (hD : H1 D = none)
    (hs : ∀ x t H (Qy : V → Hp → Prop) (Qn : Hp → Prop), x ∈ xs → Same H1 H → (∃ acc, H D = some (.lst acc)) → SqT K H t (vv x) → SqT K (off H D) t (vv x) → (∀ y H4, c x = true → Same H H4 → R x y (off H4 D) → Qy y H4) → (∀ H4, c x = false → Same H H4 → Qn H4) →
      g (.ref t) (wipe σ vs) H fun σ2 H2 => wipe σ2 vs = wipe σ vs ∧ tt σ2 H2 fun b H3 => if b = true then te σ2 H3 Qy else Qn H3)
    (hd : ∀ H ys, Same H1 H → H D = some (.lst ys) → Paired (fun x y => R x y (off H D)) (xs.filter c) ys → Qd H) :
    ∃ W : Nat → Nat → Hp → Prop, (∃ m, W 0 m (upd H1 D (.lst []))) ∧ ∀ i m H, W i m H →
      ((Itl K a).stop i H ∧ Qd H) ∨ ((Itl K a).go i H ∧ ∃ Nx : Hp → Prop, (∀ H', Nx H' → ∃ m', m' < m ∧ W (i + 1) m' H') ∧ ∀ x H', (Itl K a).yld i H x H' → g x (wipe σ vs) H' fun σ2 H2 => wipe σ2 vs = wipe σ vs ∧ tt σ2 H2 fun b H3 =>
        if b = true then te σ2 H3 fun y H4 => ∃ acc, H4 D = some (.lst acc) ∧ acc.length < sizeLine ∧ Nx (upd H4 D (.lst (acc ++ [y]))) else Nx H3) := by
  obtain ⟨ts, h1, h2, h3⟩ := ha.got
  refine lc_rel (n := xs.length) (by have := walk_list (K := K) (a := a) (xs := ts.map V.ref); rw [List.length_map, h2] at this; exact this) (fun i => ((xs[i]?).map c).getD false) (fun i y G => ∃ x, ((xs[i]?).map id) = some x ∧ R x y G) (fun i y G G' s ⟨x, e, h⟩ => ⟨x, e, hR _ _ _ _ s h⟩) hn hD (fun H2 s3 => SqL.of (s3 _ _ h1)) ?_ ?_
  · rintro j v H5 H6 Qy Qn hj s5 hacc ⟨rfl, hy⟩ ky_ kn
    obtain ⟨t, e1, e2⟩ := h3 j hj
    rw [e1] at hy
    obtain rfl := Option.some.inj hy
    rw [List.getElem?_eq_getElem hj] at ky_ kn
    exact hs xs[j] t _ Qy Qn (List.getElem_mem hj) s5 hacc (SqT_up s5 e2) (SqT_off e2 s5 hD) (fun y H4 cx s4 r => ky_ y H4 cx s4 ⟨_, rfl, r⟩) fun H4 cx s4 => kn H4 cx s4
  · intro H2 ys s2 hys py
    refine hd H2 ys s2 hys ?_
    have h := paired_fm py
    rw [fm_get id c xs, List.map_id] at h
    exact h
end K19
set_option Elab.async false
set_option linter.all false
set_option maxRecDepth 100000
set_option maxHeartbeats 4000000
/-! sorted(xs), xs new lists of counts: some order of them. -/
namespace KB
open PySem PySem.Spec PyProof.Rows L2
/-- y is a list of these counts -/
def LsAt (H : Hp) (l : List Nat) (y : V) : Prop := ∃ T, y = .ref T ∧ H T = some (.lst (l.map fun x : Nat => V.int (x : Int)))
theorem LsAt.same {H H' : Hp} (k : Same H H') {t : List Nat} {y : V} : LsAt H t y → LsAt H' t y := fun ⟨T, e, h⟩ => ⟨T, e, k _ _ h⟩
def lsD (t : List Nat) : PyData := .list ((t.map fun x : Nat => (x : Int)).map PyData.int)
def encL (H : Hp) (y : V) : PyData := match y with
  | .ref T => (match H T with
    | some (.lst xs) => .list (xs.map fun v => match v with | .int i => PyData.int i | _ => .none)
    | _ => .none)
  | _ => .none
theorem encL_at {H : Hp} {t : List Nat} {y : V} (h : LsAt H t y) : encL H y = lsD t := by
  obtain ⟨T, rfl, h⟩ := h
  simp only [encL, lsD, h, List.map_map]
  rfl
def rSortL (K : PySem.W.Frag) : List V → Hp → VK → Prop := fun vs H Q => ∃ (a : Addr) (xs : List V) (ts : List (List Nat)), vs = [.ref a] ∧ SqL K H a xs ∧ Paired (LsAt H) ts xs ∧
  ∀ p ys ts', H p = none → ts'.Perm ts → Paired (LsAt H) ts' ys → Q (.ref p) (upd H p (.lst ys))
theorem cr_sortedL {X : Cx} (hu : X.A.units + 64 < cLine) : CallR X (.builtin "sorted") (rSortL X.K) := by
  intro pins s σ H vs us Q I r h
  obtain ⟨a, xs, ts, rfl, hs, py, q⟩ := h
  have get : ∀ x ∈ xs, ∃ t ∈ ts, LsAt H t x := fun x mx => by
    obtain ⟨h1, h2, h3⟩ := zip_paired py
    rw [← h3] at mx
    obtain ⟨p, hp, rfl⟩ := List.mem_map.mp mx
    refine ⟨p.1, ?_, h1 p hp⟩
    rw [← h2]
    exact List.mem_map.mpr ⟨p, hp, rfl⟩
  refine cr_sortedD hu pins s σ H _ us Q I r ⟨a, xs, encL H, rfl, hs, fun x mx => ?_, fun d hd d' hd' => ?_, .inr fun d hd => ?_, fun x mx => ?_, fun p hp => ?_⟩
  · obtain ⟨t, _, h⟩ := get x mx
    rw [encL_at h]
    obtain ⟨T, rfl, hT⟩ := h
    refine .lst (SqL.of hT) ?_
    have := dpAll_ints (K := X.K) (H := H) (t.map fun x : Nat => (x : Int))
    rw [List.map_map] at this
    exact this
  · obtain ⟨x, mx, rfl⟩ := List.mem_map.mp hd
    obtain ⟨y, my, rfl⟩ := List.mem_map.mp hd'
    obtain ⟨t, _, h⟩ := get x mx
    obtain ⟨t', _, h'⟩ := get y my
    rw [encL_at h, encL_at h']
    show PySem.W.alike (.list _) (.list _) = true
    simp only [PySem.W.alike, alikeAll_ints]
  · obtain ⟨x, mx, rfl⟩ := List.mem_map.mp hd
    obtain ⟨t, mt, h⟩ := get x mx
    rw [encL_at h]
    unfold lsD
    constructor
    · intro z
      cases z
    · intro xs z
      cases z
  · obtain ⟨t, _, h⟩ := get x mx
    rw [encL_at h]
    unfold lsD
    simp only [PyData.depth, depth_ints]
    decide
  · obtain ⟨h1, h2, h3⟩ := zip_paired py
    have ps := paired_sort (F := LsAt H) (le := PySem.W.dataLe false (encL H)) (le' := PySem.W.dataLe false lsD) (fun a x b y h1 h2 => by
      unfold PySem.W.dataLe PySem.W.sortLe
      dsimp only
      rw [encL_at h1, encL_at h2]) py
    exact q p _ _ hp (List.mergeSort_perm _ _) ps
end KB
set_option Elab.async false
set_option linter.all false
set_option maxRecDepth 100000
set_option maxHeartbeats 4000000
/-! Comprehensions whose items are drawn: each turn changes the purse. -/
namespace KB
open PySem PySem.Spec PyProof.Rows L2
theorem off_some {H : Hp} {D b : Addr} {o : HO} (h : KB.off H D b = some o) : b ≠ D ∧ H b = some o := by
  unfold KB.off at h
  split at h
  · cases h
  · exact ⟨by assumption, h⟩
theorem off_but {pu : Addr} {H H' : Hp} (k : But pu H H') : Same (KB.off H pu) (KB.off H' pu) := fun b o e => by
  obtain ⟨n, e2⟩ := off_some e
  rw [KB.off_at n]
  exact k _ _ n e2
/-- what stands but for the purse and the new list -/
def off2 (H : Hp) (D pu : Addr) : Hp := KB.off (KB.off H D) pu
theorem off2_some {H : Hp} {D pu b : Addr} {o : HO} (h : off2 H D pu b = some o) : b ≠ D ∧ b ≠ pu ∧ H b = some o := by
  obtain ⟨n, h⟩ := off_some h
  obtain ⟨n2, h⟩ := off_some h
  exact ⟨n2, n, h⟩
theorem off2_at {H : Hp} {D pu b : Addr} {o : HO} (n : b ≠ D) (n2 : b ≠ pu) (h : H b = some o) : off2 H D pu b = some o := by
  unfold off2
  rw [KB.off_at n2, KB.off_at n]
  exact h
theorem off2_but {H H' : Hp} {D pu : Addr} (k : But pu H H') : Same (off2 H D pu) (off2 H' D pu) := fun b o e => by
  obtain ⟨n, n2, e⟩ := off2_some e
  exact off2_at n n2 (k _ _ n2 e)
theorem off2_le {H : Hp} {D pu : Addr} : Same (off2 H D pu) (KB.off H pu) := fun b o e => by
  obtain ⟨n, n2, e⟩ := off2_some e
  rw [KB.off_at n2]
  exact e
theorem off2_upd {H : Hp} {D pu : Addr} {o : HO} : Same (off2 H D pu) (off2 (L2.upd H D o) D pu) := fun b o e => by
  obtain ⟨n, n2, e⟩ := off2_some e
  exact off2_at n n2 (by rw [upd_ne n]; exact e)
theorem lc_but {J : It} {n : Nat} {G : Hp → Prop} {Y : Nat → Hp → V → Hp → Prop} (w : Walk J n G Y) {g : TG} {tt : TT} {te : TE} {vs : List Nat} {σ : L2.St} {H1 : Hp} {D pu : Addr} {Qd : Hp → Prop} {N cost : Nat} (R : Nat → V → Hp → Prop)
    (hR : ∀ i y H H', Same H H' → R i y H → R i y H') (hn : n ≤ 100000) (hP : Purse H1 pu N) (hD : H1 D = none) (hG : ∀ H, But pu H1 H → G H)
    (hs : ∀ i x H H' (Qy : V → Hp → Prop) (Qn : Hp → Prop), i < n → But pu H1 H → Purse H pu (N + cost * i) → (∃ acc, H D = some (.lst acc)) → Y i H x H' → (∀ y H4, But pu H H4 → Purse H4 pu (N + cost * (i + 1)) → R i y (off2 H4 D pu) → Qy y H4) →
      g x (wipe σ vs) H' fun σ2 H2 => wipe σ2 vs = wipe σ vs ∧ tt σ2 H2 fun b H3 => if b = true then te σ2 H3 Qy else Qn H3)
    (hd : ∀ H ys, But pu H1 H → Purse H pu (N + cost * n) → H D = some (.lst ys) → Paired (fun i y => R i y (off2 H D pu)) (List.range n) ys → Qd H) :
    ∃ W : Nat → Nat → Hp → Prop, (∃ m, W 0 m (L2.upd H1 D (.lst []))) ∧ ∀ i m H, W i m H →
      (J.stop i H ∧ Qd H) ∨ (J.go i H ∧ ∃ Nx : Hp → Prop, (∀ H', Nx H' → ∃ m', m' < m ∧ W (i + 1) m' H') ∧ ∀ x H', J.yld i H x H' → g x (wipe σ vs) H' fun σ2 H2 => wipe σ2 vs = wipe σ vs ∧ tt σ2 H2 fun b H3 =>
        if b = true then te σ2 H3 fun y H4 => ∃ acc, H4 D = some (.lst acc) ∧ acc.length < sizeLine ∧ Nx (L2.upd H4 D (.lst (acc ++ [y]))) else Nx H3) := by
  have nD : D ≠ pu := fresh_ne hP hD
  refine lc_it w (fun i H => But pu H1 H ∧ Purse H pu (N + cost * i) ∧ ∃ ys, H D = some (.lst ys) ∧ ys.length = i ∧ Paired (fun i y => R i y (off2 H D pu)) (List.range i) ys)
    ⟨But.of (Same.updf hD), hP.same' (upd_ne nD.symm), [], upd_same, rfl, .nil⟩ (fun i H _ h => hG H h.1) (fun i x H H' hi hPv hy => ?_) (fun H h => ?_)
  · obtain ⟨b1, PM, ys, hD', ly, py⟩ := hPv
    refine hs i x H H' _ _ hi b1 PM ⟨ys, hD'⟩ hy (fun y H4 b4 P4 r => ?_)
    have l2 : (100000 : Nat) < sizeLine := by decide
    refine ⟨ys, b4 _ _ nD hD', by omega, fun b o nb eb => ?_, P4.same' (upd_ne nD.symm), ys ++ [y], upd_same, by rw [List.length_append, ly]; rfl, ?_⟩
    · rw [upd_ne (ne_of_none eb hD)]
      exact b4 _ _ nb (b1 _ _ nb eb)
    · rw [List.range_succ]
      exact paired_snoc (paired_mono (fun i y h => hR i y _ _ ((off2_but b4).trans off2_upd) h) py) (hR _ _ _ _ off2_upd r)
  · obtain ⟨b1, PM, ys, hD', ly, py⟩ := h
    exact hd H ys b1 PM hD' py
end KB
set_option Elab.async false
set_option linter.all false
set_option maxRecDepth 100000
set_option maxHeartbeats 4000000
/-! list(range(a, b, c)). -/
namespace KB
open PySem PySem.Spec PyProof.Rows L2
/-- the items of a range with a step -/
def rgC (i c : Int) (n : Nat) : List V := (List.range n).map fun k : Nat => V.int (i + (k : Int) * c)
def tLstRg3 (ta : TA) : TE := fun σ H Q => ta σ H fun vs H1 => ∃ (i j c : Int) (n : Nat), vs = [.int i, .int j, .int c] ∧ c ≠ 0 ∧ Builtin.divisionGoesByPylong (j - i) c = false ∧ Builtin.Range.small i j c = true ∧ Builtin.Range.rangeSize i j c = (n : Int) ∧ n ≤ 2 ^ 24 ∧ ∀ q, H1 q = none → Q (.ref q) (upd H1 q (.lst (rgC i c n)))
theorem vals_rgC {i c : Int} {n : Nat} {acc : Array Value} (h : ItemsOf (fun k v => ∃ t, v = Value.int (i + (k : Int) * c) t) acc n) : Vals (rgC i c n) acc.toList := by
  obtain ⟨h1, h2⟩ := h
  have g : ∀ (xs : List Value) (m : Nat), (∀ (j : Nat) (v : Value), xs[j]? = some v → ∃ t, v = Value.int (i + ((m + j : Nat) : Int) * c) t) → Vals ((List.range' m xs.length).map fun k : Nat => V.int (i + (k : Int) * c)) xs := fun xs => by
    induction xs with
    | nil => exact fun _ _ => .nil
    | cons v xs ih =>
      intro m h
      obtain ⟨t, e⟩ := h 0 v rfl
      refine .cons ⟨t, e⟩ (ih (m + 1) fun j v e => ?_)
      obtain ⟨t, e⟩ := h (j + 1) v e
      exact ⟨t, by rw [e, show m + (j + 1) = m + 1 + j by omega]⟩
  have := g acc.toList 0 fun j v e => by
    obtain ⟨t, e⟩ := h2 j v (by rw [← Array.getElem?_toList]; exact e)
    exact ⟨t, by rw [e, Nat.zero_add]⟩
  unfold rgC
  rw [List.range_eq_range', ← h1, ← Array.length_toList]
  exact this
section
variable {X : Cx} {a b c : Expr} {ta : TA} {p p2 pos pos2 : Pos}
theorem pe_listRg3 (hc : X.calm = true) (hg : Gl X "list") (hm : X.mg "list" = none) (hg2 : Gl X "range") (hm2 : X.mg "range" = none) (ha : PA X [a, b, c] ta)
    (hs : starEach [a, b, c] X.env = (false, eval a X.env) :: starEach [b, c] X.env := by rfl) (hpl : (backTo pos2 (starEach [b, c] X.env)).any (fun x => x.fst) = false := by rfl)
    (na : starEach [Expr.Call (.Name "range" p2) [a, b, c] [] pos2] X.env = (false, eval (Expr.Call (.Name "range" p2) [a, b, c] [] pos2) X.env) :: starEach [] X.env := by rfl) :
    PE X (.Call (.Name "list" p) [.Call (.Name "range" p2) [a, b, c] [] pos2] [] pos) (tLstRg3 ta) := by
  refine ⟨fun pins s σ H Q I h => ?_⟩
  have inner : wpAny (model X.prog X.w) X.A (eval (Expr.Call (.Name "range" p2) [a, b, c] [] pos2) X.env) (fun x s1 => ∃ (r : Addr) (i j k : Int) (n : Nat) (t u v : Tok) (H1 : Hp), x = Value.ref r ∧ IsRange s1.heap r i j k t u v ∧ L2.Inv X pins σ H1 s1 ∧ Builtin.Range.small i j k = true ∧ Builtin.Range.rangeSize i j k = (n : Int) ∧ n ≤ 2 ^ 24 ∧ ∀ q, H1 q = none → Q (.ref q) (upd H1 q (.lst (rgC i k n)))) X.xe s := by
    refine Call_ (ld_blt I hg2 hm2 boot_range (PyProof.Rows.callWith_type1 (thn (ha.run pos2 pins s σ H _ I h) fun us s1 hx => ?_) hs hpl) (by decide) (by decide)) rfl
    obtain ⟨vs, H1, I1, r1, i, j, k, n, rfl, k0, kd, ks, kn, n24, q⟩ := hx
    obtain ⟨u1, u2, u3, rfl, r2, r3, r4⟩ : ∃ u1 u2 u3, us = [u1, u2, u3] ∧ RelV (.int i) u1 ∧ RelV (.int j) u2 ∧ RelV (.int k) u3 := by
      cases r1 with
      | cons a r => cases r with
        | cons b r => cases r with
          | cons c r => cases r with
            | nil => exact ⟨_, _, _, rfl, a, b, c⟩
    obtain ⟨t, rfl⟩ := r2
    obtain ⟨u, rfl⟩ := r3
    obtain ⟨v, rfl⟩ := r4
    refine call_range_3 k0 ?_ (.inl kd)
    exact ⟨_, i, j, k, n, t, u, v, H1, rfl, IsRange.new s1.heap i j k t u v, I1.kept fun b o e => Heap.get?_push_of_some _ e, ks, kn, n24, q⟩
  refine Call_ (ld_blt I hg hm boot_list (PyProof.Rows.callWith_type1 (args_cons (thn inner fun x s1 hx => ?_) na) na rfl) (by decide) (by decide)) rfl
  obtain ⟨r, i, j, k, n, t, u, v, H1, rfl, hr, I1, ks, kn, n24, q⟩ := hx
  refine args_nil ?_
  refine call_list_range (I1.ok.hd hc) hr ks kn n24 fun h' tk acc c' hk e' hi => ?_
  refine ⟨.ref s1.heap.objs.size, upd H1 s1.heap.objs.size (.lst (rgC i k n)), I1.laid hk (Nat.le_refl _) ⟨?_, acc.toList, c', vals_rgC hi, ?_⟩, rfl, q _ (I1.hok.fresh (Nat.le_refl _))⟩
  · unfold rgC
    rw [List.length_map, List.length_range]
    exact Nat.le_trans n24 (by decide)
  · rw [Array.toArray_toList]
    exact e'
end
end KB
set_option Elab.async false
set_option linter.all false
set_option maxRecDepth 100000
set_option maxHeartbeats 8000000
/-! The law's runs and waits. -/
namespace K19
open PySem PySem.Spec PyProof.Rows L2 KB LamX
def spEvent (K : PySem.W.Frag) : Sp := fun vs H Q _ => ∃ (pu : Addr) (c N : Nat), vs = [.ref pu, .int (c : Int)] ∧ Purse H pu N ∧ N ≤ 2 ^ 38 ∧ 1 ≤ c ∧ c ≤ 10 ∧
  ∀ t e H', But pu H H' → Purse H' pu (N + 2) → H t = none → H' t = some (.tup (Ev.v e)) → Q (.ref t) H'
def spRun (K : PySem.W.Frag) : Sp := fun vs H Q _ => ∃ (pu : Addr) (m N : Nat), vs = [.ref pu, .int (m : Int)] ∧ Purse H pu N ∧ N ≤ 2 ^ 37 ∧ 1 ≤ m ∧ m ≤ 10 ∧
  ∀ q es H', But pu H H' → Purse H' pu (N + 100) → H q = none → RunOk K (off H' pu) q es → es.length ≤ m → Q (.ref q) H'
def spPairs (K : PySem.W.Frag) : Sp := fun vs H Q _ => ∃ (a : Addr) (es : List Ev), vs = [.ref a] ∧ RunOk K H a es ∧ es.length ≤ 20 ∧ ∀ q ws H', Same H H' → H q = none → WtOk K H' q es ws → Q (.ref q) H'
def spSomeW (K : PySem.W.Frag) : Sp := fun vs H Q _ => ∃ (pu a : Addr) (es : List Ev) (f N : Nat), vs = [.ref pu, .ref a, .int (f : Int)] ∧ Purse H pu N ∧ N ≤ 2 ^ 37 ∧ 1 ≤ f ∧ f ≤ 10 ∧ RunOk K H a es ∧ es.length ≤ 20 ∧
  ∀ q ws H', But pu H H' → Purse H' pu (N + 1000) → H q = none → WtOk K (off H' pu) q es ws → Q (.ref q) H'
section
variable {P : Program} {w : World} {K : PySem.W.Frag} {mg : Str → Option Value} {base : Heap}
abbrev s_event : Stmt := top 39
abbrev N_event : List Str := ["_law_purse_here", "_law_cells", "_law_way"]
theorem sc_event : FnScope N_event ["_law_purse_here", "_law_cells"] (defScope s_event) := ⟨rfl, rfl, rfl, by decide +kernel, rfl, by decide +kernel, by decide +kernel⟩
theorem ok_event {f : Addr} {fd : FuncData} (F : FnP K "_law_event" s_event f fd) (Z : FreeS mg)
    {f_draw : Addr} {d_draw : FuncData} (g_draw : mg "_law_draw" = some (.ref f_draw)) (F_draw : FnP K "_law_draw" s_draw f_draw d_draw) (G_draw : FnOk P w K mg base CX0 2 f_draw d_draw ["_law_purse_here", "_law_many"] spDraw) :
    FnOk P w K mg base CX0 3 f fd ["_law_purse_here", "_law_cells"] (spEvent K) := by
  have b_draw : Binds K d_draw ["_law_purse_here", "_law_many"] [] := F_draw.bindsN fun _ _ _ _ _ _ us hl => match us, hl with | [_, _], _ => rfl
  refine F.ok sc_event (fun vs H Q E h => ?_) (fun cdv A outer s H vs Q E hr h => ?_)
  · obtain ⟨pu, c, N, rfl, _⟩ := h
    rfl
  · obtain ⟨pu, c, N, rfl, hP, hN, c1, c10, k⟩ := h
    have sl : (10000 : Nat) ≤ sizeLine := by decide
    have m8 : mixes 8 = 1 := mixes_one (by decide) (by decide)
    have mc : mixes (c : Int) = 1 := mixes_one (by omega) (by omega)
    have nd := sc_event.nd
    refine ⟨_, PSs.nox (pss_cons (ps_set (i := 2) nd rfl (Or.inl rfl) (pe_call G_draw (hr.mono (by decide)) rfl g_draw F_draw.kp b_draw .nil pass0 (pa_cons (pv 0) (pa_cons (pe_int) (pa_nil)))))
      (pss_one (ps_ret (pe_ifExp (pt_cmpR op_lt (pv 2) (pe_int) (nomark _)) (pe_tup (pa_cons (pe_str) (pa_cons (pe_call G_draw (hr.mono (by decide)) rfl g_draw F_draw.kp b_draw .nil pass0 (pa_cons (pv 0) (pa_cons (pv 1) (pa_nil)))) (pa_nil)))) (pe_ifExp (pt_cmpR op_lt (pv 2) (pe_int) (nomark _)) (pe_tup (pa_cons (pe_str) (pa_nil))) (pe_tup (pa_cons (pe_str) (pa_nil)))))))), ?_⟩
    refine ⟨_, rfl, pu, 8, N, rfl, by decide, log_small (by decide) (by decide), hP, by rw [m8]; omega, by rw [m8]; omega, fun r G1 r0 r1 b1 P1 => ?_⟩
    rw [m8] at P1
    dsimp only [cxOf, Cx.nox]
    refine ⟨_, rfl, _, _, rfl, rfl, _, rfl, ?_⟩
    by_cases h5 : r < 5
    · refine iteP h5 ⟨_, rfl, _, rfl, pu, c, N + 1, rfl, by omega, log_small (by omega) (by omega), P1, by rw [mc]; omega, by rw [mc]; omega, fun r2 G2 r0' r1' b2 P2 => ?_⟩
      rw [mc] at P2
      obtain ⟨r2, rfl⟩ : ∃ z : Nat, r2 = (z : Int) := ⟨r2.toNat, by omega⟩
      refine ⟨(by show 2 ≤ sizeLine; omega), fun t ht => ?_⟩
      have nt := fresh_ne P2 ht
      have s := Same.updf (o := .tup [V.str "write", V.int (r2 : Int)]) ht
      exact k t (.wr r2) _ ((b1.trans b2).trans (But.of s)) (P2.same s) ((b1.trans b2).none nt ht) upd_same
    · refine iteQ h5 ⟨_, rfl, _, _, rfl, rfl, _, rfl, ?_⟩
      by_cases h7 : r < 7
      · refine iteP h7 ⟨(by show 1 ≤ sizeLine; omega), fun t ht => ?_⟩
        have nt := fresh_ne P1 ht
        have s := Same.updf (o := .tup [V.str "barrier"]) ht
        exact k t .bar _ (b1.trans (But.of s)) ((P1.same s).mono (by omega)) (b1.none nt ht) upd_same
      · refine iteQ h7 ⟨(by show 1 ≤ sizeLine; omega), fun t ht => ?_⟩
        have nt := fresh_ne P1 ht
        have s := Same.updf (o := .tup [V.str "tell"]) ht
        exact k t .tell _ (b1.trans (But.of s)) ((P1.same s).mono (by omega)) (b1.none nt ht) upd_same
abbrev s_run : Stmt := top 40
abbrev N_run : List Str := ["_law_purse_here", "_law_most", "_law_cells", "_law_turn"]
theorem sc_run : FnScope N_run ["_law_purse_here", "_law_most"] (defScope s_run) := ⟨rfl, rfl, rfl, by decide +kernel, rfl, by decide +kernel, by decide +kernel⟩
theorem ok_run {f : Addr} {fd : FuncData} (F : FnP K "_law_run" s_run f fd) (Z : FreeS mg)
    {f_draw : Addr} {d_draw : FuncData} (g_draw : mg "_law_draw" = some (.ref f_draw)) (F_draw : FnP K "_law_draw" s_draw f_draw d_draw) (G_draw : FnOk P w K mg base CX0 2 f_draw d_draw ["_law_purse_here", "_law_many"] spDraw)
    {f_event : Addr} {d_event : FuncData} (g_event : mg "_law_event" = some (.ref f_event)) (F_event : FnP K "_law_event" s_event f_event d_event) (G_event : FnOk P w K mg base CX0 3 f_event d_event ["_law_purse_here", "_law_cells"] (spEvent K)) :
    FnOk P w K mg base CX0 4 f fd ["_law_purse_here", "_law_most"] (spRun K) := by
  have b_draw : Binds K d_draw ["_law_purse_here", "_law_many"] [] := F_draw.bindsN fun _ _ _ _ _ _ us hl => match us, hl with | [_, _], _ => rfl
  have b_event : Binds K d_event ["_law_purse_here", "_law_cells"] [] := F_event.bindsN fun _ _ _ _ _ _ us hl => match us, hl with | [_, _], _ => rfl
  refine F.ok sc_run (fun vs H Q E h => ?_) (fun cdv A outer s H vs Q E hr h => ?_)
  · obtain ⟨pu, m, N, rfl, _⟩ := h
    rfl
  · obtain ⟨pu, m, N, rfl, hP, hN, m1, m10, k⟩ := h
    have sl : (10000 : Nat) ≤ sizeLine := by decide
    have m4 : mixes 4 = 1 := mixes_one (by decide) (by decide)
    have mm : mixes (m : Int) = 1 := mixes_one (by omega) (by omega)
    have nd := sc_run.nd
    refine ⟨_, PSs.nox (pss_cons (ps_set (i := 2) nd rfl (Or.inr rfl) (pe_op op_add (pe_int) (pe_call G_draw (hr.mono (by decide)) rfl g_draw F_draw.kp b_draw .nil pass0 (pa_cons (pv 0) (pa_cons (pe_int) (pa_nil))))))
      (pss_one (ps_ret (pe_lc (own := [("_law_turn", 3)]) (g := gName 3) (tt := tYes) (te := tCall (spEvent K) [] E0 (tCons (tVar 0) (tCons (tVar 2) (tNil)))) (by rfl) nd (pi_range1 (by rfl) Z.range (pa_cons (pe_op op_add (pe_int) (pe_call G_draw (hr.mono (by decide)) rfl g_draw F_draw.kp b_draw .nil pass0 (pa_cons (pv 0) (pa_cons (pv 1) (pa_nil))))) (pa_nil)))
          (blkOk_by (own := [("_law_turn", 3)]) (N := N_run) (sc := defScope s_run) (by decide +kernel)) (fun _ _ _ _ _ => pg_name (i := 3) nd rfl (Or.inl rfl)) (fun _ _ _ _ _ => pts_nil)
          (fun _ _ _ _ _ => pe_call G_event (hr.mono (by decide)) rfl g_event F_event.kp b_event .nil pass0 (pa_cons (pv 0) (pa_cons (pv 2) (pa_nil)))))))), ?_⟩
    refine ⟨_, rfl, pu, 4, N, rfl, by decide, log_small (by decide) (by decide), hP, by rw [m4]; omega, by rw [m4]; omega, fun r G1 r0 r1 b1 P1 => ?_⟩
    rw [m4] at P1
    obtain ⟨r, rfl⟩ : ∃ z : Nat, r = (z : Int) := ⟨r.toNat, by omega⟩
    refine ⟨_, _, rfl, rfl, ?_⟩
    refine ⟨_, rfl, _, rfl, pu, m, N + 1, rfl, by omega, log_small (by omega) (by omega), P1, by rw [mm]; omega, by rw [mm]; omega, fun r2 G2 q0 q1 b2 P2 => ?_⟩
    rw [mm] at P2
    obtain ⟨r2, rfl⟩ : ∃ z : Nat, r2 = (z : Int) := ⟨r2.toNat, by omega⟩
    refine ⟨_, _, rfl, rfl, ((1 + r2 : Nat) : Int), rfl, by omega, by omega, fun D hD => ?_⟩
    rw [Int.toNat_natCast]
    have b12 := b1.trans b2
    have nD := fresh_ne P2 hD
    refine lc_but (n := 1 + r2) (pu := pu) (N := N + 1 + 1) (cost := 2) (walk_range (lo := 0) (n := 1 + r2)) (fun _ y G => ∃ (t : Addr) (e : Ev), y = .ref t ∧ SqT K G t e.v) (fun _ y G G' s ⟨t, e, h1, h2⟩ => ⟨t, e, h1, SqT_up s h2⟩) (by omega) P2 hD (fun G _ => trivial) ?_ ?_
    · rintro i x Ga Gb Qy Qn hi ba Pa hacc ⟨rfl, rfl⟩ ky_
      obtain ⟨acc, hacc⟩ := hacc
      refine ⟨rfl, ?_⟩
      refine ⟨_, rfl, _, rfl, pu, 1 + r, _, rfl, Pa, by omega, by omega, by omega, fun t e Gc bc Pc nt ht => ?_⟩
      refine ky_ _ _ bc (Pc.mono (by omega)) ⟨t, e, rfl, SqT.of (off2_at (fun z => ?_) (fun z => ?_) ht)⟩
      · rw [z, hacc] at nt
        cases nt
      · obtain ⟨A0, B0, c0, i0, eP, _⟩ := Pa.at_
        rw [z, eP] at nt
        cases nt
    · intro G3 ys b3 P3 hys py
      have hpy : ∃ es : List Ev, es.length = ys.length ∧ Paired (fun (e : Ev) y => ∃ t, y = .ref t ∧ SqT K (off G3 pu) t e.v) es ys := by
        clear hys
        have : ∀ {is : List Nat} {ys : List V}, Paired (fun (_ : Nat) y => ∃ (t : Addr) (e : Ev), y = .ref t ∧ SqT K (off2 G3 D pu) t e.v) is ys → ∃ es : List Ev, es.length = ys.length ∧ Paired (fun (e : Ev) y => ∃ t, y = .ref t ∧ SqT K (off G3 pu) t e.v) es ys := fun h => by
          induction h with
          | nil => exact ⟨[], rfl, .nil⟩
          | cons r t ih =>
            obtain ⟨u, e, h1, h2⟩ := r
            obtain ⟨es, l, q⟩ := ih
            exact ⟨e :: es, congrArg (· + 1) l, .cons ⟨u, h1, SqT_up off2_le h2⟩ q⟩
        exact this py
      obtain ⟨es, les, pes⟩ := hpy
      have lys := paired_len py
      rw [List.length_range] at lys
      have hyo : off G3 pu D = some (.lst ys) := by rw [off_at nD]; exact hys
      refine k D es G3 (b12.trans b3) (P3.mono (by omega)) (b12.none nD hD) ⟨LsT.of_paired hyo pes, fun z => ?_, by omega⟩ (by omega)
      rw [z] at les
      simp at les
      omega
abbrev s_pairs_of : Stmt := top 41
abbrev N_pairs_of : List Str := ["_law_run_here", "_law_found", "_law_late", "_law_event_here", "_law_early"]
theorem sc_pairs_of : FnScope N_pairs_of ["_law_run_here"] (defScope s_pairs_of) := ⟨rfl, rfl, rfl, by decide +kernel, rfl, by decide +kernel, by decide +kernel⟩
theorem ok_pairs_of {f : Addr} {fd : FuncData} (F : FnP K "_law_pairs_of" s_pairs_of f fd) (Z : FreeS mg) :
    FnOk P w K mg base CX0 1 f fd ["_law_run_here"] (spPairs K) := by
  refine F.ok sc_pairs_of (fun vs H Q E h => ?_) (fun cdv A outer s H vs Q E hr h => ?_)
  · obtain ⟨a, es, rfl, _⟩ := h
    rfl
  · obtain ⟨a, es, rfl, hR, l20, k⟩ := h
    obtain ⟨ts, ha, lt, ht⟩ := hR.at_.got
    have sl : (10000 : Nat) ≤ sizeLine := by decide
    have nd := sc_pairs_of.nd
    refine ⟨_, PSs.nox (pss_cons (ps_set (i := 1) nd rfl (Or.inl rfl) (pe_lst (pa_nil)))
      (pss_cons (ps_for PassesOwn.never rfl (pi_enum (by rfl) Z.enumerate (pa_cons (pv 0) (pa_nil))) (pg_tup rfl (pgs_cons (pg_name (i := 2) nd rfl (Or.inl rfl)) (pgs_cons (pg_name (i := 3) nd rfl (Or.inl rfl)) (pgs_nil))))
        (pss_one (ps_for PassesOwn.never rfl (pi_range1 (by rfl) Z.range (pa_cons (pv 2) (pa_nil))) (pg_name (i := 4) nd rfl (Or.inl rfl))
        (pss_one (ps_if (PW.pt (pw_and (pt_cmpR op_eq (pe_ix ix_tup (pe_ix ix_list (pv 0) (pv 4) (fun _ _ => rfl)) (pe_int) (fun _ _ => rfl)) (pe_str) (nomark _)) (pw_and1 (PW.pt (pw_or (pt_cmpR op_eq (pe_ix ix_tup (pv 3) (pe_int) (fun _ _ => rfl)) (pe_str) (nomark _)) (pw_or1 (PW.pt (pw_and (pt_cmpR op_eq (pe_ix ix_tup (pv 3) (pe_int) (fun _ _ => rfl)) (pe_str) (nomark _)) (pw_and1 (pt_cmpR (op_neD hr.units) (pv 3) (pe_ix ix_list (pv 0) (pv 4) (fun _ _ => rfl)) (nomark _))))))))))) (pss_one (ps_expr (pe_bm PySem.F.plainAttrs_list PySem.F.slot_list_append PySem.F.type_list_append mt_append (pv 1) (pa_cons (pe_tup (pa_cons (pv 4) (pa_cons (pv 2) (pa_nil)))) (pa_nil))))) (pss_nil))))))
      (pss_one (ps_ret (pe_callB ((cr_sortedT hr.units)) (by rfl) Z.sorted (by decide +kernel) (pa_cons (pv 1) (pa_nil))))))), ?_⟩
    refine ⟨(by show 0 ≤ sizeLine; omega), fun q hq => ?_⟩
    dsimp only [cxOf, Cx.nox]
    have s1 := Same.updf (o := .lst []) hq
    have hq1 : (upd H q (.lst [])) q = some (.lst []) := upd_same
    obtain ⟨G1, eG⟩ : ∃ X, X = upd H q (.lst []) := ⟨_, rfl⟩
    rw [← eG] at s1 hq1 ⊢
    clear eG
    have ha1 := s1 _ _ ha
    have naq : a ≠ q := ne_of_none ha hq
    refine ⟨_, rfl, a, _, rfl, SqL.of ha1, ?_⟩
    have tk : ∀ {G : Hp}, But q G1 G → ∀ (j : Nat) (hj : j < es.length), ∃ t, (ts.map V.ref)[j]? = some (.ref t) ∧ SqT K G t (es[j]'hj).v := fun bG j hj => by
      obtain ⟨t, e1, e2⟩ := ht j hj
      exact ⟨t, e1, SqT_but bG (SqT_up s1 e2) ⟨_, hq1⟩⟩
    refine for_it (n := es.length) (by have := walk_enum (K := K) (a := a) (xs := ts.map V.ref); rw [List.length_map, lt] at this; exact this) (fun i σ G => But q G1 G ∧ ∃ (acc : List (Nat × Nat)) (ys : List V), G q = some (.lst ys) ∧ Paired (fun w y => IntsAt G (iv w) y) acc ys ∧ acc.Nodup ∧ (∀ w ∈ acc, WaitOk es w ∧ w.2 < i) ∧ acc.length ≤ 20 * i ∧ ∃ v2 v3 v4, σ = [some (.ref a), some (.ref q), v2, v3, v4])
      ⟨But.refl _ _, [], [], hq1, .nil, List.nodup_nil, (fun w h => nomatch h), Nat.zero_le _, none, none, none, rfl⟩ (fun i σ G _ hh => SqL.of (hh.1 _ _ naq ha1)) ?_ ?_
    · rintro i v σ G' G hi ⟨bG, acc, ys, hqG, py, nd, hok, la, v2, v3, v4, rfl⟩ ⟨T, x1, x2, rfl, nT, rfl, g1, g2⟩
      dsimp only at g1 g2
      obtain rfl := Option.some.inj g1
      obtain ⟨t, e1, _⟩ := ht i hi
      rw [e1] at g2
      obtain rfl := Option.some.inj g2
      have sT := Same.updf (o := .tup [V.int (i : Nat), V.ref t]) nT
      have bT : But q G1 (upd G' T (.tup [V.int (i : Nat), V.ref t])) := bG.trans (But.of sT)
      have pT := paired_mono (fun w y h => IntsAt.same sT h) py
      have qT := sT _ _ hqG
      have hTT : SqT K (upd G' T (.tup [V.int (i : Nat), V.ref t])) T [V.int (i : Nat), V.ref t] := SqT.of upd_same
      obtain ⟨G2, eG⟩ : ∃ X, X = upd G' T (.tup [V.int (i : Nat), V.ref t]) := ⟨_, rfl⟩
      rw [← eG] at bT pT qT hTT ⊢
      clear eG sT py hqG bG nT
      refine ⟨T, [_, _], rfl, hTT, rfl, _, [_], rfl, _, [], rfl, rfl, ?_⟩
      refine ⟨_, rfl, (i : Int), rfl, by omega, by omega, ?_⟩
      rw [Int.toNat_natCast]
      refine for_range (lo := 0) (n := i) (fun j σ G => But q G1 G ∧ ∃ (acc : List (Nat × Nat)) (ys : List V), G q = some (.lst ys) ∧ Paired (fun w y => IntsAt G (iv w) y) acc ys ∧ acc.Nodup ∧ (∀ w ∈ acc, WaitOk es w ∧ (w.2 < i ∨ w.2 = i ∧ w.1 < j)) ∧ acc.length ≤ 20 * i + j ∧ ∃ v4, σ = [some (.ref a), some (.ref q), some (.int (i : Nat)), some (.ref t), v4])
        ⟨bT, acc, ys, qT, pT, nd, fun w h => ⟨(hok w h).1, .inl (hok w h).2⟩, by omega, v4, rfl⟩ ?_ ?_
      · rintro j σ G hj ⟨bG, acc, ys, hqG, py, nd, hok, la, v4', rfl⟩
        have hj : j < i := hj
        obtain ⟨tj, f1, f2⟩ := tk bG j (by omega)
        obtain ⟨ti, h1, h2⟩ := tk bG i hi
        rw [e1] at h1
        obtain rfl := V.ref.inj (Option.some.inj h1)
        have haG := bG _ _ naq ha1
        have ly := paired_len py
        have skip : But q G1 G ∧ ∃ (acc : List (Nat × Nat)) (ys : List V), G q = some (.lst ys) ∧ Paired (fun w y => IntsAt G (iv w) y) acc ys ∧ acc.Nodup ∧ (∀ w ∈ acc, WaitOk es w ∧ (w.2 < i ∨ w.2 = i ∧ w.1 < j + 1)) ∧ acc.length ≤ 20 * i + (j + 1) ∧ ∃ v4, [some (V.ref a), some (.ref q), some (.int (i : Nat)), some (.ref t), some (.int (0 + (j : Int)))] = [some (V.ref a), some (.ref q), some (.int (i : Nat)), some (.ref t), v4] :=
          ⟨bG, acc, ys, hqG, py, nd, fun w h => ⟨(hok w h).1, (hok w h).2.imp id fun z => ⟨z.1, by omega⟩⟩, by omega, _, rfl⟩
        have grow : WaitOk es (j, i) → ∀ (T2 : Addr), G T2 = none → (upd G T2 (.tup [V.int (0 + (j : Int)), V.int (i : Nat)])) q = some (.lst ys) ∧ ys.length < sizeLine ∧ (But q G1 (upd (upd G T2 (.tup [V.int (0 + (j : Int)), V.int (i : Nat)])) q (.lst (ys ++ [.ref T2]))) ∧ ∃ (acc : List (Nat × Nat)) (ys' : List V), (upd (upd G T2 (.tup [V.int (0 + (j : Int)), V.int (i : Nat)])) q (.lst (ys ++ [.ref T2]))) q = some (.lst ys') ∧ Paired (fun w y => IntsAt (upd (upd G T2 (.tup [V.int (0 + (j : Int)), V.int (i : Nat)])) q (.lst (ys ++ [.ref T2]))) (iv w) y) acc ys' ∧ acc.Nodup ∧ (∀ w ∈ acc, WaitOk es w ∧ (w.2 < i ∨ w.2 = i ∧ w.1 < j + 1)) ∧ acc.length ≤ 20 * i + (j + 1) ∧ ∃ v4, [some (V.ref a), some (.ref q), some (.int (i : Nat)), some (.ref t), some (.int (0 + (j : Int)))] = [some (V.ref a), some (.ref q), some (.int (i : Nat)), some (.ref t), v4]) := fun ok T2 n2 => by
          have sT := Same.updf (o := .tup [V.int (0 + (j : Int)), V.int (i : Nat)]) n2
          have nq2 : T2 ≠ q := fun z => by rw [z, hqG] at n2; cases n2
          have up : ∀ {w y}, IntsAt (upd G T2 (.tup [V.int (0 + (j : Int)), V.int (i : Nat)])) (iv w) y → IntsAt (upd (upd G T2 (.tup [V.int (0 + (j : Int)), V.int (i : Nat)])) q (.lst (ys ++ [.ref T2]))) (iv w) y := fun {w y} ⟨u, eu, hu⟩ => ⟨u, eu, by
            rw [upd_ne (fun z => by rw [z, sT _ _ hqG] at hu; cases hu)]
            exact hu⟩
          refine ⟨sT _ _ hqG, by omega, (bG.trans (But.of sT)).trans But.upd', acc ++ [(j, i)], _, upd_same, paired_snoc (paired_mono (fun w y h => up (IntsAt.same sT h)) py) (up ⟨T2, rfl, ?_⟩), ?_, fun w hw => ?_, by rw [List.length_append]; show _ + 1 ≤ _; omega, _, rfl⟩
          · rw [upd_same]
            show some (HO.tup [V.int (0 + (j : Int)), V.int (i : Int)]) = some (HO.tup [V.int (j : Int), V.int (i : Int)])
            rw [Int.zero_add]
          · refine List.nodup_append.mpr ⟨nd, List.pairwise_singleton _ _, fun x hx y hy z => ?_⟩
            rw [List.mem_singleton.mp hy] at z
            have := (hok x hx).2
            rw [z] at this
            simp at this
          · rcases List.mem_append.mp hw with m | m
            · exact ⟨(hok w m).1, (hok w m).2.imp id fun z => ⟨z.1, by omega⟩⟩
            · rw [List.mem_singleton.mp m]
              exact ⟨ok, .inr ⟨rfl, by show j < j + 1; omega⟩⟩
        have aj : atI (ts.map V.ref) (0 + (j : Int)) = some (.ref tj) := by rw [Int.zero_add]; exact atI_nat f1
        cases q1 : es[j]'(by omega) with
        | bar =>
          rw [q1] at f2
          exact ⟨_, rfl, _, rfl, a, _, _, _, rfl, rfl, SqL.of haG, aj, tj, _, 0, _, rfl, rfl, f2, rfl, rfl, _, rfl, iteF skip⟩
        | tell =>
          rw [q1] at f2
          exact ⟨_, rfl, _, rfl, a, _, _, _, rfl, rfl, SqL.of haG, aj, tj, _, 0, _, rfl, rfl, f2, rfl, rfl, _, rfl, iteF skip⟩
        | wr c =>
          rw [q1] at f2
          refine ⟨_, rfl, _, rfl, a, _, _, _, rfl, rfl, SqL.of haG, aj, tj, _, 0, _, rfl, rfl, f2, rfl, rfl, _, rfl, iteT ?_⟩
          have wok : (es[i]'hi = .tell ∨ ∃ c', es[i]'hi = .wr c' ∧ c' ≠ c) → WaitOk es (j, i) := fun h => ⟨hj, hi, c, by show es[j]? = _; rw [List.getElem?_eq_getElem (by omega), q1], by
            show es[i]? = _ ∨ ∃ c', es[i]? = _ ∧ _
            rw [List.getElem?_eq_getElem hi]
            rcases h with h | ⟨c', h, n⟩
            · exact .inl (by rw [h])
            · exact .inr ⟨c', by rw [h], n⟩⟩
          cases q2 : es[i]'hi with
          | bar =>
            rw [q2] at h2
            refine ⟨_, rfl, t, _, 0, _, rfl, rfl, h2, rfl, rfl, _, rfl, iteF ?_⟩
            exact ⟨_, rfl, t, _, 0, _, rfl, rfl, h2, rfl, rfl, _, rfl, iteF (iteF skip)⟩
          | tell =>
            rw [q2] at h2
            refine ⟨_, rfl, t, _, 0, _, rfl, rfl, h2, rfl, rfl, _, rfl, iteT (iteT ?_)⟩
            refine ⟨_, rfl, Or.inl ⟨rfl, _, SqL.of hqG⟩, _, rfl, _, rfl, (by show 2 ≤ sizeLine; omega), fun T2 n2 => ?_⟩
            obtain ⟨y1, y2, y3⟩ := grow (wok (.inl q2)) T2 n2
            exact ⟨q, _, _, rfl, rfl, y1, y2, y3⟩
          | wr c' =>
            rw [q2] at h2
            refine ⟨_, rfl, t, _, 0, _, rfl, rfl, h2, rfl, rfl, _, rfl, iteF ?_⟩
            refine ⟨_, rfl, t, _, 0, _, rfl, rfl, h2, rfl, rfl, _, rfl, iteT ?_⟩
            refine ⟨_, rfl, _, rfl, _, rfl, a, _, _, _, rfl, rfl, SqL.of haG, aj, _, _, Ev.dp h2, Ev.dp f2, shaped_ev _, shaped_ev _, _, rfl, ?_⟩
            rw [eqv_ev]
            by_cases z : Ev.wr c' = Ev.wr c
            · rw [decide_eq_true z]
              exact iteF skip
            · rw [decide_eq_false z]
              refine iteT ?_
              refine ⟨_, rfl, Or.inl ⟨rfl, _, SqL.of hqG⟩, _, rfl, _, rfl, (by show 2 ≤ sizeLine; omega), fun T2 n2 => ?_⟩
              obtain ⟨y1, y2, y3⟩ := grow (wok (.inr ⟨c', q2, fun e => z (by rw [e])⟩)) T2 n2
              exact ⟨q, _, _, rfl, rfl, y1, y2, y3⟩
      · rintro σ G ⟨bG, acc, ys, hqG, py, nd, hok, la, v4', rfl⟩
        exact ⟨bG, acc, ys, hqG, py, nd, fun w h => ⟨(hok w h).1, by have := (hok w h).2; omega⟩, by omega, _, _, _, rfl⟩
    · rintro σ G ⟨bG, acc, ys, hqG, py, nd, hok, la, v2, v3, v4, rfl⟩
      refine via_nx ?_
      have pm : Paired (IntsAt G) (acc.map iv) ys := paired_mapG py
      refine ⟨_, rfl, q, ys, acc.map iv, rfl, SqL.of hqG, pm, (fun t ht => ?_), fun p zs hp pz => ?_⟩
      · obtain ⟨w, _, rfl⟩ := List.mem_map.mp ht
        exact fun z => by cases z
      · have sp := Same.updf (o := .lst zs) hp
        have sH : Same H (upd G p (.lst zs)) := fun c o e => sp _ _ (bG _ _ (ne_of_none e hq) (s1 _ _ e))
        have np : H p = none := none_back (fun c o e => bG _ _ (ne_of_none e hq) (s1 _ _ e)) hp
        rw [sortT_iv] at pz
        refine k p (sortP acc) _ sH np ⟨?_, ⟨fun w hw => (hok w (sortP_mem.mp hw)).1, sortP_asc nd⟩, ?_⟩
        · obtain ⟨ts', h1, h2, h3⟩ := (LsT.of_paired (K := K) (vv := fun t : List Int => t.map V.int) (upd_same (H := G) (a := p) (o := .lst zs)) (paired_mono (fun x y ⟨u, e, h⟩ => ⟨u, e, SqT.of (sp _ _ h)⟩) pz)).ex
          refine ⟨ts', h1, by rw [h2, List.length_map], fun i u x q1 q2 => ?_⟩
          exact h3 i u (iv x) q1 (by rw [List.getElem?_map, q2]; rfl)
        · have : (sortP acc).length = acc.length := List.length_mergeSort _
          omega
abbrev s_some_waits : Stmt := top 42
abbrev N_some_waits : List Str := ["_law_purse_here", "_law_run_here", "_law_few", "_law_wait"]
theorem sc_some_waits : FnScope N_some_waits ["_law_purse_here", "_law_run_here", "_law_few"] (defScope s_some_waits) := ⟨rfl, rfl, rfl, by decide +kernel, rfl, by decide +kernel, by decide +kernel⟩
theorem ok_some_waits {f : Addr} {fd : FuncData} (F : FnP K "_law_some_waits" s_some_waits f fd) (Z : FreeS mg)
    {f_pairs_of : Addr} {d_pairs_of : FuncData} (g_pairs_of : mg "_law_pairs_of" = some (.ref f_pairs_of)) (F_pairs_of : FnP K "_law_pairs_of" s_pairs_of f_pairs_of d_pairs_of) (G_pairs_of : FnOk P w K mg base CX0 1 f_pairs_of d_pairs_of ["_law_run_here"] (spPairs K))
    {f_draw : Addr} {d_draw : FuncData} (g_draw : mg "_law_draw" = some (.ref f_draw)) (F_draw : FnP K "_law_draw" s_draw f_draw d_draw) (G_draw : FnOk P w K mg base CX0 2 f_draw d_draw ["_law_purse_here", "_law_many"] spDraw) :
    FnOk P w K mg base CX0 3 f fd ["_law_purse_here", "_law_run_here", "_law_few"] (spSomeW K) := by
  have b_pairs_of : Binds K d_pairs_of ["_law_run_here"] [] := F_pairs_of.bindsN fun _ _ _ _ _ _ us hl => match us, hl with | [_], _ => rfl
  have b_draw : Binds K d_draw ["_law_purse_here", "_law_many"] [] := F_draw.bindsN fun _ _ _ _ _ _ us hl => match us, hl with | [_, _], _ => rfl
  refine F.ok sc_some_waits (fun vs H Q E h => ?_) (fun cdv A outer s H vs Q E hr h => ?_)
  · obtain ⟨pu, a, es, f0, N, rfl, _⟩ := h
    rfl
  · obtain ⟨pu, a, es, f0, N, rfl, hP, hN, f1, f10, hR, l20, k⟩ := h
    have sl : (10000 : Nat) ≤ sizeLine := by decide
    have mf : mixes (f0 : Int) = 1 := mixes_one (by omega) (by omega)
    have nd := sc_some_waits.nd
    refine ⟨_, PSs.nox (pss_one (ps_ret (pe_lc (own := [("_law_wait", 3)]) (g := gName 3) (tt := tTest (tOp rEq (tCall spDraw [] E0 (tCons (tVar 0) (tCons (tVar 2) (tNil)))) (tC (.int 0)))) (te := tVar 3) (by rfl) nd (pi_list (pe_call G_pairs_of (hr.mono (by decide)) rfl g_pairs_of F_pairs_of.kp b_pairs_of .nil pass0 (pa_cons (pv 1) (pa_nil))))
          (blkOk_by (own := [("_law_wait", 3)]) (N := N_some_waits) (sc := defScope s_some_waits) (by decide +kernel)) (fun _ _ _ _ _ => pg_name (i := 3) nd rfl (Or.inl rfl)) (fun _ _ _ _ _ => pts_one (pt_cmpR op_eq (pe_call G_draw (hr.mono (by decide)) rfl g_draw F_draw.kp b_draw .nil pass0 (pa_cons (pv 0) (pa_cons (pv 2) (pa_nil)))) (pe_int) (nomark _)))
          (fun _ _ _ _ _ => pv 3)))), ?_⟩
    refine ⟨_, rfl, a, es, rfl, hR, l20, fun q ws G1 s1 nq hW => ?_⟩
    obtain ⟨tw, hq, ltw, htw⟩ := id hW.at_.ex
    have P1 := hP.same s1
    refine ⟨q, rfl, ⟨_, SqL.of hq⟩, fun D hD => ?_⟩
    have nD := fresh_ne P1 hD
    have npq : q ≠ pu := fresh_ne hP nq
    have nqD : q ≠ D := fun z => by rw [z, hD] at hq; cases hq
    have sD := Same.updf (o := .lst []) hD
    obtain ⟨zw, ezw⟩ : ∃ z, z = tw.zip ws := ⟨_, rfl⟩
    have z1 : zw.map Prod.fst = tw := by rw [ezw, List.map_fst_zip (by omega)]
    have z2 : zw.map Prod.snd = ws := by rw [ezw, List.map_snd_zip (by omega)]
    have zl : zw.length = ws.length := by rw [← z2, List.length_map]
    have zm : ∀ p ∈ zw, SqT K G1 p.1 (wv p.2) := fun p hp => by
      obtain ⟨i, hi, rfl⟩ := List.getElem_of_mem hp
      refine htw i _ _ ?_ ?_
      · rw [← z1, List.getElem?_map, List.getElem?_eq_getElem hi]
        rfl
      · rw [← z2, List.getElem?_map, List.getElem?_eq_getElem hi]
        rfl
    have lw := hW.len
    refine lc_it (n := ws.length) (by have := walk_list (K := K) (a := q) (xs := tw.map V.ref); rw [List.length_map, ltw] at this; exact this) (fun i G => But pu G1 G ∧ Purse G pu (N + i) ∧ ∃ sel : List (Addr × (Nat × Nat)), sel.Sublist (zw.take i) ∧ G D = some (.lst (sel.map fun p => V.ref p.1)))
      ⟨But.of sD, P1.same sD, [], List.nil_sublist _, upd_same⟩ (fun i G _ h => SqL.of (h.1 _ _ npq hq)) ?_ ?_
    · rintro i x G G' hi ⟨bG, PG, sel, ss, hDG⟩ ⟨rfl, hv⟩
      have ei : zw[i]? = some (zw[i]'(by omega)) := List.getElem?_eq_getElem _
      rw [← z1, List.getElem?_map, List.getElem?_map, ei] at hv
      obtain rfl := Option.some.inj hv
      have tk : zw.take (i + 1) = zw.take i ++ [zw[i]'(by omega)] := by
        rw [List.take_succ, ei]
        rfl
      have ls := ss.length_le
      rw [List.length_take] at ls
      refine ⟨rfl, ?_⟩
      refine ⟨_, rfl, _, rfl, pu, f0, N + i, rfl, by omega, log_small (by omega) (by omega), PG, by rw [mf]; omega, by rw [mf]; omega, fun r G2 r0 r1 b2 P2 => ⟨rfl, _, rfl, ?_⟩⟩
      rw [mf] at P2
      have hD2 := b2 _ _ nD hDG
      have b12 := bG.trans b2
      by_cases c : r = 0
      · refine iteP (by rw [c]) ⟨_, rfl, _, hD2, by rw [List.length_map]; omega, fun b o n e => ?_, P2.same' (upd_ne nD.symm), sel ++ [zw[i]'(by omega)], ?_, ?_⟩
        · rw [upd_ne (ne_of_none e hD)]
          exact b12 _ _ n e
        · rw [tk]
          exact ss.append (List.Sublist.refl _)
        · rw [upd_same, List.map_append]
          rfl
      · refine iteQ (fun z => c (V.int.inj z)) ⟨b12, P2, sel, ?_, hD2⟩
        rw [tk]
        exact ss.trans (List.sublist_append_left _ _)
    · rintro G ⟨bG, PG, sel, ss, hDG⟩
      rw [List.take_of_length_le (by omega)] at ss
      have hDo : off G pu D = some (.lst ((sel.map Prod.fst).map V.ref)) := by
        rw [off_at nD, hDG, List.map_map]
        rfl
      have s2 : (sel.map Prod.snd).Sublist ws := by
        rw [← z2]
        exact ss.map _
      have lsel := s2.length_le
      refine k D (sel.map Prod.snd) G ((But.of s1).trans bG) (PG.mono (by omega)) (none_back s1 hD) ⟨⟨sel.map Prod.fst, hDo, by rw [List.length_map, List.length_map], fun j t x h1 h2 => ?_⟩, ⟨fun w hw => hW.ok.ok w (s2.subset hw), hW.ok.asc.sublist s2⟩, by omega⟩
      rw [List.getElem?_map] at h1 h2
      obtain ⟨p, q1, rfl⟩ := Option.map_eq_some_iff.mp h1
      obtain ⟨p', q2, rfl⟩ := Option.map_eq_some_iff.mp h2
      rw [q1] at q2
      obtain rfl := Option.some.inj q2
      have h := zm p (ss.subset (List.mem_of_getElem? q1))
      have npu : ∀ {o : HO}, G1 p.1 = some o → (∀ xs, o ≠ .lst xs) → p.1 ≠ pu := fun e n z => by
        obtain ⟨A0, B0, c0, i0, eP, _⟩ := P1.at_
        rw [z, eP] at e
        exact n _ (Option.some.inj e).symm
      rcases h with (h | ⟨o, h⟩) | h
      · have n1 := npu h (fun xs z => by cases z)
        exact .inl (.inl (by rw [off_at n1]; exact bG _ _ n1 h))
      · have n1 := npu h (fun xs z => by cases z)
        exact .inl (.inr ⟨o, by rw [off_at n1]; exact bG _ _ n1 h⟩)
      · exact .inr h
end
end K19
set_option Elab.async false
set_option linter.all false
set_option maxRecDepth 100000
set_option maxHeartbeats 8000000
/-! The law's orders. -/
namespace K19
open PySem PySem.Spec PyProof.Rows L2 KB LamX
/-- not there before -/
def NewV (H : Hp) (y : V) : Prop := ∃ T, y = .ref T ∧ H T = none
theorem paired_snd {α β : Type} {R : α → β → Prop} {B : β → Prop} : ∀ {xs : List α} {ys : List β}, Paired (fun x y => R x y ∧ B y) xs ys → Paired R xs ys ∧ ∀ y ∈ ys, B y
  | _, _, .nil => ⟨.nil, fun _ h => nomatch h⟩
  | _, _, .cons r t => by
    obtain ⟨a, b⟩ := paired_snd t
    refine ⟨.cons r.1 a, fun y h => ?_⟩
    rcases List.mem_cons.mp h with h | h
    · rw [h]
      exact r.2
    · exact b y h
theorem lsAt_mono {H H' : Hp} (k : Same H H') {PS : List (List Nat)} {ys : List V} (p : Paired (LsAt H) PS ys) : Paired (LsAt H') PS ys := paired_mono (fun _ _ h => h.same k) p
theorem paired_app {α β : Type} {R : α → β → Prop} : ∀ {xs xs' : List α} {ys ys' : List β}, Paired R xs ys → Paired R xs' ys' → Paired R (xs ++ xs') (ys ++ ys')
  | _, _, _, _, .nil, h => h
  | _, _, _, _, .cons r t, h => .cons r (paired_app t h)
def spOrders (K : PySem.W.Frag) : Sp := fun vs H Q _ => ∃ (n m : Nat), vs = [.int (n : Int), .int (m : Int)] ∧ n + m ≤ 10 ∧ ∀ q ys H', Same H H' → H q = none → H' q = some (.lst ys) → Paired (LsAt H') (allO n m) ys → (∀ y ∈ ys, NewV H y) → Q (.ref q) H'
section
variable {P : Program} {w : World} {K : PySem.W.Frag} {mg : Str → Option Value} {base : Heap}
abbrev s_orders : Stmt := top 43
abbrev N_orders : List Str := ["_law_many", "_law_late", "_law_found", "_law_turn", "_law_some"]
theorem sc_orders : FnScope N_orders ["_law_many", "_law_late"] (defScope s_orders) := ⟨rfl, rfl, rfl, by decide +kernel, rfl, by decide +kernel, by decide +kernel⟩
theorem ok_orders {f : Addr} {fd : FuncData} (F : FnP K "_law_orders" s_orders f fd) (Z : FreeS mg) :
    FnOk P w K mg base CX0 1 f fd ["_law_many", "_law_late"] (spOrders K) := by
  refine F.ok sc_orders (fun vs H Q E h => ?_) (fun cdv A outer s H vs Q E hr h => ?_)
  · obtain ⟨n, m, rfl, _⟩ := h
    rfl
  · obtain ⟨n, m, rfl, nm, k⟩ := h
    have sl : (10000 : Nat) ≤ sizeLine := by decide
    have hu := room65 hr
    have nd := sc_orders.nd
    refine ⟨_, PSs.nox (pss_cons (ps_set (i := 2) nd rfl (Or.inl rfl) (pe_lst (pa_cons (pe_lst (pa_nil)) (pa_nil))))
      (pss_cons (ps_for PassesOwn.never rfl (pi_range1 (by rfl) Z.range (pa_cons (pe_op op_add (pv 0) (pv 1)) (pa_nil))) (pg_name (i := 3) nd rfl (Or.inl rfl))
        (pss_one (ps_set (i := 2) nd rfl (Or.inl rfl) (pe_op op_cat (pe_lc (own := [("_law_some", 4)]) (g := gName 4) (tt := tTest (tOp (rI0 fun i j => .bl (decide (i < j))) (tBM K "list" (rCountD K) (tVar 4) (tCons (tC (.int 0)) tNil)) (tVar 0))) (te := tOp rCat (tVar 4) (tLst (tCons (tC (.int 0)) (tNil)))) (by rfl) nd (pi_list (pv 2))
          (blkOk_by (own := [("_law_some", 4)]) (N := N_orders) (sc := defScope s_orders) (by decide +kernel)) (fun _ _ _ _ _ => pg_name (i := 4) nd rfl (Or.inl rfl)) (fun _ _ _ _ _ => pts_one (pt_cmpR op_lt (pe_bm PySem.F.plainAttrs_list PySem.F.slot_list_count PySem.F.type_list_count (mt_countD hu) (pv 4) (pa_cons (pe_int) (pa_nil))) (pv 0) (nomark _)))
          (fun _ _ _ _ _ => pe_op op_cat (pv 4) (pe_lst (pa_cons (pe_int) (pa_nil))))) (pe_lc (own := [("_law_some", 4)]) (g := gName 4) (tt := tTest (tOp (rI0 fun i j => .bl (decide (i < j))) (tBM K "list" (rCountD K) (tVar 4) (tCons (tC (.int 1)) tNil)) (tVar 1))) (te := tOp rCat (tVar 4) (tLst (tCons (tC (.int 1)) (tNil)))) (by rfl) nd (pi_list (pv 2))
          (blkOk_by (own := [("_law_some", 4)]) (N := N_orders) (sc := defScope s_orders) (by decide +kernel)) (fun _ _ _ _ _ => pg_name (i := 4) nd rfl (Or.inl rfl)) (fun _ _ _ _ _ => pts_one (pt_cmpR op_lt (pe_bm PySem.F.plainAttrs_list PySem.F.slot_list_count PySem.F.type_list_count (mt_countD hu) (pv 4) (pa_cons (pe_int) (pa_nil))) (pv 1) (nomark _)))
          (fun _ _ _ _ _ => pe_op op_cat (pv 4) (pe_lst (pa_cons (pe_int) (pa_nil)))))))))
      (pss_one (ps_ret (pv 2))))), ?_⟩
    refine ⟨(by show 0 ≤ sizeLine; omega), fun e0 he0 => ⟨(by show 1 ≤ sizeLine; omega), fun q0 hq0 => ?_⟩⟩
    have s1 := (Same.updf (o := .lst []) he0).trans (Same.updf (o := .lst [.ref e0]) hq0)
    refine ⟨_, rfl, _, rfl, _, _, rfl, rfl, ((n + m : Nat) : Int), rfl, by omega, by omega, ?_⟩
    rw [Int.toNat_natCast]
    refine for_range (lo := 0) (n := n + m) (fun i σ G => Same H G ∧ ∃ (q : Addr) (ys : List V) (v3 : Option V), G q = some (.lst ys) ∧ H q = none ∧ Paired (LsAt G) (ords n m i) ys ∧ (∀ y ∈ ys, NewV H y) ∧ σ = [some (.int (n : Int)), some (.int (m : Int)), some (.ref q), v3, none])
      ⟨s1, q0, [.ref e0], none, upd_same, none_back (Same.updf (o := .lst []) he0) hq0, .cons ⟨e0, rfl, ?_⟩ .nil, (fun y h => by rw [List.mem_singleton.mp h]; exact ⟨e0, rfl, he0⟩), rfl⟩ ?_ ?_
    · rw [upd_ne (fun z => by rw [z, upd_same] at hq0; cases hq0), upd_same]
      rfl
    · rintro i σ G hi ⟨sG, q, ys, v3, hq, nq, py, nys, rfl⟩
      have ly := paired_len py
      have lp : (ords n m i).length ≤ 1024 := Nat.le_trans (ords_len n m i) (Nat.pow_le_pow_right (n := 2) (by decide) (by omega : i ≤ 10))
      refine ⟨_, rfl, q, rfl, ⟨_, SqL.of hq⟩, fun D hD => ?_⟩
      refine lc_rel (n := ys.length) (walk_list (K := K) (a := q) (xs := ys)) (fun j => (((ords n m i)[j]?).map fun l => decide (l.count 0 < n)).getD false) (fun j y G => (∃ l, ((ords n m i)[j]?).map (· ++ [0]) = some l ∧ LsAt G l y) ∧ NewV H y) (fun j y G G' s ⟨⟨l, e, h⟩, n⟩ => ⟨⟨l, e, h.same s⟩, n⟩) (by omega) hD (fun G2 s => SqL.of (s _ _ hq)) ?_ ?_
      · rintro j y G2 G3 Qy Qn hj s2 hacc ⟨rfl, hv⟩ ky_ kn
        obtain ⟨l, el, T, rfl, hT⟩ := paired_get2 py hv
        rw [el] at ky_ kn
        have hT2 := s2 _ _ hT
        have cc : ((dN l).countP fun z => PyData.eqv z (.int 0)) = l.count 0 := count_nums l 0
        refine ⟨rfl, _, rfl, Or.inl ⟨rfl, _, SqL.of hT2⟩, T, _, .int 0, dN l, rfl, rfl, dp_nums hT2, .int _, shaped_nums _, rfl, _, rfl, _, _, rfl, rfl, _, rfl, ?_⟩
        rw [cc]
        by_cases c : l.count 0 < n
        · refine itePos (decide_eq_true (by omega)) ⟨_, rfl, (by show 1 ≤ sizeLine; omega), fun b hb => ?_⟩
          have sb := Same.updf (o := .lst [V.int 0]) hb
          have ll : l.length = i := (mem_ords.mp (List.mem_of_getElem? el)).2.1
          refine ⟨T, b, _, _, rfl, rfl, sb _ _ hT2, upd_same, ?_, fun p hp => ?_⟩
          · rw [List.length_map, ll]
            show _ + 1 ≤ sizeLine
            omega
          have sp := Same.updf (o := .lst ((l.map fun x : Nat => V.int (x : Int)) ++ [V.int 0])) hp
          have s3 := sb.trans sp
          obtain ⟨acc, hacc⟩ := hacc
          have np : p ≠ D := fun z => by
            rw [z, sb _ _ hacc] at hp
            cases hp
          refine ky_ _ _ (decide_eq_true c) s3 ⟨⟨l ++ [0], rfl, p, rfl, ?_⟩, p, rfl, none_back ((sG.trans s2).trans sb) hp⟩
          rw [off_at np, upd_same, List.map_append]
          rfl
        · refine iteNeg (by rw [decide_eq_false (by omega)]; exact Bool.false_ne_true) (kn _ (decide_eq_false c) (Same.refl _))
      · intro G2 zs s2 hzs pz
        obtain ⟨pz, nzs⟩ := paired_snd pz
        have pz2 : Paired (LsAt G2) (((ords n m i).filter fun l => decide (l.count 0 < n)).map (· ++ [0])) zs := by
          have h := paired_fm pz
          rw [← ly, fm_get (· ++ [0]) (fun l : List Nat => decide (l.count 0 < n)) (ords n m i)] at h
          exact lsAt_mono (off_le G2 D) h
        have lz := paired_len pz2
        have lf : (((ords n m i).filter fun l => decide (l.count 0 < n)).map (· ++ [0])).length ≤ 1024 := by
          rw [List.length_map]
          exact Nat.le_trans (List.length_filter_le _ _) lp
        have sG2 := sG.trans s2
        have hq2 := s2 _ _ hq
        have py2 := lsAt_mono s2 py
        refine ⟨_, rfl, q, rfl, ⟨_, SqL.of hq2⟩, fun D2 hD2 => ?_⟩
        refine lc_rel (n := ys.length) (walk_list (K := K) (a := q) (xs := ys)) (fun j => (((ords n m i)[j]?).map fun l => decide (l.count 1 < m)).getD false) (fun j y G => (∃ l, ((ords n m i)[j]?).map (· ++ [1]) = some l ∧ LsAt G l y) ∧ NewV H y) (fun j y G G' s ⟨⟨l, e, h⟩, n⟩ => ⟨⟨l, e, h.same s⟩, n⟩) (by omega) hD2 (fun G2 s => SqL.of (s _ _ hq2)) ?_ ?_
        · rintro j y G2 G3 Qy Qn hj s2 hacc ⟨rfl, hv⟩ ky_ kn
          obtain ⟨l, el, T, rfl, hT⟩ := paired_get2 py2 hv
          rw [el] at ky_ kn
          have hT2 := s2 _ _ hT
          have cc : ((dN l).countP fun z => PyData.eqv z (.int 1)) = l.count 1 := count_nums l 1
          refine ⟨rfl, _, rfl, Or.inl ⟨rfl, _, SqL.of hT2⟩, T, _, .int 1, dN l, rfl, rfl, dp_nums hT2, .int _, shaped_nums _, rfl, _, rfl, _, _, rfl, rfl, _, rfl, ?_⟩
          rw [cc]
          by_cases c : l.count 1 < m
          · refine itePos (decide_eq_true (by omega)) ⟨_, rfl, (by show 1 ≤ sizeLine; omega), fun b hb => ?_⟩
            have sb := Same.updf (o := .lst [V.int 1]) hb
            have ll : l.length = i := (mem_ords.mp (List.mem_of_getElem? el)).2.1
            refine ⟨T, b, _, _, rfl, rfl, sb _ _ hT2, upd_same, ?_, fun p hp => ?_⟩
            · rw [List.length_map, ll]
              show _ + 1 ≤ sizeLine
              omega
            have sp := Same.updf (o := .lst ((l.map fun x : Nat => V.int (x : Int)) ++ [V.int 1])) hp
            have s3 := sb.trans sp
            obtain ⟨acc, hacc⟩ := hacc
            have np : p ≠ D2 := fun z => by
              rw [z, sb _ _ hacc] at hp
              cases hp
            refine ky_ _ _ (decide_eq_true c) s3 ⟨⟨l ++ [1], rfl, p, rfl, ?_⟩, p, rfl, none_back ((sG2.trans s2).trans sb) hp⟩
            rw [off_at np, upd_same, List.map_append]
            rfl
          · refine iteNeg (by rw [decide_eq_false (by omega)]; exact Bool.false_ne_true) (kn _ (decide_eq_false c) (Same.refl _))
        · intro G3 zs2 s3 hzs2 pz3
          obtain ⟨pz3, nzs2⟩ := paired_snd pz3
          have pz4 : Paired (LsAt G3) (((ords n m i).filter fun l => decide (l.count 1 < m)).map (· ++ [1])) zs2 := by
            have h := paired_fm pz3
            rw [← ly, fm_get (· ++ [1]) (fun l : List Nat => decide (l.count 1 < m)) (ords n m i)] at h
            exact lsAt_mono (off_le G3 D2) h
          have lz2 := paired_len pz4
          have lf2 : (((ords n m i).filter fun l => decide (l.count 1 < m)).map (· ++ [1])).length ≤ 1024 := by
            rw [List.length_map]
            exact Nat.le_trans (List.length_filter_le _ _) lp
          refine ⟨D, D2, zs, zs2, rfl, rfl, s3 _ _ hzs, hzs2, by omega, fun p hp => ?_⟩
          have sp := Same.updf (o := .lst (zs ++ zs2)) hp
          have sA := (sG2.trans s3).trans sp
          exact ⟨sA, p, _, _, upd_same, none_back (sG2.trans s3) hp, paired_app (lsAt_mono (s3.trans sp) pz2) (lsAt_mono sp pz4), (fun y h => (List.mem_append.mp h).elim (nzs y) (nzs2 y)), rfl⟩
    · rintro σ G ⟨sG, q, ys, v3, hq, nq, py, nys, rfl⟩
      exact ⟨_, rfl, k q ys G sG nq hq py nys⟩
end
end K19
set_option Elab.async false
set_option linter.all false
set_option maxRecDepth 100000
set_option maxHeartbeats 8000000
/-! The law's own taking, its places, its fewest moments. -/
namespace K19
open PySem PySem.Spec PyProof.Rows L2 KB LamX
/-- the law's pair: the woven run, the places of both -/
def TakenAt (K : PySem.W.Frag) (H : Hp) (f p : Addr) (one other : List Ev) (o : List Nat) : Prop := RunAt K H f (wvn one other o) ∧ ∃ p0 p1, H p = some (.lst [.ref p0, .ref p1]) ∧ H p0 = some (.lst (numsV (plc o 0))) ∧ H p1 = some (.lst (numsV (plc o 1)))
def spTaken (K : PySem.W.Frag) : Sp := fun vs H Q _ => ∃ (a c q : Addr) (one other : List Ev) (o : List Nat), vs = [.ref a, .ref c, .ref q] ∧ RunAt K H a one ∧ RunAt K H c other ∧ one.length ≤ 100 ∧ other.length ≤ 100 ∧ H q = some (.lst (numsV o)) ∧ Ord one.length other.length o ∧
  ∀ r f p H', Same H H' → H r = none → H f = none → H p = none → H' r = some (.lst [.ref f, .ref p]) → TakenAt K H' f p one other o → Q (.ref r) H'
def spPlaced (K : PySem.W.Frag) : Sp := fun vs H Q _ => ∃ (b d p p0 p1 : Addr) (n m : Nat) (ws us : List (Nat × Nat)) (o : List Nat), vs = [.ref b, .ref d, .ref p] ∧ WtAt K H b ws ∧ WtAt K H d us ∧ Ins n ws ∧ Ins m us ∧ ws.length ≤ 1000 ∧ us.length ≤ 1000 ∧ Ord n m o ∧ H p = some (.lst [.ref p0, .ref p1]) ∧ H p0 = some (.lst (numsV (plc o 0))) ∧ H p1 = some (.lst (numsV (plc o 1))) ∧
  ∀ r H', Same H H' → H r = none → WtAt K H' r (moved o ws us) → Q (.ref r) H'
def spLeast (K : PySem.W.Frag) : Sp := fun vs H Q _ => ∃ (b : Addr) (ws : List (Nat × Nat)), vs = [.ref b] ∧ WtAt K H b ws ∧ (∀ w ∈ ws, w.1 < w.2) ∧ ws.length ≤ 3000 ∧ Tabs (TbK K) H ∧ ∀ H', ExtN H H' → Tabs (TbK K) H' → Q (.int (least ws : Int)) H'
theorem LsT.pop {K : PySem.W.Frag} {α : Type} {vv : α → List V} {G : Hp} {q : Addr} {x : α} {xs : List α} (h : LsT K vv G q (x :: xs)) : ∃ t ys, G q = some (.lst (.ref t :: ys)) ∧ SqT K G t (vv x) ∧ LsT K vv (upd G q (.lst ys)) q xs := by
  obtain ⟨us, hus, lus, kus⟩ := h
  cases us with
  | nil => cases lus
  | cons t us =>
    have b : But q G (upd G q (.lst (us.map V.ref))) := But.upd'
    exact ⟨t, us.map V.ref, hus, kus 0 t x rfl rfl, us, upd_same, Nat.succ.inj lus, fun i u y e1 e2 => SqT_but b (kus (i + 1) u y e1 e2) ⟨_, hus⟩⟩
def lastE (acc : List (Nat × Nat)) : Nat := ((acc.getLast?).map (·.2)).getD 0
theorem lastE_app (acc : List (Nat × Nat)) (g : Nat × Nat) : lastE (acc ++ [g]) = g.2 := by
  unfold lastE
  rw [List.getLast?_append]
  rfl
theorem at_last {α : Type} (xs : List α) (x : α) : atI (xs ++ [x]) (-1) = some x := by
  have e : ixN (xs ++ [x]).length (-1) = some xs.length := by
    unfold ixN
    rw [if_neg (by decide), if_pos (by rw [List.length_append, List.length_singleton]; omega), List.length_append, List.length_singleton]
    congr 1
    omega
  unfold atI
  rw [e]
  show (xs ++ [x])[xs.length]? = some x
  rw [List.getElem?_append_right (Nat.le_refl _), Nat.sub_self]
  rfl
/-- the law's taking: the runs left, what is found, the places -/
structure Tk (K : PySem.W.Frag) (H : Hp) (R0 R1 R F p0 p1 PP : Addr) (as bs fs : List Ev) (P0 P1 : List Nat) : Prop where
  h0 : RunAt K H R0 as
  h1 : RunAt K H R1 bs
  hR : H R = some (.lst [.ref R0, .ref R1])
  hF : RunAt K H F fs
  hP : H PP = some (.lst [.ref p0, .ref p1])
  q0 : H p0 = some (.lst (numsV P0))
  q1 : H p1 = some (.lst (numsV P1))
section
variable {K : PySem.W.Frag} {H : Hp} {R0 R1 R F p0 p1 PP : Addr} {as bs fs : List Ev} {P0 P1 : List Nat} (nd : [R0, R1, R, F, p0, p1, PP].Nodup)
theorem Tk.same {H' : Hp} (k : Same H H') (h : Tk K H R0 R1 R F p0 p1 PP as bs fs P0 P1) : Tk K H' R0 R1 R F p0 p1 PP as bs fs P0 P1 := ⟨h.h0.same k, h.h1.same k, k _ _ h.hR, h.hF.same k, k _ _ h.hP, k _ _ h.q0, k _ _ h.q1⟩
include nd
theorem Tk.pop0 {x : Ev} (h : Tk K H R0 R1 R F p0 p1 PP (x :: as) bs fs P0 P1) : ∃ t ys, H R0 = some (.lst (.ref t :: ys)) ∧ SqT K H t x.v ∧ Tk K (upd H R0 (.lst ys)) R0 R1 R F p0 p1 PP as bs fs P0 P1 := by
  obtain ⟨t, ys, e1, e2, e3⟩ := h.h0.pop
  have b : But R0 H (upd H R0 (.lst ys)) := But.upd'
  have hp : ∃ ys, H R0 = some (.lst ys) := ⟨_, e1⟩
  exact ⟨t, ys, e1, e2, e3, h.h1.but b (fun z => by subst z; simp at nd) hp, b _ _ (fun z => by subst z; simp at nd) h.hR, h.hF.but b (fun z => by subst z; simp at nd) hp, b _ _ (fun z => by subst z; simp at nd) h.hP, b _ _ (fun z => by subst z; simp at nd) h.q0, b _ _ (fun z => by subst z; simp at nd) h.q1⟩
theorem Tk.pop1 {x : Ev} (h : Tk K H R0 R1 R F p0 p1 PP as (x :: bs) fs P0 P1) : ∃ t ys, H R1 = some (.lst (.ref t :: ys)) ∧ SqT K H t x.v ∧ Tk K (upd H R1 (.lst ys)) R0 R1 R F p0 p1 PP as bs fs P0 P1 := by
  obtain ⟨t, ys, e1, e2, e3⟩ := h.h1.pop
  have b : But R1 H (upd H R1 (.lst ys)) := But.upd'
  have hp : ∃ ys, H R1 = some (.lst ys) := ⟨_, e1⟩
  exact ⟨t, ys, e1, e2, h.h0.but b (fun z => by subst z; simp at nd) hp, e3, b _ _ (fun z => by subst z; simp at nd) h.hR, h.hF.but b (fun z => by subst z; simp at nd) hp, b _ _ (fun z => by subst z; simp at nd) h.hP, b _ _ (fun z => by subst z; simp at nd) h.q0, b _ _ (fun z => by subst z; simp at nd) h.q1⟩
theorem Tk.app {t : Addr} {x : Ev} (ht : SqT K H t x.v) (h : Tk K H R0 R1 R F p0 p1 PP as bs fs P0 P1) : ∃ ys, H F = some (.lst ys) ∧ ys.length = fs.length ∧ Tk K (upd H F (.lst (ys ++ [.ref t]))) R0 R1 R F p0 p1 PP as bs (fs ++ [x]) P0 P1 := by
  obtain ⟨ys, e1, e2, e3⟩ := h.hF.app ht
  have b : But F H (upd H F (.lst (ys ++ [.ref t]))) := But.upd'
  have hp : ∃ ys, H F = some (.lst ys) := ⟨_, e1⟩
  exact ⟨ys, e1, e2, h.h0.but b (fun z => by subst z; simp at nd) hp, h.h1.but b (fun z => by subst z; simp at nd) hp, b _ _ (fun z => by subst z; simp at nd) h.hR, e3, b _ _ (fun z => by subst z; simp at nd) h.hP, b _ _ (fun z => by subst z; simp at nd) h.q0, b _ _ (fun z => by subst z; simp at nd) h.q1⟩
theorem Tk.grow0 {i : Nat} (h : Tk K H R0 R1 R F p0 p1 PP as bs fs P0 P1) : Tk K (upd H p0 (.lst (numsV P0 ++ [.int (i : Int)]))) R0 R1 R F p0 p1 PP as bs fs (P0 ++ [i]) P1 := by
  have b : But p0 H (upd H p0 (.lst (numsV P0 ++ [.int (i : Int)]))) := But.upd'
  have hp : ∃ ys, H p0 = some (.lst ys) := ⟨_, h.q0⟩
  have e : (upd H p0 (.lst (numsV P0 ++ [.int (i : Int)]))) p0 = some (.lst (numsV (P0 ++ [i]))) := by
    rw [upd_same]
    unfold numsV
    rw [List.map_append]
    rfl
  exact ⟨h.h0.but b (fun z => by subst z; simp at nd) hp, h.h1.but b (fun z => by subst z; simp at nd) hp, b _ _ (fun z => by subst z; simp at nd) h.hR, h.hF.but b (fun z => by subst z; simp at nd) hp, b _ _ (fun z => by subst z; simp at nd) h.hP, e, b _ _ (fun z => by subst z; simp at nd) h.q1⟩
theorem Tk.grow1 {i : Nat} (h : Tk K H R0 R1 R F p0 p1 PP as bs fs P0 P1) : Tk K (upd H p1 (.lst (numsV P1 ++ [.int (i : Int)]))) R0 R1 R F p0 p1 PP as bs fs P0 (P1 ++ [i]) := by
  have b : But p1 H (upd H p1 (.lst (numsV P1 ++ [.int (i : Int)]))) := But.upd'
  have hp : ∃ ys, H p1 = some (.lst ys) := ⟨_, h.q1⟩
  have e : (upd H p1 (.lst (numsV P1 ++ [.int (i : Int)]))) p1 = some (.lst (numsV (P1 ++ [i]))) := by
    rw [upd_same]
    unfold numsV
    rw [List.map_append]
    rfl
  exact ⟨h.h0.but b (fun z => by subst z; simp at nd) hp, h.h1.but b (fun z => by subst z; simp at nd) hp, b _ _ (fun z => by subst z; simp at nd) h.hR, h.hF.but b (fun z => by subst z; simp at nd) hp, b _ _ (fun z => by subst z; simp at nd) h.hP, b _ _ (fun z => by subst z; simp at nd) h.q0, e⟩
end
section
variable {P : Program} {w : World} {K : PySem.W.Frag} {mg : Str → Option Value} {base : Heap}
abbrev s_taken : Stmt := top 44
abbrev N_taken : List Str := ["_law_one", "_law_other", "_law_order", "_law_runs", "_law_found", "_law_places", "_law_at", "_law_side"]
theorem sc_taken : FnScope N_taken ["_law_one", "_law_other", "_law_order"] (defScope s_taken) := ⟨rfl, rfl, rfl, by decide +kernel, rfl, by decide +kernel, by decide +kernel⟩
theorem ok_taken {f : Addr} {fd : FuncData} (F : FnP K "_law_taken" s_taken f fd) (Z : FreeS mg) :
    FnOk P w K mg base CX0 1 f fd ["_law_one", "_law_other", "_law_order"] (spTaken K) := by
  refine F.ok sc_taken (fun vs H Q E h => ?_) (fun cdv A outer s H vs Q E hr h => ?_)
  · obtain ⟨a, c, q, one, other, o, rfl, _⟩ := h
    rfl
  · obtain ⟨a, c, q, one, other, o, rfl, hA, hC, la, lc, hq, ho, k⟩ := h
    have lo := ho.len
    have sl : (10000 : Nat) ≤ sizeLine := by decide
    have nd := sc_taken.nd
    refine ⟨_, PSs.nox (pss_cons (ps_par3 (i := 3) (j := 4) (l := 5) rfl nd rfl rfl rfl (by decide) (by decide) (by decide) rfl rfl rfl (pa_cons (pe_lst (pa_cons (pe_callTy call_list_of (by rfl) Z.tlist (by decide +kernel) (pa_cons (pv 0) (pa_nil))) (pa_cons (pe_callTy call_list_of (by rfl) Z.tlist (by decide +kernel) (pa_cons (pv 1) (pa_nil))) (pa_nil)))) (pa_cons (pe_lst (pa_nil)) (pa_cons (pe_lst (pa_cons (pe_lst (pa_nil)) (pa_cons (pe_lst (pa_nil)) (pa_nil)))) (pa_nil)))) rfl)
      (pss_cons (ps_for PassesOwn.never rfl (pi_enum (by rfl) Z.enumerate (pa_cons (pv 2) (pa_nil))) (pg_tup rfl (pgs_cons (pg_name (i := 6) nd rfl (Or.inl rfl)) (pgs_cons (pg_name (i := 7) nd rfl (Or.inl rfl)) (pgs_nil))))
        (pss_cons (ps_expr (pe_bm PySem.F.plainAttrs_list PySem.F.slot_list_append PySem.F.type_list_append mt_append (pv 4) (pa_cons (pe_bm PySem.F.plainAttrs_list PySem.F.slot_list_pop PySem.F.type_list_pop mt_popAt (pe_ix ix_list (pv 3) (pv 7) (fun _ _ => rfl)) (pa_cons (pe_int) (pa_nil))) (pa_nil))))
      (pss_one (ps_expr (pe_bm PySem.F.plainAttrs_list PySem.F.slot_list_append PySem.F.type_list_append mt_append (pe_ix ix_list (pv 5) (pv 7) (fun _ _ => rfl)) (pa_cons (pv 6) (pa_nil)))))))
      (pss_one (ps_ret (pe_lst (pa_cons (pv 4) (pa_cons (pv 5) (pa_nil)))))))), ?_⟩
    obtain ⟨ta, ha, lta, _⟩ := id hA.ex
    obtain ⟨tc, hc, ltc, _⟩ := id hC.ex
    refine ⟨_, rfl, a, _, rfl, .inl (SqL.of ha), fun R0 f1 => ?_⟩
    have x1 := Same.updf (o := .lst (ta.map V.ref)) f1
    have u1 := upd_same (H := H) (a := R0) (o := .lst (ta.map V.ref))
    obtain ⟨G1, eG⟩ : ∃ X, X = upd H R0 (.lst (ta.map V.ref)) := ⟨_, rfl⟩
    rw [← eG] at x1 u1 ⊢
    clear eG
    refine ⟨_, rfl, c, _, rfl, .inl (SqL.of (x1 _ _ hc)), fun R1 f2 => ?_⟩
    have x2 := Same.updf (o := .lst (tc.map V.ref)) f2
    have u2 := upd_same (H := G1) (a := R1) (o := .lst (tc.map V.ref))
    obtain ⟨G2, eG⟩ : ∃ X, X = upd G1 R1 (.lst (tc.map V.ref)) := ⟨_, rfl⟩
    rw [← eG] at x2 u2 ⊢
    clear eG
    refine ⟨(by show 2 ≤ sizeLine; omega), fun R f3 => ?_⟩
    have x3 := Same.updf (o := .lst [V.ref R0, V.ref R1]) f3
    have u3 := upd_same (H := G2) (a := R) (o := .lst [V.ref R0, V.ref R1])
    obtain ⟨G3, eG⟩ : ∃ X, X = upd G2 R (.lst [V.ref R0, V.ref R1]) := ⟨_, rfl⟩
    rw [← eG] at x3 u3 ⊢
    clear eG
    refine ⟨(by show 0 ≤ sizeLine; omega), fun F1 f4 => ?_⟩
    have x4 := Same.updf (o := .lst []) f4
    have u4 := upd_same (H := G3) (a := F1) (o := .lst [])
    obtain ⟨G4, eG⟩ : ∃ X, X = upd G3 F1 (.lst []) := ⟨_, rfl⟩
    rw [← eG] at x4 u4 ⊢
    clear eG
    refine ⟨(by show 0 ≤ sizeLine; omega), fun p0 f5 => ?_⟩
    have x5 := Same.updf (o := .lst []) f5
    have u5 := upd_same (H := G4) (a := p0) (o := .lst [])
    obtain ⟨G5, eG⟩ : ∃ X, X = upd G4 p0 (.lst []) := ⟨_, rfl⟩
    rw [← eG] at x5 u5 ⊢
    clear eG
    refine ⟨(by show 0 ≤ sizeLine; omega), fun p1 f6 => ?_⟩
    have x6 := Same.updf (o := .lst []) f6
    have u6 := upd_same (H := G5) (a := p1) (o := .lst [])
    obtain ⟨G6, eG⟩ : ∃ X, X = upd G5 p1 (.lst []) := ⟨_, rfl⟩
    rw [← eG] at x6 u6 ⊢
    clear eG
    refine ⟨(by show 2 ≤ sizeLine; omega), fun PP f7 => ?_⟩
    have x7 := Same.updf (o := .lst [V.ref p0, V.ref p1]) f7
    have u7 := upd_same (H := G6) (a := PP) (o := .lst [V.ref p0, V.ref p1])
    obtain ⟨G7, eG⟩ : ∃ X, X = upd G6 PP (.lst [V.ref p0, V.ref p1]) := ⟨_, rfl⟩
    rw [← eG] at x7 u7 ⊢
    clear eG
    have n01 : R0 ≠ R1 := ne_of_none u1 f2
    have n02 : R0 ≠ R := ne_of_none (x2 _ _ u1) f3
    have n12 : R1 ≠ R := ne_of_none u2 f3
    have n03 : R0 ≠ F1 := ne_of_none ((x2.trans x3) _ _ u1) f4
    have n13 : R1 ≠ F1 := ne_of_none (x3 _ _ u2) f4
    have n23 : R ≠ F1 := ne_of_none u3 f4
    have n04 : R0 ≠ p0 := ne_of_none (((x2.trans x3).trans x4) _ _ u1) f5
    have n14 : R1 ≠ p0 := ne_of_none ((x3.trans x4) _ _ u2) f5
    have n24 : R ≠ p0 := ne_of_none (x4 _ _ u3) f5
    have n34 : F1 ≠ p0 := ne_of_none u4 f5
    have n05 : R0 ≠ p1 := ne_of_none ((((x2.trans x3).trans x4).trans x5) _ _ u1) f6
    have n15 : R1 ≠ p1 := ne_of_none (((x3.trans x4).trans x5) _ _ u2) f6
    have n25 : R ≠ p1 := ne_of_none ((x4.trans x5) _ _ u3) f6
    have n35 : F1 ≠ p1 := ne_of_none (x5 _ _ u4) f6
    have n45 : p0 ≠ p1 := ne_of_none u5 f6
    have n06 : R0 ≠ PP := ne_of_none (((((x2.trans x3).trans x4).trans x5).trans x6) _ _ u1) f7
    have n16 : R1 ≠ PP := ne_of_none ((((x3.trans x4).trans x5).trans x6) _ _ u2) f7
    have n26 : R ≠ PP := ne_of_none (((x4.trans x5).trans x6) _ _ u3) f7
    have n36 : F1 ≠ PP := ne_of_none ((x5.trans x6) _ _ u4) f7
    have n46 : p0 ≠ PP := ne_of_none (x6 _ _ u5) f7
    have n56 : p1 ≠ PP := ne_of_none u6 f7
    refine ⟨_, _, _, rfl, ?_⟩
    have nd7 : [R0, R1, R, F1, p0, p1, PP].Nodup := by
      simp [n01, n02, n12, n03, n13, n23, n04, n14, n24, n34, n05, n15, n25, n35, n45, n06, n16, n26, n36, n46, n56]
    have sA : Same H G7 := ((((((x1.trans x2).trans x3).trans x4).trans x5).trans x6).trans x7)
    have m7 : ∀ x ∈ [R0, R1, F1, p0, p1], H x = none := fun x hx => by
      simp only [List.mem_cons, List.not_mem_nil, or_false] at hx
      rcases hx with rfl | rfl | rfl | rfl | rfl
      · exact f1
      · exact none_back x1 f2
      · exact none_back ((x1.trans x2).trans x3) f4
      · exact none_back (((x1.trans x2).trans x3).trans x4) f5
      · exact none_back ((((x1.trans x2).trans x3).trans x4).trans x5) f6
    have nPP : H PP = none := none_back (((((x1.trans x2).trans x3).trans x4).trans x5).trans x6) f7
    have nF : H F1 = none := none_back ((x1.trans x2).trans x3) f4
    have t0 : Tk K G7 R0 R1 R F1 p0 p1 PP one other [] [] [] := ⟨hA.copy ha sA ((((((x2.trans x3).trans x4).trans x5).trans x6).trans x7) _ _ u1), hC.copy hc sA (((((x3.trans x4).trans x5).trans x6).trans x7) _ _ u2), (((x4.trans x5).trans x6).trans x7) _ _ u3, LsT.nil (((x5.trans x6).trans x7) _ _ u4), u7, (x6.trans x7) _ _ u5, x7 _ _ u6⟩
    have hq7 := sA _ _ hq
    clear x7 x6 x5 x4 x3 x2 x1
    refine norm (σ' := [some (.ref a), some (.ref c), some (.ref q), some (.ref R), some (.ref F1), some (.ref PP), none, none]) rfl ?_
    refine ⟨_, rfl, q, _, rfl, SqL.of hq7, ?_⟩
    have nq : q ∉ [R0, R1, F1, p0, p1] := fun z => by
      rw [m7 q z] at hq
      cases hq
    have lw : (wvn one other o).length = o.length := wvn_len ho
    refine for_it (n := o.length) (by have := walk_enum (K := K) (a := q) (xs := numsV o); rw [nums_len] at this; exact this) (fun i σ G => (∀ x o', x ∉ [R0, R1, F1, p0, p1] → G7 x = some o' → G x = some o') ∧ Tk K G R0 R1 R F1 p0 p1 PP (one.drop (rk o 0 i)) (other.drop (rk o 1 i)) ((wvn one other o).take i) (plcN o 0 i) (plcN o 1 i) ∧ ∃ v6 v7, σ = [some (.ref a), some (.ref c), some (.ref q), some (.ref R), some (.ref F1), some (.ref PP), v6, v7])
      ⟨fun x o' _ e => e, t0, none, none, rfl⟩ (fun i σ G _ hh => SqL.of (hh.1 _ _ nq hq7)) ?_ ?_
    · rintro i v σ G' G hi ⟨bG, hT, v6, v7, rfl⟩ ⟨T, x1, x2, rfl, nT, rfl, g1, g2⟩
      dsimp only at g1 g2
      obtain rfl := Option.some.inj g1
      obtain ⟨sd, eo, rfl⟩ := nums_get g2
      have sT := Same.updf (o := .tup [V.int (i : Nat), V.int (sd : Int)]) nT
      have hT := hT.same sT
      have bG : ∀ x o', x ∉ [R0, R1, F1, p0, p1] → G7 x = some o' → (upd G' T (.tup [V.int (i : Nat), V.int (sd : Int)])) x = some o' := fun x o' n e => sT _ _ (bG x o' n e)
      refine ⟨T, [_, _], rfl, SqT.of upd_same, rfl, _, [_], rfl, _, [], rfl, rfl, ?_⟩
      obtain ⟨G, eG⟩ : ∃ X, X = upd G' T (.tup [V.int (i : Nat), V.int (sd : Int)]) := ⟨_, rfl⟩
      rw [← eG] at hT bG ⊢
      clear eG sT nT
      have qs : o[i] = sd := Option.some.inj ((List.getElem?_eq_getElem hi).symm.trans eo)
      have seq_zero : ∀ {n : Nat}, seqIndex? 0 (n + 1) = some 0 := fun {n} => by simp [seqIndex?]
      rcases ho.1 sd (List.mem_of_getElem? eo) with rfl | rfl
      · have rlt : rk o 0 i < one.length := by
          have := rk_le o 0 (i + 1)
          rw [rk_succ hi, if_pos qs, ho.2.1] at this
          exact this
        have ed : one.drop (rk o 0 i) = one[rk o 0 i] :: one.drop (rk o 0 i + 1) := List.drop_eq_getElem_cons rlt
        have r1 : rk o 0 (i + 1) = rk o 0 i + 1 := by rw [rk_succ hi, if_pos qs]
        have r2 : rk o 1 (i + 1) = rk o 1 i := by rw [rk_succ hi, if_neg (by rw [qs]; decide), Nat.add_zero]
        have p1' : plcN o 0 (i + 1) = plcN o 0 i ++ [i] := by rw [plcN_succ hi, if_pos qs]
        have p2' : plcN o 1 (i + 1) = plcN o 1 i := by rw [plcN_succ hi, if_neg (by rw [qs]; decide)]
        have we : (wvn one other o).take (i + 1) = (wvn one other o).take i ++ [one[rk o 0 i]] := by
          rw [List.take_succ, wvn_get ho hi, if_pos eo, List.getElem?_eq_getElem rlt]
          rfl
        rw [ed] at hT
        obtain ⟨t, ys, y1, y2, y3⟩ := hT.pop0 nd7
        have bR : But R0 G (upd G R0 (.lst ys)) := But.upd'
        have ht1 := SqT_but bR y2 ⟨_, y1⟩
        obtain ⟨fs, f1, f2, f3⟩ := y3.app nd7 ht1
        obtain ⟨ts, hF0, _⟩ := id hT.hF.ex
        have lf : fs.length < sizeLine := by
          rw [f2, List.length_take]
          omega
        refine ⟨_, rfl, Or.inl ⟨rfl, _, SqL.of hF0⟩, ?_⟩
        refine ⟨_, rfl, _, rfl, R, _, _, _, rfl, rfl, SqL.of hT.hR, atI_nat (j := 0) rfl, Or.inl ⟨rfl, _, SqL.of y1⟩, R0, _, 0, 0, _, rfl, rfl, y1, by decide, by decide, seq_zero, rfl, ?_⟩
        refine ⟨F1, fs, _, rfl, rfl, f1, lf, ?_⟩
        refine ⟨_, rfl, _, rfl, PP, _, _, _, rfl, rfl, SqL.of f3.hP, atI_nat (j := 0) rfl, Or.inl ⟨rfl, _, SqL.of f3.q0⟩, _, rfl, p0, _, _, rfl, rfl, f3.q0, ?_, ?_⟩
        · rw [nums_len, plcN_len (by omega)]
          have := rk_le o 0 i
          have := List.count_le_length (a := 0) (l := o)
          omega
        have f4 := f3.grow0 nd7 (i := i)
        rw [← we, ← p1', ← r1, ← r2, ← p2'] at f4
        refine ⟨fun x o' ne e => ?_, f4, _, _, rfl⟩
        simp only [List.mem_cons, List.not_mem_nil, or_false, not_or] at ne
        rw [upd_ne ne.2.2.2.1, upd_ne ne.2.2.1, upd_ne ne.1]
        exact bG _ _ (by simp only [List.mem_cons, List.not_mem_nil, or_false, not_or]; exact ne) e
      · have rlt : rk o 1 i < other.length := by
          have := rk_le o 1 (i + 1)
          rw [rk_succ hi, if_pos qs, ho.2.2] at this
          exact this
        have ed : other.drop (rk o 1 i) = other[rk o 1 i] :: other.drop (rk o 1 i + 1) := List.drop_eq_getElem_cons rlt
        have r1 : rk o 1 (i + 1) = rk o 1 i + 1 := by rw [rk_succ hi, if_pos qs]
        have r2 : rk o 0 (i + 1) = rk o 0 i := by rw [rk_succ hi, if_neg (by rw [qs]; decide), Nat.add_zero]
        have p1' : plcN o 1 (i + 1) = plcN o 1 i ++ [i] := by rw [plcN_succ hi, if_pos qs]
        have p2' : plcN o 0 (i + 1) = plcN o 0 i := by rw [plcN_succ hi, if_neg (by rw [qs]; decide)]
        have we : (wvn one other o).take (i + 1) = (wvn one other o).take i ++ [other[rk o 1 i]] := by
          rw [List.take_succ, wvn_get ho hi, if_neg (fun z => by rw [eo] at z; cases z), List.getElem?_eq_getElem rlt]
          rfl
        rw [ed] at hT
        obtain ⟨t, ys, y1, y2, y3⟩ := hT.pop1 nd7
        have bR : But R1 G (upd G R1 (.lst ys)) := But.upd'
        have ht1 := SqT_but bR y2 ⟨_, y1⟩
        obtain ⟨fs, f1, f2, f3⟩ := y3.app nd7 ht1
        obtain ⟨ts, hF0, _⟩ := id hT.hF.ex
        have lf : fs.length < sizeLine := by
          rw [f2, List.length_take]
          omega
        refine ⟨_, rfl, Or.inl ⟨rfl, _, SqL.of hF0⟩, ?_⟩
        refine ⟨_, rfl, _, rfl, R, _, _, _, rfl, rfl, SqL.of hT.hR, atI_nat (j := 1) rfl, Or.inl ⟨rfl, _, SqL.of y1⟩, R1, _, 0, 0, _, rfl, rfl, y1, by decide, by decide, seq_zero, rfl, ?_⟩
        refine ⟨F1, fs, _, rfl, rfl, f1, lf, ?_⟩
        refine ⟨_, rfl, _, rfl, PP, _, _, _, rfl, rfl, SqL.of f3.hP, atI_nat (j := 1) rfl, Or.inl ⟨rfl, _, SqL.of f3.q1⟩, _, rfl, p1, _, _, rfl, rfl, f3.q1, ?_, ?_⟩
        · rw [nums_len, plcN_len (by omega)]
          have := rk_le o 1 i
          have := List.count_le_length (a := 1) (l := o)
          omega
        have f4 := f3.grow1 nd7 (i := i)
        rw [← we, ← p1', ← r1, ← r2, ← p2'] at f4
        refine ⟨fun x o' ne e => ?_, f4, _, _, rfl⟩
        simp only [List.mem_cons, List.not_mem_nil, or_false, not_or] at ne
        rw [upd_ne ne.2.2.2.2, upd_ne ne.2.2.1, upd_ne ne.2.1]
        exact bG _ _ (by simp only [List.mem_cons, List.not_mem_nil, or_false, not_or]; exact ne) e
    · rintro σ G ⟨bG, hT, v6, v7, rfl⟩
      have wt : (wvn one other o).take o.length = wvn one other o := List.take_of_length_le (by omega)
      rw [wt] at hT
      have sG : Same H G := fun x o' e => bG x o' (fun z => by rw [m7 x z] at e; cases e) (sA _ _ e)
      refine ⟨_, rfl, _, rfl, (by show 2 ≤ sizeLine; omega), fun r hr' => ?_⟩
      have sr := Same.updf (o := .lst [V.ref F1, V.ref PP]) hr'
      exact k r F1 PP _ (sG.trans sr) (none_back sG hr') nF nPP upd_same ⟨hT.hF.same sr, p0, p1, sr _ _ hT.hP, sr _ _ hT.q0, sr _ _ hT.q1⟩
abbrev s_placed : Stmt := top 45
abbrev N_placed : List Str := ["_law_waits", "_law_late", "_law_places", "_law_found", "_law_early", "_law_end"]
theorem sc_placed : FnScope N_placed ["_law_waits", "_law_late", "_law_places"] (defScope s_placed) := ⟨rfl, rfl, rfl, by decide +kernel, rfl, by decide +kernel, by decide +kernel⟩
theorem ok_placed {f : Addr} {fd : FuncData} (F : FnP K "_law_placed" s_placed f fd) (Z : FreeS mg) :
    FnOk P w K mg base CX0 1 f fd ["_law_waits", "_law_late", "_law_places"] (spPlaced K) := by
  refine F.ok sc_placed (fun vs H Q E h => ?_) (fun cdv A outer s H vs Q E hr h => ?_)
  · obtain ⟨b, d, p, p0, p1, n, m, ws, us, o, rfl, _⟩ := h
    rfl
  · obtain ⟨b, d, p, p0, p1, n, m, ws, us, o, rfl, hW, hU, iw, iu, l1, l2, ho, hp, h0, h1, k⟩ := h
    have sl : (10000 : Nat) ≤ sizeLine := by decide
    have nd := sc_placed.nd
    refine ⟨_, PSs.nox (pss_cons (ps_setLc (i := 3) (own := [("_law_early", 4), ("_law_end", 5)]) (g := gTup K 2 (gCons (gName 4) (gCons (gName 5) (gNil)))) (tt := tYes) (te := tTup (tCons (tOp (rIxL K) (tOp (rIxL K) (tVar 2) (tC (.int 0))) (tVar 4)) (tCons (tOp (rIxL K) (tOp (rIxL K) (tVar 2) (tC (.int 0))) (tVar 5)) (tNil)))) (by rfl) nd rfl rfl rfl (pi_list (pv 0))
          (blkOk_by (own := [("_law_early", 4), ("_law_end", 5)]) (N := N_placed) (sc := defScope s_placed) (by decide +kernel)) (fun _ _ _ _ _ => pg_tup rfl (pgs_cons (pg_name (i := 4) nd rfl (Or.inl rfl)) (pgs_cons (pg_name (i := 5) nd rfl (Or.inl rfl)) (pgs_nil)))) (fun _ _ _ _ _ => pts_nil)
          (fun _ _ _ _ _ => pe_tup (pa_cons (pe_ix ix_list (pe_ix ix_list (pv 2) (pe_int) (fun _ _ => rfl)) (pv 4) (fun _ _ => rfl)) (pa_cons (pe_ix ix_list (pe_ix ix_list (pv 2) (pe_int) (fun _ _ => rfl)) (pv 5) (fun _ _ => rfl)) (pa_nil)))))
      (pss_one (ps_ret (pe_callB ((cr_sortedT hr.units)) (by rfl) Z.sorted (by decide +kernel) (pa_cons (pe_op op_cat (pv 3) (pe_lc (own := [("_law_early", 4), ("_law_end", 5)]) (g := gTup K 2 (gCons (gName 4) (gCons (gName 5) (gNil)))) (tt := tYes) (te := tTup (tCons (tOp (rIxL K) (tOp (rIxL K) (tVar 2) (tC (.int 1))) (tVar 4)) (tCons (tOp (rIxL K) (tOp (rIxL K) (tVar 2) (tC (.int 1))) (tVar 5)) (tNil)))) (by rfl) nd (pi_list (pv 1))
          (blkOk_by (own := [("_law_early", 4), ("_law_end", 5)]) (N := N_placed) (sc := defScope s_placed) (by decide +kernel)) (fun _ _ _ _ _ => pg_tup rfl (pgs_cons (pg_name (i := 4) nd rfl (Or.inl rfl)) (pgs_cons (pg_name (i := 5) nd rfl (Or.inl rfl)) (pgs_nil)))) (fun _ _ _ _ _ => pts_nil)
          (fun _ _ _ _ _ => pe_tup (pa_cons (pe_ix ix_list (pe_ix ix_list (pv 2) (pe_int) (fun _ _ => rfl)) (pv 4) (fun _ _ => rfl)) (pa_cons (pe_ix ix_list (pe_ix ix_list (pv 2) (pe_int) (fun _ _ => rfl)) (pv 5) (fun _ _ => rfl)) (pa_nil)))))) (pa_nil)))))), ?_⟩
    obtain ⟨tb, hb, ltb, htb⟩ := hW.got
    obtain ⟨td, hd, ltd, htd⟩ := hU.got
    have c0 := ho.2.1
    have c1 := ho.2.2
    refine ⟨_, rfl, b, rfl, ⟨_, SqL.of hb⟩, fun D hD => ?_⟩
    refine lc_rel (n := ws.length) (by have := walk_list (K := K) (a := b) (xs := tb.map V.ref); rw [List.length_map, ltb] at this; exact this) (fun i => (fun _ => true) (ws.getD i (0, 0))) (fun i y G => IntsAt G (iv (mw o 0 (ws.getD i (0, 0)))) y) (fun i y G G' s h => h.same s) (by omega) hD (fun G2 s => SqL.of (s _ _ (hb))) ?_ ?_
    · rintro i v H2 H3 Qy Qn hi sH hacc ⟨rfl, hv⟩ ky kn
      obtain ⟨t, e1, e2⟩ := htb i hi
      rw [e1] at hv
      obtain rfl : V.ref t = v := Option.some.inj hv
      have ew : ws.getD i (0, 0) = ws[i] := by
        rw [List.getD_eq_getElem?_getD, List.getElem?_eq_getElem hi]
        rfl
      have lt := iw _ (List.getElem_mem hi)
      rw [ew] at ky
      have hw := SqT_up sH ( e2)
      have hp2 := sH _ _ (hp)
      have h02 := sH _ _ (h0)
      refine ⟨t, [_, _], rfl, hw, rfl, _, [_], rfl, _, [], rfl, rfl, ?_⟩
      refine ⟨rfl, _, rfl, p, _, _, _, rfl, rfl, SqL.of hp2, atI_nat (j := 0) rfl, _, rfl, p0, _, _, _, rfl, rfl, SqL.of h02, atI_nat (plc_get (by omega)), _, rfl, p, _, _, _, rfl, rfl, SqL.of hp2, atI_nat (j := 0) rfl, _, rfl, p0, _, _, _, rfl, rfl, SqL.of h02, atI_nat (plc_get (by omega)), (by show 2 ≤ sizeLine; omega), fun T hT => ?_⟩
      obtain ⟨acc, hacc⟩ := hacc
      refine ky _ _ rfl (Same.updf hT) ⟨T, rfl, ?_⟩
      rw [off_at (fun z => by rw [z, hacc] at hT; cases hT), upd_same]
      rfl
    · intro H2 ys s2 hys py
      have pp := paired_selG (l := ws) (z := (0, 0)) (c := fun _ => true) (R := fun x y => IntsAt (off H2 D) (iv (mw o 0 x)) y) py
      rw [List.filter_eq_self.mpr (fun _ _ => rfl)] at pp
      have pp : Paired (fun x y => IntsAt H2 (iv (mw o 0 x)) y) ws ys := paired_mono (fun x y h => IntsAt.same (off_le _ _) h) pp
      refine via_nx ?_
      refine ⟨_, rfl, _, rfl, d, rfl, ⟨_, SqL.of (s2 _ _ hd)⟩, fun D2 hD2 => ?_⟩
      refine lc_rel (n := us.length) (by have := walk_list (K := K) (a := d) (xs := td.map V.ref); rw [List.length_map, ltd] at this; exact this) (fun i => (fun _ => true) (us.getD i (0, 0))) (fun i y G => IntsAt G (iv (mw o 1 (us.getD i (0, 0)))) y) (fun i y G G' s h => h.same s) (by omega) hD2 (fun G2 s => SqL.of (s _ _ (s2 _ _ hd))) ?_ ?_
      · rintro i v H2 H3 Qy Qn hi sH hacc ⟨rfl, hv⟩ ky kn
        obtain ⟨t, e1, e2⟩ := htd i hi
        rw [e1] at hv
        obtain rfl : V.ref t = v := Option.some.inj hv
        have ew : us.getD i (0, 0) = us[i] := by
          rw [List.getD_eq_getElem?_getD, List.getElem?_eq_getElem hi]
          rfl
        have lt := iu _ (List.getElem_mem hi)
        rw [ew] at ky
        have hw := SqT_up sH (SqT_up s2 e2)
        have hp2 := sH _ _ (s2 _ _ hp)
        have h02 := sH _ _ (s2 _ _ h1)
        refine ⟨t, [_, _], rfl, hw, rfl, _, [_], rfl, _, [], rfl, rfl, ?_⟩
        refine ⟨rfl, _, rfl, p, _, _, _, rfl, rfl, SqL.of hp2, atI_nat (j := 1) rfl, _, rfl, p1, _, _, _, rfl, rfl, SqL.of h02, atI_nat (plc_get (by omega)), _, rfl, p, _, _, _, rfl, rfl, SqL.of hp2, atI_nat (j := 1) rfl, _, rfl, p1, _, _, _, rfl, rfl, SqL.of h02, atI_nat (plc_get (by omega)), (by show 2 ≤ sizeLine; omega), fun T hT => ?_⟩
        obtain ⟨acc, hacc⟩ := hacc
        refine ky _ _ rfl (Same.updf hT) ⟨T, rfl, ?_⟩
        rw [off_at (fun z => by rw [z, hacc] at hT; cases hT), upd_same]
        rfl
      · intro H3 ys2 s3 hys2 py2
        have pp2 := paired_selG (l := us) (z := (0, 0)) (c := fun _ => true) (R := fun x y => IntsAt (off H3 D2) (iv (mw o 1 x)) y) py2
        rw [List.filter_eq_self.mpr (fun _ _ => rfl)] at pp2
        have pp2 : Paired (fun x y => IntsAt H3 (iv (mw o 1 x)) y) us ys2 := paired_mono (fun x y h => IntsAt.same (off_le _ _) h) pp2
        have ly := paired_len pp
        have ly2 := paired_len pp2
        refine ⟨D, D2, ys, ys2, rfl, rfl, s3 _ _ hys, hys2, by omega, fun r hr' => ?_⟩
        have sr := Same.updf (o := .lst (ys ++ ys2)) hr'
        have s23 := s2.trans s3
        have pA : Paired (fun w y => IntsAt (upd H3 r (.lst (ys ++ ys2))) (iv w) y) (mvL o ws us) (ys ++ ys2) := paired_app (paired_mono (fun x y h => IntsAt.same (s3.trans sr) h) (paired_mapG (f := mw o 0) (F := fun w y => IntsAt H2 (iv w) y) pp)) (paired_mono (fun x y h => IntsAt.same sr h) (paired_mapG (f := mw o 1) (F := fun w y => IntsAt H3 (iv w) y) pp2))
        have pm : Paired (IntsAt (upd H3 r (.lst (ys ++ ys2)))) ((mvL o ws us).map iv) (ys ++ ys2) := paired_mapG pA
        refine ⟨r, ys ++ ys2, (mvL o ws us).map iv, rfl, SqL.of upd_same, pm, (fun t ht => ?_), fun p zs hp pz => ?_⟩
        · obtain ⟨w, _, rfl⟩ := List.mem_map.mp ht
          exact fun z => by cases z
        · have sp := Same.updf (o := .lst zs) hp
          have sB := s23.trans sr
          rw [sortT_iv] at pz
          refine k p _ (sB.trans sp) (none_back sB hp) ?_
          obtain ⟨ts', h1, h2, h3⟩ := (LsT.of_paired (K := K) (vv := fun t : List Int => t.map V.int) (upd_same (H := upd H3 r (.lst (ys ++ ys2))) (a := p) (o := .lst zs)) (paired_mono (fun x y ⟨u, e, h⟩ => ⟨u, e, SqT.of (sp _ _ h)⟩) pz)).ex
          refine ⟨ts', h1, by rw [h2, List.length_map]; rfl, fun i u x q1 q2 => ?_⟩
          exact h3 i u (iv x) q1 (by rw [List.getElem?_map, show (sortP (mvL o ws us))[i]? = some x from q2]; rfl)
abbrev s_least : Stmt := top 46
abbrev N_least : List Str := ["_law_stretches", "_law_moments", "_law_early", "_law_late"]
theorem sc_least : FnScope N_least ["_law_stretches"] (defScope s_least) := ⟨rfl, rfl, rfl, by decide +kernel, rfl, by decide +kernel, by decide +kernel⟩
theorem ok_least {fd : FuncData} (F : FnP K "_law_least" s_least (He.ga K "_law_least") fd) (Z : FreeS mg) (TB : TabB base mg (cL K) (tL K)) (nt2 : tA K ≠ tL K) :
    FnOk P w K mg base CX0 4 (He.ga K "_law_least") fd ["_law_stretches"] (spLeast K) := by
  refine okT F sc_least (fun vs H Q E h => ?_) (fun A outer s H vs Q E hr h => ?_)
  · obtain ⟨b, ws, rfl, _⟩ := h
    rfl
  · obtain ⟨b, ws, rfl, hW, hl, l1000, hT, k⟩ := h
    obtain ⟨ts, hb, lt, ht⟩ := id hW.ex
    have sl : (9000 : Nat) ≤ sizeLine := by decide
    have hu1 := hr.units
    have nd := sc_least.nd
    refine ⟨_, PSs.nox (pss_cons (ps_set (i := 1) nd rfl (Or.inl rfl) (pe_lst (pa_nil)))
      (pss_cons (ps_for PassesOwn.never rfl (pi_list (KLam.pe_sortedLamP (j := 0) (T := TbK K) (c := cL K) (P := tL K) (pv 0) (by rfl) Z.sorted TB rfl (List.mem_cons_of_mem _ (List.mem_singleton.mpr rfl)) (tb_two nt2) (hr.mono (by decide)) rfl rfl (by decide) rfl rfl rfl (by decide) rfl (by decide) (fun _ _ _ _ _ => rfl))) (pg_tup rfl (pgs_cons (pg_name (i := 2) nd rfl (Or.inl rfl)) (pgs_cons (pg_name (i := 3) nd rfl (Or.inl rfl)) (pgs_nil))))
        (pss_one (ps_if (PW.pt (pw_or (pt_cmpR (op_eqE (Nat.lt_of_le_of_lt (Nat.le_add_right _ _) hr.units)) (pv 1) (pe_lst (pa_nil)) (nomark _)) (pw_or1 (pt_cmpR op_lt (pe_ix ix_list (pv 1) (pe_un un_neg (pe_int)) (fun _ _ => rfl)) (pe_op op_add (pv 2) (pe_int)) (nomark _))))) (pss_one (ps_expr (pe_bm PySem.F.plainAttrs_list PySem.F.slot_list_append PySem.F.type_list_append mt_append (pv 1) (pa_cons (pv 3) (pa_nil))))) (pss_nil))))
      (pss_one (ps_ret (pe_callB call_len_seq (by rfl) Z.len (by decide +kernel) (pa_cons (pv 1) (pa_nil))))))), ?_⟩
    refine ⟨(by show 0 ≤ sizeLine; omega), fun q hq => ?_⟩
    have s1 := Same.updf (o := .lst []) hq
    obtain ⟨G0, eG0⟩ : ∃ X, X = upd H q (.lst []) := ⟨_, rfl⟩
    have hq0 : G0 q = some (.lst []) := by rw [eG0]; exact upd_same
    rw [← eG0] at s1 ⊢
    clear eG0
    obtain ⟨zw, ezw⟩ : ∃ z, z = ts.zip ws := ⟨_, rfl⟩
    have z1 : zw.map Prod.fst = ts := by rw [ezw, List.map_fst_zip (by omega)]
    have z2 : zw.map Prod.snd = ws := by rw [ezw, List.map_snd_zip (by omega)]
    have zm : ∀ p ∈ zw, SqT K H p.1 (wv p.2) := fun p hp => by
      obtain ⟨i, hi, rfl⟩ := List.getElem_of_mem hp
      refine ht i _ _ ?_ ?_
      · rw [← z1, List.getElem?_map, List.getElem?_eq_getElem hi]
        rfl
      · rw [← z2, List.getElem?_map, List.getElem?_eq_getElem hi]
        rfl
    have zl : zw.length = ws.length := by rw [← z2, List.length_map]
    refine ⟨_, rfl, tabs_same s1 hT, b, zw.map fun p => (.ref p.1, (p.2.2 : Int)), rfl, ?_, fun p hp => ?_, fun G1 r e1 T1 n1 => ?_⟩
    · rw [List.map_map, show (Prod.fst ∘ fun p : Addr × (Nat × Nat) => (V.ref p.1, (p.2.2 : Int))) = (V.ref ∘ Prod.fst) from rfl, ← List.map_map, z1]
      exact SqL.of (s1 _ _ hb)
    · obtain ⟨p', hp', rfl⟩ := List.mem_map.mp hp
      exact ⟨p'.1, wv p'.2, rfl, SqT_up s1 (zm p' hp'), atI_nat (j := 1) rfl⟩
    obtain ⟨zs, ezs⟩ : ∃ z, z = zw.mergeSort fun u v => decide (u.2.2 ≤ v.2.2) := ⟨_, rfl⟩
    have el : ((zw.map fun p => (V.ref p.1, (p.2.2 : Int))).mergeSort fun u v => decide (u.2 ≤ v.2)).map Prod.fst = (zs.map Prod.fst).map V.ref := by
      rw [ezs, ← List.map_mergeSort (r := fun u v : Addr × (Nat × Nat) => decide (u.2.2 ≤ v.2.2)) (f := fun p : Addr × (Nat × Nat) => (V.ref p.1, (p.2.2 : Int))) (fun u _ v _ => by rw [decide_eq_decide]; omega), List.map_map, List.map_map]
      rfl
    have eb : zs.map Prod.snd = byEnd ws := by
      rw [ezs, List.map_mergeSort (s := fun u v : Nat × Nat => decide (u.2 ≤ v.2)) (fun u _ v _ => rfl), z2]
      rfl
    have zsm : ∀ p ∈ zs, SqT K H p.1 (wv p.2) := fun p hp => zm p (by rw [ezs] at hp; exact List.mem_mergeSort.mp hp)
    have zsl : zs.length = ws.length := by rw [ezs, List.length_mergeSort, zl]
    rw [el]
    have sr := Same.updf (o := .lst ((zs.map Prod.fst).map V.ref)) n1
    have e2 : ExtN G0 (upd G1 r (.lst ((zs.map Prod.fst).map V.ref))) := e1.trans (ExtN.of sr)
    have T2 := tabs_same sr T1
    have hr2 := upd_same (H := G1) (a := r) (o := .lst ((zs.map Prod.fst).map V.ref))
    obtain ⟨G2, eG2⟩ : ∃ X, X = upd G1 r (.lst ((zs.map Prod.fst).map V.ref)) := ⟨_, rfl⟩
    rw [← eG2] at e2 T2 hr2 ⊢
    clear eG2 sr
    have hq2 : G2 q = some (.lst []) := e2 _ _ hq0 fun ps z => by cases z
    have nrq : r ≠ q := fun z => by
      rw [z, e1 _ _ hq0 (fun ps z => by cases z)] at n1
      cases n1
    refine ⟨r, rfl, ⟨_, SqL.of hr2⟩, ?_⟩
    have bl : (byEnd ws).length = ws.length := List.length_mergeSort _
    refine for_list (xs := (zs.map Prod.fst).map V.ref) (fun i σ G => But q G2 G ∧ ∃ (acc : List (Nat × Nat)) (v3 v4 : Option V), apart ws = acc ++ greedy (lastE acc) ((byEnd ws).drop i) ∧ acc.length ≤ i ∧ G q = some (.lst (numsV (acc.map (·.2)))) ∧ σ = [some (.ref b), some (.ref q), v3, v4])
      ⟨But.refl _ _, [], none, none, rfl, Nat.le_refl _, hq2, rfl⟩ (fun i σ G _ hh => SqL.of (hh.1 _ _ nrq hr2)) ?_ ?_
    · rintro i y σ G hy ⟨bG, acc, v3, v4, ea, la, hA, rfl⟩
      have hi : i < zs.length := by
        have := (List.getElem?_eq_some_iff.mp hy).1
        rw [List.length_map, List.length_map] at this
        exact this
      rw [List.getElem?_map, List.getElem?_map, List.getElem?_eq_getElem hi] at hy
      obtain rfl : V.ref zs[i].1 = y := Option.some.inj hy
      have hw0 := KLam.sqT_ext (SqT_up s1 (zsm _ (List.getElem_mem hi))) e2
      have hw : SqT K G zs[i].1 (wv zs[i].2) := SqT_but bG hw0 ⟨_, hq2⟩
      have ei : (byEnd ws).drop i = zs[i].2 :: (byEnd ws).drop (i + 1) := by
        rw [← eb, List.drop_eq_getElem_cons (by rw [List.length_map]; exact hi), List.getElem_map]
      rw [ei] at ea
      refine ⟨zs[i].1, [_, _], rfl, hw, rfl, _, [_], rfl, _, [], rfl, rfl, ?_⟩
      have grow : ∀ (G3 : Hp), But q G2 G3 → G3 q = some (.lst (numsV (acc.map (·.2)))) → lastE acc ≤ zs[i].2.1 → But q G2 (upd G3 q (.lst (numsV (acc.map (·.2)) ++ [.int (zs[i].2.2 : Int)]))) ∧ ∃ (ac : List (Nat × Nat)) (v3 v4 : Option V), apart ws = ac ++ greedy (lastE ac) ((byEnd ws).drop (i + 1)) ∧ ac.length ≤ i + 1 ∧ (upd G3 q (.lst (numsV (acc.map (·.2)) ++ [.int (zs[i].2.2 : Int)]))) q = some (.lst (numsV (ac.map (·.2)))) ∧ [some (V.ref b), some (.ref q), some (.int (zs[i].2.1 : Int)), some (.int (zs[i].2.2 : Int))] = [some (.ref b), some (.ref q), v3, v4] := fun G3 b3 h3 c => by
        have eg : greedy (lastE acc) (zs[i].2 :: (byEnd ws).drop (i + 1)) = zs[i].2 :: greedy zs[i].2.2 ((byEnd ws).drop (i + 1)) := if_pos c
        rw [eg] at ea
        refine ⟨b3.trans But.upd', acc ++ [zs[i].2], _, _, by rw [ea, List.append_assoc, lastE_app]; rfl, by rw [List.length_append]; show _ + 1 ≤ _; omega, ?_, rfl⟩
        rw [upd_same, List.map_append]
        unfold numsV
        rw [List.map_append]
        rfl
      refine ⟨_, rfl, (by show 0 ≤ sizeLine; omega), fun e0 he0 => ?_⟩
      have sE := Same.updf (o := .lst []) he0
      have hAE := sE _ _ hA
      have bE := bG.trans (But.of sE)
      refine ⟨q, e0, _, rfl, rfl, SqL.of hAE, SqL.of upd_same, _, rfl, ?_⟩
      rcases List.eq_nil_or_concat acc with rfl | ⟨acc', g, rfl⟩
      · refine iteT ?_
        obtain ⟨r1, r2⟩ := grow _ bE hAE (Nat.zero_le _)
        exact ⟨_, rfl, Or.inl ⟨rfl, _, SqL.of hAE⟩, _, rfl, q, _, _, rfl, rfl, hAE, (by show 0 < sizeLine; omega), r1, r2⟩
      · rw [List.concat_eq_append] at grow la ea hAE ⊢
        have le : lastE (acc' ++ [g]) = g.2 := lastE_app _ _
        have ie : (numsV ((acc' ++ [g]).map (·.2))).isEmpty = false := by
          rw [List.map_append]
          unfold numsV
          rw [List.map_append]
          cases (acc'.map (·.2)) <;> rfl
        have al : atI (numsV ((acc' ++ [g]).map (·.2))) (-1) = some (.int (g.2 : Int)) := by
          rw [List.map_append]
          unfold numsV
          rw [List.map_append]
          exact at_last _ _
        rw [ie]
        refine iteF ?_
        refine ⟨_, rfl, _, rfl, q, _, _, _, rfl, rfl, SqL.of hAE, al, _, rfl, _, _, rfl, rfl, _, _, rfl, rfl, _, rfl, ?_⟩
        by_cases c : g.2 ≤ zs[i].2.1
        · refine iteP (by omega) ?_
          obtain ⟨r1, r2⟩ := grow _ bE hAE (by rw [le]; exact c)
          exact ⟨_, rfl, Or.inl ⟨rfl, _, SqL.of hAE⟩, _, rfl, q, _, _, rfl, rfl, hAE, (by rw [nums_len, List.length_map]; omega), r1, r2⟩
        · refine iteQ (by omega) ?_
          have eg : greedy (lastE (acc' ++ [g])) (zs[i].2 :: (byEnd ws).drop (i + 1)) = greedy (lastE (acc' ++ [g])) ((byEnd ws).drop (i + 1)) := if_neg (by rw [le]; exact c)
          rw [eg] at ea
          exact ⟨bE, acc' ++ [g], _, _, ea, by omega, hAE, rfl⟩
    · rintro σ G ⟨bG, acc, v3, v4, ea, la, hA, rfl⟩
      rw [List.length_map, List.length_map, List.drop_of_length_le (by omega), show greedy (lastE acc) [] = [] from rfl, List.append_nil] at ea
      refine ⟨_, rfl, q, _, rfl, .inl (SqL.of hA), ?_⟩
      rw [nums_len, List.length_map, ← ea]
      refine k G (fun c o e nt => ?_) (tabs_but bG ⟨_, hq2⟩ T2)
      exact bG _ _ (ne_of_none e hq) (e2 _ _ (s1 _ _ e) nt)
end
end K19
set_option Elab.async false
set_option linter.all false
set_option maxRecDepth 100000
set_option maxHeartbeats 8000000
/-! All orders of two runs. -/
namespace K19
open PySem PySem.Spec PyProof.Rows L2 KB LamX
def spAllR (K : PySem.W.Frag) : Sp := fun vs H Q _ => ∃ (pu a b c d : Addr) (one other : List Ev) (ws us : List (Nat × Nat)) (N : Nat), vs = [.ref pu, .ref a, .ref b, .ref c, .ref d] ∧ Purse H pu N ∧ N ≤ 2 ^ 37 ∧ Two K (off H pu) a b c d one other ws us ∧ one.length + other.length ≤ 10 ∧ Tabs (TbK K) H ∧
  ∀ H', ButN pu H H' → Purse H' pu (N + 100) → Tabs (TbK K) H' → Q (.bl true) H'
theorem RunOk.copy {K : PySem.W.Frag} {H H' : Hp} {a q : Addr} {es : List Ev} {vs : List V} (h : RunOk K H a es) (e : H a = some (.lst vs)) (k : Same H H') (hq : H' q = some (.lst vs)) : RunOk K H' q es := ⟨h.at_.copy e k hq, h.ne, h.len⟩
theorem WtOk.copy {K : PySem.W.Frag} {H H' : Hp} {a q : Addr} {es : List Ev} {ws : List (Nat × Nat)} {vs : List V} (h : WtOk K H a es ws) (e : H a = some (.lst vs)) (k : Same H H') (hq : H' q = some (.lst vs)) : WtOk K H' q es ws := ⟨h.at_.copy e k hq, h.ok, h.len⟩
theorem same_off {H G : Hp} {D : Addr} (s : Same H G) (n : H D = none) : Same H (off G D) := fun c o e => (off_at (ne_of_none e n)).trans (s _ _ e)
theorem waits_len {n : Nat} {ws : List (Nat × Nat)} (h : Ins n ws) (a : ws.Pairwise lexP) : ws.length ≤ n * n := by
  have m : (ws.map fun w => w.1 * n + w.2).Pairwise (· < ·) := List.pairwise_map.mpr (List.Pairwise.imp_of_mem (fun {u v} hu hv q => by
    have := h u hu
    have := h v hv
    rcases q with q | ⟨q1, q2⟩
    · have := Nat.mul_le_mul_right n (show u.1 + 1 ≤ v.1 from q)
      rw [Nat.succ_mul] at this
      omega
    · rw [q1]
      omega) a)
  have := asc_len (b := 0) (n := n * n) m fun p hp => ⟨Nat.zero_le _, by
    obtain ⟨w, hw, rfl⟩ := List.mem_map.mp hp
    have := h w hw
    have := Nat.mul_le_mul_right n (show w.1 + 1 ≤ n by omega)
    rw [Nat.succ_mul] at this
    omega⟩
  rw [List.length_map] at this
  omega
/-! orders as data -/
abbrev dO (PS : List (List Nat)) : List PyData := PS.map fun o => PyData.list (dN o)
theorem lay_nums (o : List Nat) : PyData.canLay0 (.list (dN o)) = true ∧ PyData.depth (.list (dN o)) ≤ 2 := by
  have g : PyData.canLayAll0 (dN o) = true ∧ PyData.depthAll (dN o) ≤ 1 := by
    induction o with
    | nil => exact ⟨rfl, Nat.zero_le _⟩
    | cons x o ih =>
      constructor
      · simp only [dN, List.map_cons, PyData.canLayAll0, PyData.canLay0, Bool.true_and]
        exact ih.1
      · simp only [dN, List.map_cons, PyData.depthAll, PyData.depth]
        have := ih.2
        simp only [dN] at this
        omega
  constructor
  · simp only [PyData.canLay0]
    exact g.1
  · simp only [PyData.depth]
    have := g.2
    omega
theorem shaped_ords (PS : List (List Nat)) : SeqAt.shaped (.list (dO PS)) = true := shaped_list fun d hd => by
  obtain ⟨o, _, rfl⟩ := List.mem_map.mp hd
  exact lay_nums o
theorem eqv_nums : ∀ o p : List Nat, PyData.eqv (.list (dN o)) (.list (dN p)) = decide (o = p) := by
  have g : ∀ o p : List Nat, PyData.eqvAll (dN o) (dN p) = decide (o = p) := by
    intro o
    induction o with
    | nil =>
      intro p
      cases p with
      | nil => rfl
      | cons y p => simp [dN, PyData.eqvAll]
    | cons x o ih =>
      intro p
      cases p with
      | nil => simp [dN, PyData.eqvAll]
      | cons y p =>
        have ix : ((x : Int) == (y : Int)) = decide (x = y) := by
          rw [Bool.eq_iff_iff, beq_iff_eq, decide_eq_true_eq]
          omega
        have ih := ih p
        simp only [dN] at ih
        simp only [dN, List.map_cons, PyData.eqvAll, PyData.eqv, ix, ih]
        rw [Bool.eq_iff_iff, Bool.and_eq_true, decide_eq_true_eq, decide_eq_true_eq, decide_eq_true_eq, List.cons.injEq]
  intro o p
  have := g o p
  simpa [PyData.eqv] using this
def OrdsAt (G : Hp) (q : Addr) (PS : List (List Nat)) : Prop := ∃ ys, G q = some (.lst ys) ∧ Paired (LsAt G) PS ys
theorem lsAt_ext {A B : Hp} (k : ExtN A B) {o : List Nat} {y : V} : LsAt A o y → LsAt B o y := fun ⟨T, e, h⟩ => ⟨T, e, k _ _ h (fun ps z => by cases z)⟩
theorem OrdsAt.ext {A B : Hp} {q : Addr} {PS : List (List Nat)} (k : ExtN A B) : OrdsAt A q PS → OrdsAt B q PS := fun ⟨ys, h, p⟩ => ⟨ys, k _ _ h (fun ps z => by cases z), paired_mono (fun _ _ h => lsAt_ext k h) p⟩
theorem dpAll_ords {K : PySem.W.Frag} {G : Hp} : ∀ {PS : List (List Nat)} {ys : List V}, Paired (LsAt G) PS ys → DpAll K G ys (dO PS)
  | _, _, .nil => .nil
  | _, _, .cons ⟨_, e, hT⟩ t => by
    rw [e]
    exact .cons (dp_nums hT) (dpAll_ords t)
theorem OrdsAt.dp {K : PySem.W.Frag} {G : Hp} {q : Addr} {PS : List (List Nat)} : OrdsAt G q PS → Dp K G (.ref q) (.list (dO PS)) := fun ⟨_, h, p⟩ => .lst (SqL.of h) (dpAll_ords p)
theorem iteSame {v : V} {A B : Prop} (b : B) : if (!decide (v = v)) = true then A else B := iteNeg (by rw [decide_eq_true rfl]; exact Bool.false_ne_true) b
theorem OrdsAt.nth {G : Hp} {q : Addr} {PS : List (List Nat)} {i : Nat} {o : List Nat} (h : OrdsAt G q PS) (e : PS[i]? = some o) : ∃ ys T, G q = some (.lst ys) ∧ ys[i]? = some (.ref T) ∧ G T = some (.lst (numsV o)) := by
  obtain ⟨ys, h, p⟩ := h
  have g : ∀ {PS : List (List Nat)} {ys : List V} {i : Nat}, Paired (LsAt G) PS ys → PS[i]? = some o → ∃ T, ys[i]? = some (.ref T) ∧ G T = some (.lst (numsV o)) := by
    intro PS ys i p
    induction p generalizing i with
    | nil => intro e; simp at e
    | cons r _ ih =>
      intro e
      cases i with
      | zero =>
        cases e
        obtain ⟨T, rfl, hT⟩ := r
        exact ⟨T, rfl, hT⟩
      | succ i => exact ih e
  obtain ⟨T, e1, e2⟩ := g p e
  exact ⟨ys, T, h, e1, e2⟩
theorem any_ords {PS : List (List Nat)} {o : List Nat} : ((dO PS).any fun z => PyData.eqv z (.list (dN o))) = decide (o ∈ PS) := by
  rw [List.any_map, Bool.eq_iff_iff, List.any_eq_true, decide_eq_true_eq]
  constructor
  · rintro ⟨p, hp, e⟩
    have e : PyData.eqv (.list (dN p)) (.list (dN o)) = true := e
    rw [eqv_nums] at e
    exact of_decide_eq_true e ▸ hp
  · intro h
    refine ⟨o, h, ?_⟩
    show PyData.eqv (.list (dN o)) (.list (dN o)) = true
    rw [eqv_nums]
    exact decide_eq_true rfl
theorem first_of {o : List Nat} : ∀ {PS : List (List Nat)}, o ∈ PS → ∃ j : Nat, PS[j]? = some o ∧ ∀ (m : Nat) (z : List Nat), m < j → PS[m]? = some z → z ≠ o
  | [], h => nomatch h
  | p :: PS, h => by
    by_cases e : p = o
    · exact ⟨0, by rw [e]; rfl, fun m z hm => by omega⟩
    · rcases List.mem_cons.mp h with h | h
      · exact absurd h.symm e
      · obtain ⟨j, h1, h2⟩ := first_of h
        refine ⟨j + 1, h1, fun m z hm hz => ?_⟩
        cases m with
        | zero => cases hz; exact e
        | succ m => exact h2 m z (by omega) hz
theorem LsT.off1 {K : PySem.W.Frag} {α : Type} {vv : α → List V} {H : Hp} {a p : Addr} {xs : List α} (h : LsT K vv H a xs) (n : a ≠ p) (hp : ∃ ys, H p = some (.lst ys)) : LsT K vv (off H p) a xs := by
  obtain ⟨ts, h1, h2, h3⟩ := h
  refine ⟨ts, (off_at n).trans h1, h2, fun i t x e1 e2 => ?_⟩
  obtain ⟨ys, hp⟩ := hp
  rcases h3 i t x e1 e2 with (h | ⟨o, h⟩) | h
  · exact .inl (.inl ((off_at (fun z => by rw [z, hp] at h; cases h)).trans h))
  · exact .inl (.inr ⟨o, (off_at (fun z => by rw [z, hp] at h; cases h)).trans h⟩)
  · exact .inr h
theorem extN_off {p : Addr} {A B : Hp} (k : ExtN A B) : ExtN (off A p) (off B p) := fun c o e tt => by
  obtain ⟨n, e⟩ := off_some e
  exact (off_at n).trans (k _ _ e tt)
theorem ext_offN {p : Addr} {A B : Hp} (k : ExtN A B) (n : NewN A p) : ExtN A (off B p) := fun c o e tt => by
  refine (off_at (fun z => ?_)).trans (k _ _ e tt)
  rw [z] at e
  obtain ⟨ps, q⟩ := n _ e
  exact tt ps q
theorem paired_monoM {α : Type} {R S : α → V → Prop} : ∀ {xs : List α} {ys : List V}, Paired R xs ys → (∀ x y, y ∈ ys → R x y → S x y) → Paired S xs ys
  | _, _, .nil, _ => .nil
  | _, _, .cons r t, k => .cons (k _ _ (List.mem_cons_self ..) r) (paired_monoM t fun x y h => k x y (List.mem_cons_of_mem _ h))
theorem nums_ints {K : PySem.W.Frag} {G : Hp} {D : Addr} {l : List Nat} (h : G D = some (.lst (numsV l))) : SqL K G D ((l.map fun x : Nat => (x : Int)).map V.int) := by
  refine SqL.of ?_
  rw [List.map_map]
  exact h
theorem purse_ext {H H' : Hp} {pu : Addr} {N : Nat} (e : ExtN H H') (h : Purse H pu N) : Purse H' pu N := by
  obtain ⟨A0, B0, c0, i0, eP, rr⟩ := h.at_
  exact ⟨A0, B0, c0, i0, e _ _ eP (fun ps z => by cases z), rr⟩
/-- a value that is no order of so many -/
def OddO (K : PySem.W.Frag) (H : Hp) (n m : Nat) (y : V) : Prop := ∃ e k, TD K H k y e ∧ ordB n m e = false
theorem TD.ext {K : PySem.W.Frag} {H H' : Hp} (k : ExtN H H') : ∀ {n : Nat} {x : V} {d : PyData}, TD K H n x d → TD K H' n x d
  | 0, _, _, h => h
  | n + 1, _, _, h => by
    rcases h with h | ⟨a, xs, ds, e, l, l1, t, c⟩ | ⟨a, ps, m, e, n1, ha, ed⟩
    · exact .inl h
    · refine .inr (.inl ⟨a, xs, ds, e, l, l1, ?_, fun i u v e1 e2 => TD.ext k (c i u v e1 e2)⟩)
      rcases t with ⟨t1, t2⟩ | ⟨t1, t2⟩
      · exact .inl ⟨k _ _ t1 (fun ps z => by cases z), t2⟩
      · exact .inr ⟨KLam.sqT_ext t1 k, t2⟩
    · exact .inr (.inr ⟨a, ps, m, e, n1, k _ _ ha (fun ps z => by cases z), ed⟩)
theorem OddO.ext {K : PySem.W.Frag} {H H' : Hp} {n m : Nat} {y : V} (k : ExtN H H') : OddO K H n m y → OddO K H' n m y := fun ⟨e, j, h, q⟩ => ⟨e, j, TD.ext k h, q⟩
theorem ord_no {n m : Nat} {o : List Nat} (h : ¬ Ord n m o) : ordB n m (.list (dN o)) = false := by
  rw [← Bool.not_eq_true]
  intro z
  obtain ⟨p, e, hp⟩ := ordB_iff.mp z
  have e := congrArg (List.map toN) (PyData.list.inj e)
  rw [dN_toN, dN_toN] at e
  exact h (e ▸ hp)
theorem ord_bad {n m : Nat} {ds : List PyData} {d : PyData} (h : d ∈ ds) (e : belB 2 d = false) : ordB n m (.list ds) = false := by
  show (ds.all (belB 2) && _) = false
  have : ds.all (belB 2) = false := by
    rw [← Bool.not_eq_true, List.all_eq_true]
    intro z
    rw [z d h] at e
    cases e
  rw [this, Bool.false_and]
theorem td_numsT {K : PySem.W.Frag} {H : Hp} {a : Addr} {o : List Nat} (h : SqT K H a (numsV o)) (hl : o.length ≤ 1000) : TD K H 1 (.ref a) (.tuple (dN o)) := by
  refine TD.tup h (by rw [nums_len, List.length_map]) (by rw [List.length_map]; exact hl) fun i u e e1 e2 => ?_
  obtain ⟨x, q, rfl⟩ := nums_get e1
  rw [List.getElem?_map, q] at e2
  cases e2
  exact TD.flat (.int _)
theorem td_rep {K : PySem.W.Frag} {H : Hp} {a : Addr} {k : Nat} {x : V} {d : PyData} (h : H a = some (.lst (List.replicate k x))) (hl : k ≤ 1000) (f : FlatD x d) : TD K H 1 (.ref a) (.list (List.replicate k d)) := by
  refine TD.lst h (by rw [List.length_replicate, List.length_replicate]) (by rw [List.length_replicate]; exact hl) fun i u e e1 e2 => ?_
  rw [List.getElem?_replicate] at e1 e2
  by_cases c : i < k
  · rw [if_pos c] at e1 e2
    cases e1
    cases e2
    exact TD.flat f
  · rw [if_neg c] at e1
    cases e1
theorem all_bl2 {n : Nat} {c : Nat → Bool} {H : Hp} {D : Addr} (hR : H D = some (.lst ((List.range n).filterMap fun i => some (V.bl (c i))))) : H D = some (.lst (((List.range n).map c).map V.bl)) := by
  rw [hR, List.map_map, List.filterMap_eq_map']
  rfl
theorem td_bools {K : PySem.W.Frag} {H : Hp} {a : Addr} {bs : List Bool} (h : H a = some (.lst (bs.map V.bl))) (hl : bs.length ≤ 1000) : TD K H 1 (.ref a) (.list (bs.map PyData.bool)) := by
  refine TD.lst h (by rw [List.length_map, List.length_map]) (by rw [List.length_map]; exact hl) fun i u e e1 e2 => ?_
  rw [List.getElem?_map] at e1 e2
  obtain ⟨b, q1, rfl⟩ := Option.map_eq_some_iff.mp e1
  rw [q1] at e2
  cases e2
  exact TD.flat (.bl _)
theorem ord_bools {n m : Nat} {bs : List Bool} (h : 0 < bs.length) : ordB n m (.list (bs.map PyData.bool)) = false := by
  obtain ⟨b, hb⟩ := List.exists_mem_of_length_pos h
  exact ord_bad (List.mem_map.mpr ⟨b, hb, rfl⟩) rfl
theorem cut_last (xs : List V) : cutV xs none (some (-1)) = xs.dropLast := by
  unfold cutV
  have e1 : HT.sIx xs.length 0 none = 0 := rfl
  have e2 : HT.sIx xs.length xs.length (some (-1)) = xs.length - 1 := by
    unfold HT.sIx
    simp
    omega
  rw [e1, e2, List.drop_zero, Nat.sub_zero, List.dropLast_eq_take]
theorem flip_int {x : Nat} (h : x = 0 ∨ x = 1) : (1 : Int) - (x : Int) = ((1 - x : Nat) : Int) := by omega
theorem ord_flip {n m x : Nat} {o p : List Nat} (h : Ord n m o) (e : o = p ++ [x]) (hx : x = 0 ∨ x = 1) : ¬ Ord n m (o.dropLast ++ [1 - x]) := fun z => by
  subst e
  rw [List.dropLast_concat] at z
  have a := h.2.1
  have b := z.2.1
  rw [cnt_snoc] at a b
  rcases hx with rfl | rfl
  · simp at a b
    omega
  · simp at a b
    omega
section
variable {P : Program} {w : World} {K : PySem.W.Frag} {mg : Str → Option Value} {base : Heap}
abbrev s_all_right : Stmt := top 47
abbrev N_all_right : List Str := ["_law_purse_here", "_law_one", "_law_waits", "_law_other", "_law_late", "_law_orders_here", "_law_sizes", "_law_order", "_law_run_here", "_law_places", "_law_some", "_law_handed", "_law_told", "_law_own", "_law_at", "_law_odd", "_law_kept", "_law_turn", "_law_side"]
theorem sc_all_right : FnScope N_all_right ["_law_purse_here", "_law_one", "_law_waits", "_law_other", "_law_late"] (defScope s_all_right) := ⟨rfl, rfl, rfl, by decide +kernel, rfl, by decide +kernel, by decide +kernel⟩
theorem ok_all_right {f : Addr} {fd : FuncData} (F : FnP K "_law_all_right" s_all_right f fd) (Z : FreeS mg)
    {f_best_order : Addr} {d_best_order : FuncData} (g_best_order : mg "best_order" = some (.ref f_best_order)) (F_best_order : FnP K "best_order" s_best_order f_best_order d_best_order) (G_best_order : FnOk P w K mg base CX0 8 f_best_order d_best_order ["one", "waits", "other", "late"] (spBest K))
    {f_orders : Addr} {d_orders : FuncData} (g_orders : mg "_law_orders" = some (.ref f_orders)) (F_orders : FnP K "_law_orders" s_orders f_orders d_orders) (G_orders : FnOk P w K mg base CX0 1 f_orders d_orders ["_law_many", "_law_late"] (spOrders K))
    {f_taken : Addr} {d_taken : FuncData} (g_taken : mg "_law_taken" = some (.ref f_taken)) (F_taken : FnP K "_law_taken" s_taken f_taken d_taken) (G_taken : FnOk P w K mg base CX0 1 f_taken d_taken ["_law_one", "_law_other", "_law_order"] (spTaken K))
    {f_placed : Addr} {d_placed : FuncData} (g_placed : mg "_law_placed" = some (.ref f_placed)) (F_placed : FnP K "_law_placed" s_placed f_placed d_placed) (G_placed : FnOk P w K mg base CX0 1 f_placed d_placed ["_law_waits", "_law_late", "_law_places"] (spPlaced K))
    {f_least : Addr} {d_least : FuncData} (g_least : mg "_law_least" = some (.ref f_least)) (F_least : FnP K "_law_least" s_least f_least d_least) (G_least : FnOk P w K mg base CX0 4 f_least d_least ["_law_stretches"] (spLeast K))
    {f_woven : Addr} {d_woven : FuncData} (g_woven : mg "woven" = some (.ref f_woven)) (F_woven : FnP K "woven" s_woven f_woven d_woven) (G_woven : FnOk P w K mg base CX0 6 f_woven d_woven ["one", "other", "order"] (spWoven K))
    {f_waits_woven : Addr} {d_waits_woven : FuncData} (g_waits_woven : mg "waits_woven" = some (.ref f_waits_woven)) (F_waits_woven : FnP K "waits_woven" s_waits_woven f_waits_woven d_waits_woven) (G_waits_woven : FnOk P w K mg base CX0 8 f_waits_woven d_waits_woven ["one", "waits", "other", "late", "order"] (spWaitsW K))
    {f_exact : Addr} {d_exact : FuncData} (g_exact : mg "_law_exact" = some (.ref f_exact)) (F_exact : FnP K "_law_exact" s_exact f_exact d_exact) (GA_exact : ∀ n : Nat, FnOk P w K mg base CX0 (n + 1) f_exact d_exact ["_law_mine", "_law_theirs"] (spExactD K n))
    {f_draw : Addr} {d_draw : FuncData} (g_draw : mg "_law_draw" = some (.ref f_draw)) (F_draw : FnP K "_law_draw" s_draw f_draw d_draw) (G_draw : FnOk P w K mg base CX0 2 f_draw d_draw ["_law_purse_here", "_law_many"] spDraw)
    {f_is_best_order : Addr} {d_is_best_order : FuncData} (g_is_best_order : mg "is_best_order" = some (.ref f_is_best_order)) (F_is_best_order : FnP K "is_best_order" s_is_best_order f_is_best_order d_is_best_order) (G_is_best_order : FnOk P w K mg base CX0 8 f_is_best_order d_is_best_order ["one", "waits", "other", "late", "value"] (spIsBest K))
    {f_barriers_for : Addr} {d_barriers_for : FuncData} (g_barriers_for : mg "barriers_for" = some (.ref f_barriers_for)) (F_barriers_for : FnP K "barriers_for" s_barriers_for f_barriers_for d_barriers_for) (G_barriers_for : FnOk P w K mg base CX0 7 f_barriers_for d_barriers_for ["run", "waits"] (spFor K)) :
    FnOk P w K mg base CX0 11 f fd ["_law_purse_here", "_law_one", "_law_waits", "_law_other", "_law_late"] (spAllR K) := by
  have b_best_order : Binds K d_best_order ["one", "waits", "other", "late"] [] := F_best_order.bindsN fun _ _ _ _ _ _ us hl => match us, hl with | [_, _, _, _], _ => rfl
  have b_orders : Binds K d_orders ["_law_many", "_law_late"] [] := F_orders.bindsN fun _ _ _ _ _ _ us hl => match us, hl with | [_, _], _ => rfl
  have b_taken : Binds K d_taken ["_law_one", "_law_other", "_law_order"] [] := F_taken.bindsN fun _ _ _ _ _ _ us hl => match us, hl with | [_, _, _], _ => rfl
  have b_placed : Binds K d_placed ["_law_waits", "_law_late", "_law_places"] [] := F_placed.bindsN fun _ _ _ _ _ _ us hl => match us, hl with | [_, _, _], _ => rfl
  have b_least : Binds K d_least ["_law_stretches"] [] := F_least.bindsN fun _ _ _ _ _ _ us hl => match us, hl with | [_], _ => rfl
  have b_woven : Binds K d_woven ["one", "other", "order"] [] := F_woven.bindsN fun _ _ _ _ _ _ us hl => match us, hl with | [_, _, _], _ => rfl
  have b_waits_woven : Binds K d_waits_woven ["one", "waits", "other", "late", "order"] [] := F_waits_woven.bindsN fun _ _ _ _ _ _ us hl => match us, hl with | [_, _, _, _, _], _ => rfl
  have b_exact : Binds K d_exact ["_law_mine", "_law_theirs"] [] := F_exact.bindsN fun _ _ _ _ _ _ us hl => match us, hl with | [_, _], _ => rfl
  have b_draw : Binds K d_draw ["_law_purse_here", "_law_many"] [] := F_draw.bindsN fun _ _ _ _ _ _ us hl => match us, hl with | [_, _], _ => rfl
  have b_is_best_order : Binds K d_is_best_order ["one", "waits", "other", "late", "value"] [] := F_is_best_order.bindsN fun _ _ _ _ _ _ us hl => match us, hl with | [_, _, _, _, _], _ => rfl
  have b_barriers_for : Binds K d_barriers_for ["run", "waits"] [] := F_barriers_for.bindsN fun _ _ _ _ _ _ us hl => match us, hl with | [_, _], _ => rfl
  refine F.ok sc_all_right (fun vs H Q E h => ?_) (fun cdv A outer s H vs Q E hr h => ?_)
  · obtain ⟨pu, a, b, c, d, one, other, ws, us, N, rfl, _⟩ := h
    rfl
  · obtain ⟨pu, a, b, c, d, one, other, ws, us, N, rfl, hP, hN, h2o, l8, hT, k⟩ := h
    have sl : (10000 : Nat) ≤ sizeLine := by decide
    have hu := room65 hr
    have nd := sc_all_right.nd
    refine ⟨_, PSs.nox (pss_cons (ps_asg (pe_tup (pa_cons (pe_call G_orders (hr.mono (by decide)) rfl g_orders F_orders.kp b_orders .nil pass0 (pa_cons (pe_callB call_len_seq (by rfl) Z.len (by decide +kernel) (pa_cons (pv 1) (pa_nil))) (pa_cons (pe_callB call_len_seq (by rfl) Z.len (by decide +kernel) (pa_cons (pv 3) (pa_nil))) (pa_nil)))) (pa_cons (pe_lst (pa_nil)) (pa_nil)))) (pg_tup rfl (pgs_cons (pg_name (i := 5) nd rfl (Or.inr rfl)) (pgs_cons (pg_name (i := 6) nd rfl (Or.inl rfl)) (pgs_nil)))))
      (pss_cons (ps_for PassesOwn.never rfl (pi_list (pv 5)) (pg_name (i := 7) nd rfl (Or.inl rfl))
        (pss_cons (ps_asg (pe_call G_taken (hr.mono (by decide)) rfl g_taken F_taken.kp b_taken .nil pass0 (pa_cons (pv 1) (pa_cons (pv 3) (pa_cons (pv 7) (pa_nil))))) (pg_unl rfl (pgs_cons (pg_name (i := 8) nd rfl (Or.inl rfl)) (pgs_cons (pg_name (i := 9) nd rfl (Or.inl rfl)) (pgs_nil)))))
      (pss_cons (ps_set (i := 10) nd rfl (Or.inl rfl) (pe_call G_placed (hr.mono (by decide)) rfl g_placed F_placed.kp b_placed .nil pass0 (pa_cons (pv 2) (pa_cons (pv 4) (pa_cons (pv 9) (pa_nil))))))
      (pss_cons (ps_set (i := 11) nd rfl (Or.inl rfl) (pe_lst (pa_cons (pe_callTy call_list_of (by rfl) Z.tlist (by decide +kernel) (pa_cons (pv 1) (pa_nil))) (pa_cons (pe_callTy call_list_of (by rfl) Z.tlist (by decide +kernel) (pa_cons (pv 3) (pa_nil))) (pa_cons (pe_callTy call_list_of (by rfl) Z.tlist (by decide +kernel) (pa_cons (pv 7) (pa_nil))) (pa_cons (pe_callTy call_list_of (by rfl) Z.tlist (by decide +kernel) (pa_cons (pv 2) (pa_nil))) (pa_cons (pe_callTy call_list_of (by rfl) Z.tlist (by decide +kernel) (pa_cons (pv 4) (pa_nil))) (pa_nil))))))))
      (pss_cons (ps_set (i := 12) nd rfl (Or.inl rfl) (pe_lst (pa_cons (pe_call G_woven (hr.mono (by decide)) rfl g_woven F_woven.kp b_woven .nil pass0 (pa_cons (pe_ix ix_list (pv 11) (pe_int) (fun _ _ => rfl)) (pa_cons (pe_ix ix_list (pv 11) (pe_int) (fun _ _ => rfl)) (pa_cons (pe_ix ix_list (pv 11) (pe_int) (fun _ _ => rfl)) (pa_nil))))) (pa_cons (pe_call G_waits_woven (hr.mono (by decide)) rfl g_waits_woven F_waits_woven.kp b_waits_woven .nil pass0 (pa_cons (pe_ix ix_list (pv 11) (pe_int) (fun _ _ => rfl)) (pa_cons (pe_ix ix_list (pv 11) (pe_int) (fun _ _ => rfl)) (pa_cons (pe_ix ix_list (pv 11) (pe_int) (fun _ _ => rfl)) (pa_cons (pe_ix ix_list (pv 11) (pe_int) (fun _ _ => rfl)) (pa_cons (pe_ix ix_list (pv 11) (pe_int) (fun _ _ => rfl)) (pa_nil))))))) (pa_nil)))))
      (pss_cons (ps_if (pt_not (pt_val (pe_call (GA_exact 9) (hr.mono (by decide)) rfl g_exact F_exact.kp b_exact .nil pass0 (pa_cons (pe_lst (pa_cons (pv 12) (pa_cons (pv 11) (pa_nil)))) (pa_cons (pe_lst (pa_cons (pe_lst (pa_cons (pv 8) (pa_cons (pv 10) (pa_nil)))) (pa_cons (pe_lst (pa_cons (pv 1) (pa_cons (pv 3) (pa_cons (pv 7) (pa_cons (pv 2) (pa_cons (pv 4) (pa_nil))))))) (pa_nil)))) (pa_nil)))))) (pss_one (ps_ret (pe_bl))) (pss_nil))
      (pss_one (ps_expr (pe_bm PySem.F.plainAttrs_list PySem.F.slot_list_append PySem.F.type_list_append mt_append (pv 6) (pa_cons (pe_call G_least (hr.mono (by decide)) rfl g_least F_least.kp b_least .nil pass0 (pa_cons (pv 10) (pa_nil))) (pa_nil)))))))))))
      (pss_cons (ps_set (i := 13) nd rfl (Or.inl rfl) (pe_lst (pa_cons (pe_call G_least (hr.mono (by decide)) rfl g_least F_least.kp b_least .nil pass0 (pa_cons (pv 2) (pa_nil))) (pa_cons (pe_call G_least (hr.mono (by decide)) rfl g_least F_least.kp b_least .nil pass0 (pa_cons (pv 4) (pa_nil))) (pa_nil)))))
      (pss_cons (ps_if (PW.pt (pw_or (pt_cmpR op_ne (pe_callB (cr_min rfl) (by rfl) Z.min (by decide +kernel) (pa_cons (pv 6) (pa_nil))) (pe_callB (cr_max rfl) (by rfl) Z.max (by decide +kernel) (pa_cons (pv 13) (pa_nil))) (nomark _)) (pw_or (pt_cmpR op_ne (pe_callB (cr_max rfl) (by rfl) Z.max (by decide +kernel) (pa_cons (pv 6) (pa_nil))) (pe_callB (cr_sum rfl) (by rfl) Z.sum (by decide +kernel) (pa_cons (pv 13) (pa_nil))) (nomark _)) (pw_or1 (pt_cmpR op_ne (pe_callB call_len_seq (by rfl) Z.len (by decide +kernel) (pa_cons (pe_call G_barriers_for (hr.mono (by decide)) rfl g_barriers_for F_barriers_for.kp b_barriers_for .nil pass0 (pa_cons (pv 1) (pa_cons (pv 2) (pa_nil)))) (pa_nil))) (pe_ix ix_list (pv 13) (pe_int) (fun _ _ => rfl)) (nomark _)))))) (pss_one (ps_ret (pe_bl))) (pss_nil))
      (pss_cons (ps_set (i := 12) nd rfl (Or.inl rfl) (pe_call G_best_order (hr.mono (by decide)) rfl g_best_order F_best_order.kp b_best_order .nil pass0 (pa_cons (pv 1) (pa_cons (pv 2) (pa_cons (pv 3) (pa_cons (pv 4) (pa_nil)))))))
      (pss_cons (ps_if (PW.pt (pw_or (pt_cmpR (op_notInD hu) (pv 12) (pv 5) (by rfl)) (pw_or1 (pt_cmpR op_ne (pe_ix ix_list (pv 6) (pe_bm PySem.F.plainAttrs_list PySem.F.slot_list_index PySem.F.type_list_index (mt_indexD hu) (pv 5) (pa_cons (pv 12) (pa_nil))) (fun _ _ => rfl)) (pe_callB (cr_min rfl) (by rfl) Z.min (by decide +kernel) (pa_cons (pv 6) (pa_nil))) (nomark _))))) (pss_one (ps_ret (pe_bl))) (pss_nil))
      (pss_cons (ps_for PassesOwn.never rfl (pi_list (pe_op op_cat (pe_lst (pa_cons (pe_bm PySem.F.plainAttrs_list PySem.F.slot_list_index PySem.F.type_list_index (mt_indexD hu) (pv 5) (pa_cons (pv 12) (pa_nil))) (pa_nil))) (pe_lc (own := [("_law_turn", 17)]) (g := gName 17) (tt := tYes) (te := tCall spDraw [] E0 (tCons (tVar 0) (tCons (tCB (rLenK K) (tCons (tVar 5) (tNil))) (tNil)))) (by rfl) nd (pi_range1 (by rfl) Z.range (pa_cons (pe_int) (pa_nil)))
          (blkOk_by (own := [("_law_turn", 17)]) (N := N_all_right) (sc := defScope s_all_right) (by decide +kernel)) (fun _ _ _ _ _ => pg_name (i := 17) nd rfl (Or.inl rfl)) (fun _ _ _ _ _ => pts_nil)
          (fun _ _ _ _ _ => pe_call G_draw (hr.mono (by decide)) rfl g_draw F_draw.kp b_draw .nil pass0 (pa_cons (pv 0) (pa_cons (pe_callB call_len_seq (by rfl) Z.len (by decide +kernel) (pa_cons (pv 5) (pa_nil))) (pa_nil))))))) (pg_name (i := 14) nd rfl (Or.inl rfl))
        (pss_one (ps_if (pt_not (pt_val (pe_call (GA_exact 9) (hr.mono (by decide)) rfl g_exact F_exact.kp b_exact .nil pass0 (pa_cons (pe_call G_is_best_order (hr.mono (by decide)) rfl g_is_best_order F_is_best_order.kp b_is_best_order .nil pass0 (pa_cons (pv 1) (pa_cons (pv 2) (pa_cons (pv 3) (pa_cons (pv 4) (pa_cons (pe_ix ix_list (pv 5) (pv 14) (fun _ _ => rfl)) (pa_nil))))))) (pa_cons (pe_cmpR op_eq (pe_ix ix_list (pv 6) (pv 14) (fun _ _ => rfl)) (pe_callB (cr_min rfl) (by rfl) Z.min (by decide +kernel) (pa_cons (pv 6) (pa_nil))) (nomark _)) (pa_nil)))))) (pss_one (ps_ret (pe_bl))) (pss_nil))))
      (pss_cons (ps_for PassesOwn.never rfl (pi_list (pe_lst (pa_cons (pe_non) (pa_cons (pe_int) (pa_cons (pe_str) (pa_cons (pe_dnewK) (pa_cons (pe_tup (pa_nil)) (pa_cons (pe_lst (pa_nil)) (pa_cons (pe_callTy call_tuple_of (by rfl) Z.ttuple (by decide +kernel) (pa_cons (pv 12) (pa_nil))) (pa_cons (pe_op op_cat (pv 12) (pe_lst (pa_cons (pe_int) (pa_nil)))) (pa_cons (pe_slice sl_list (pv 12) (po_some (pe_int)) (po_none)) (pa_cons (pe_op op_rep (pe_lst (pa_cons (pe_non) (pa_nil))) (pe_callB call_len_seq (by rfl) Z.len (by decide +kernel) (pa_cons (pv 12) (pa_nil)))) (pa_cons (pe_lc (own := [("_law_side", 18)]) (g := gName 18) (tt := tYes) (te := tOp rEq (tVar 18) (tC (.int 1))) (by rfl) nd (pi_list (pv 12))
          (blkOk_by (own := [("_law_side", 18)]) (N := N_all_right) (sc := defScope s_all_right) (by decide +kernel)) (fun _ _ _ _ _ => pg_name (i := 18) nd rfl (Or.inl rfl)) (fun _ _ _ _ _ => pts_nil)
          (fun _ _ _ _ _ => pe_cmpR op_eq (pv 18) (pe_int) (nomark _))) (pa_cons (pe_op op_rep (pe_lst (pa_cons (pe_int) (pa_nil))) (pe_callB call_len_seq (by rfl) Z.len (by decide +kernel) (pa_cons (pv 12) (pa_nil)))) (pa_cons (pe_op op_cat (pe_slice sl_list (pv 12) (po_none) (po_some (pe_un un_neg (pe_int)))) (pe_lst (pa_cons (pe_op op_sub (pe_int) (pe_ix ix_list (pv 12) (pe_un un_neg (pe_int)) (fun _ _ => rfl))) (pa_nil)))) (pa_cons (pe_lst (pa_cons (pv 12) (pa_nil))) (pa_nil))))))))))))))))) (pg_name (i := 15) nd rfl (Or.inl rfl))
        (pss_one (ps_if (pt_cmpR op_notBl (pe_call G_is_best_order (hr.mono (by decide)) rfl g_is_best_order F_is_best_order.kp b_is_best_order .nil pass0 (pa_cons (pv 1) (pa_cons (pv 2) (pa_cons (pv 3) (pa_cons (pv 4) (pa_cons (pv 15) (pa_nil))))))) (pe_bl) (nomark _)) (pss_one (ps_ret (pe_bl))) (pss_nil))))
      (pss_cons (ps_set (i := 16) nd rfl (Or.inl rfl) (pe_callTy call_list_of (by rfl) Z.tlist (by decide +kernel) (pa_cons (pv 12) (pa_nil))))
      (pss_cons (ps_expr (pe_bm PySem.F.plainAttrs_list PySem.F.slot_list_append PySem.F.type_list_append mt_append (pv 12) (pa_cons (pe_non) (pa_nil))))
      (pss_one (ps_ret (pe_and (pe_cmpR (op_inD hu) (pe_call G_best_order (hr.mono (by decide)) rfl g_best_order F_best_order.kp b_best_order .nil pass0 (pa_cons (pv 1) (pa_cons (pv 2) (pa_cons (pv 3) (pa_cons (pv 4) (pa_nil)))))) (pv 5) (by rfl)) (pe_one (pe_cmpR op_isBl (pe_call G_is_best_order (hr.mono (by decide)) rfl g_is_best_order F_is_best_order.kp b_is_best_order .nil pass0 (pa_cons (pv 1) (pa_cons (pv 2) (pa_cons (pv 3) (pa_cons (pv 4) (pa_cons (pv 16) (pa_nil))))))) (pe_bl) (nomark _)))))))))))))))), ?_⟩
    have h2 := h2o.same (off_le H pu)
    obtain ⟨ta, ha, lta, _⟩ := id h2.A.at_
    obtain ⟨tc, hc, ltc, _⟩ := id h2.C.at_
    have iw := waits_ins h2.W.ok
    have iu := waits_ins h2.U.ok
    have la := List.length_pos_iff.mpr h2.A.ne
    have lc := List.length_pos_iff.mpr h2.C.ne
    have lws : ws.length ≤ 100 := Nat.le_trans (waits_len iw h2.W.ok.asc) (Nat.mul_le_mul (show one.length ≤ 10 by omega) (show one.length ≤ 10 by omega))
    have lus : us.length ≤ 100 := Nat.le_trans (waits_len iu h2.U.ok.asc) (Nat.mul_le_mul (show other.length ≤ 10 by omega) (show other.length ≤ 10 by omega))
    have nt : ∀ {xs : List V} (ps), HO.lst xs ≠ .tbl ps := fun ps z => by cases z
    refine ⟨_, rfl, a, _, rfl, .inl (SqL.of ha), _, rfl, c, _, rfl, .inl (SqL.of hc), one.length, other.length, (by rw [List.length_map, List.length_map, lta, ltc]; rfl), by omega, fun q ys G1 s1 nq hq py nys => ?_⟩
    refine ⟨(by show 0 ≤ sizeLine; omega), fun D hD => ⟨(by show 2 ≤ sizeLine; omega), fun tt htt => ?_⟩⟩
    have x1 := Same.updf (o := .lst []) hD
    have x2 := Same.updf (o := .tup [V.ref q, V.ref D]) htt
    refine ⟨tt, [_, _], rfl, SqT.of upd_same, rfl, _, [_], rfl, _, [], rfl, rfl, ?_⟩
    have nD : H D = none := none_back s1 hD
    have hD2 := x2 _ _ (upd_same (H := G1) (a := D) (o := .lst []))
    have s2 := s1.trans (x1.trans x2)
    have nqD : q ≠ D := ne_of_none hq hD
    have hq2 := (x1.trans x2) _ _ hq
    have py2 : Paired (LsAt (off (upd (upd G1 D (.lst [])) tt (.tup [V.ref q, V.ref D])) D)) (allO one.length other.length) ys := lsAt_mono (same_off (x1.trans x2) hD) py
    obtain ⟨G2, eG⟩ : ∃ X, X = upd (upd G1 D (.lst [])) tt (.tup [V.ref q, V.ref D]) := ⟨_, rfl⟩
    rw [← eG] at hD2 s2 hq2 py2 ⊢
    clear eG x1 x2 htt hD py
    have P2 := hP.same s2
    have T2 := tabs_same s2 hT
    have nDpu : D ≠ pu := fresh_ne hP nD
    have nqpu : q ≠ pu := fresh_ne hP nq
    have h2D : Two K (off G2 D) a b c d one other ws us := h2.same (same_off s2 nD)
    have lPS : (allO one.length other.length).length ≤ 1024 := Nat.le_trans (ords_len _ _ _) (Nat.pow_le_pow_right (n := 2) (by decide) (by omega : one.length + other.length ≤ 10))
    obtain ⟨PS, ePS⟩ : ∃ PS, PS = allO one.length other.length := ⟨_, rfl⟩
    have mPS : ∀ o, o ∈ PS ↔ Ord one.length other.length o := fun o => by rw [ePS]; exact mem_allO
    have lPy := paired_len py2
    rw [← ePS] at py2 lPy lPS
    obtain ⟨f, ef⟩ : ∃ f : List Nat → Nat, f = fun o => least (moved o ws us) := ⟨_, rfl⟩
    refine via_nx ?_
    refine norm (σ' := [some (.ref pu), some (.ref a), some (.ref b), some (.ref c), some (.ref d), some (.ref q), some (.ref D), none, none, none, none, none, none, none, none, none, none, none, none]) rfl ?_
    refine ⟨_, rfl, q, rfl, ⟨_, SqL.of hq2⟩, ?_⟩
    refine for_list (xs := ys) (fun i σ G => ButN D G2 G ∧ Tabs (TbK K) G ∧ G D = some (.lst (numsV ((PS.take i).map f))) ∧ ∃ v7 v8 v9 v10 v11 v12, σ = [some (.ref pu), some (.ref a), some (.ref b), some (.ref c), some (.ref d), some (.ref q), some (.ref D), v7, v8, v9, v10, v11, v12, none, none, none, none, none, none])
      ⟨ButN.of (But.refl _ _), T2, hD2, none, none, none, none, none, none, rfl⟩ (fun i σ G _ hh => SqL.of (hh.1 _ _ nqD hq2 nt)) ?_ ?_
    · rintro i y σ G hy ⟨bG, TG, hDG, v7, v8, v9, v10, v11, v12, rfl⟩
      obtain ⟨o, ei, T, rfl, hT0⟩ := paired_get2 py2 hy
      have ho := (mPS o).mp (List.mem_of_getElem? ei)
      have lo := ho.len
      have oG := butN_off bG
      have h3 := (h2D.ext oG).same (off_le _ _)
      have hTo : G T = some (.lst (numsV o)) := off_le _ _ _ _ (oG _ _ hT0 nt)
      have i1 : i < PS.length := (List.getElem?_eq_some_iff.mp ei).1
      refine ⟨_, rfl, _, rfl, _, rfl, a, c, T, one, other, o, rfl, h3.A.at_, h3.C.at_, h3.A.len, h3.C.len, hTo, ho, fun r fa p G3 s3 nr nf np hr' hTk => ?_⟩
      refine ⟨r, [_, _], rfl, SqL.of hr', rfl, _, [_], rfl, _, [], rfl, rfl, ?_⟩
      obtain ⟨hrun, p0, p1, hp, hp0, hp1⟩ := hTk
      have h4 := h3.same s3
      refine ⟨_, rfl, _, rfl, _, rfl, b, d, p, p0, p1, one.length, other.length, ws, us, o, rfl, h4.W.at_, h4.U.at_, iw, iu, h4.W.len, h4.U.len, ho, hp, hp0, hp1, fun m G4 s4 nm hm => ?_⟩
      have s34 := s3.trans s4
      have h5 := h3.same s34
      have hrun := hrun.same s4
      have hTo := s34 _ _ hTo
      refine via_nx ?_
      refine norm (σ' := [some (.ref pu), some (.ref a), some (.ref b), some (.ref c), some (.ref d), some (.ref q), some (.ref D), some (.ref T), some (.ref fa), some (.ref p), some (.ref m), v11, v12, none, none, none, none, none, none]) rfl ?_
      obtain ⟨xa, qa, _, _⟩ := id h5.A.at_
      obtain ⟨xc, qc, _, _⟩ := id h5.C.at_
      obtain ⟨xb, qb, _, _⟩ := id h5.W.at_
      obtain ⟨xd, qd, _, _⟩ := id h5.U.at_
      refine ⟨_, rfl, a, _, rfl, .inl (SqL.of qa), fun k1 f1 => ?_⟩
      have y1 := Same.updf (o := .lst (xa.map V.ref)) f1
      have u1 := upd_same (H := G4) (a := k1) (o := .lst (xa.map V.ref))
      obtain ⟨J1, eG⟩ : ∃ X, X = upd G4 k1 (.lst (xa.map V.ref)) := ⟨_, rfl⟩
      rw [← eG] at y1 u1 ⊢
      clear eG
      refine ⟨_, rfl, c, _, rfl, .inl (SqL.of (y1 _ _ qc)), fun k2 f2 => ?_⟩
      have y2 := Same.updf (o := .lst (xc.map V.ref)) f2
      have u2 := upd_same (H := J1) (a := k2) (o := .lst (xc.map V.ref))
      obtain ⟨J2, eG⟩ : ∃ X, X = upd J1 k2 (.lst (xc.map V.ref)) := ⟨_, rfl⟩
      rw [← eG] at y2 u2 ⊢
      clear eG
      refine ⟨_, rfl, T, _, rfl, .inl (SqL.of ((y1.trans y2) _ _ hTo)), fun k3 f3 => ?_⟩
      have y3 := Same.updf (o := .lst (numsV o)) f3
      have u3 := upd_same (H := J2) (a := k3) (o := .lst (numsV o))
      obtain ⟨J3, eG⟩ : ∃ X, X = upd J2 k3 (.lst (numsV o)) := ⟨_, rfl⟩
      rw [← eG] at y3 u3 ⊢
      clear eG
      refine ⟨_, rfl, b, _, rfl, .inl (SqL.of (((y1.trans y2).trans y3) _ _ qb)), fun k4 f4 => ?_⟩
      have y4 := Same.updf (o := .lst (xb.map V.ref)) f4
      have u4 := upd_same (H := J3) (a := k4) (o := .lst (xb.map V.ref))
      obtain ⟨J4, eG⟩ : ∃ X, X = upd J3 k4 (.lst (xb.map V.ref)) := ⟨_, rfl⟩
      rw [← eG] at y4 u4 ⊢
      clear eG
      refine ⟨_, rfl, d, _, rfl, .inl (SqL.of ((((y1.trans y2).trans y3).trans y4) _ _ qd)), fun k5 f5 => ?_⟩
      have y5 := Same.updf (o := .lst (xd.map V.ref)) f5
      have u5 := upd_same (H := J4) (a := k5) (o := .lst (xd.map V.ref))
      obtain ⟨J5, eG⟩ : ∃ X, X = upd J4 k5 (.lst (xd.map V.ref)) := ⟨_, rfl⟩
      rw [← eG] at y5 u5 ⊢
      clear eG
      refine ⟨(by show 5 ≤ sizeLine; omega), fun hd0 f6 => ?_⟩
      have y6 := Same.updf (o := .lst [V.ref k1, V.ref k2, V.ref k3, V.ref k4, V.ref k5]) f6
      have u6 := upd_same (H := J5) (a := hd0) (o := .lst [V.ref k1, V.ref k2, V.ref k3, V.ref k4, V.ref k5])
      obtain ⟨J6, eG⟩ : ∃ X, X = upd J5 hd0 (.lst [V.ref k1, V.ref k2, V.ref k3, V.ref k4, V.ref k5]) := ⟨_, rfl⟩
      rw [← eG] at y6 u6 ⊢
      clear eG
      have y0 := (((((y1.trans y2).trans y3).trans y4).trans y5).trans y6)
      have m1 := ((((y2.trans y3).trans y4).trans y5).trans y6) _ _ u1
      have m2 := (((y3.trans y4).trans y5).trans y6) _ _ u2
      have m3 := ((y4.trans y5).trans y6) _ _ u3
      have m4 := (y5.trans y6) _ _ u4
      have m5 := y6 _ _ u5
      have w1 := h5.A.copy qa y0 m1
      have w2 := h5.C.copy qc y0 m2
      have w4 := h5.W.copy qb y0 m4
      have w5 := h5.U.copy qd y0 m5
      have h6 := h5.same y0
      have hrun := hrun.same y0
      have hm := hm.same y0
      have hTo := y0 _ _ hTo
      have s36 := s34.trans y0
      clear y0 y1 y2 y3 y4 y5 y6 u1 u2 u3 u4 u5 m1 m2 m4 m5 f1 f2 f3 f4 f5 f6 qa qb qc qd h5 h4 h3
      refine via_nx ?_
      refine norm (σ' := [some (.ref pu), some (.ref a), some (.ref b), some (.ref c), some (.ref d), some (.ref q), some (.ref D), some (.ref T), some (.ref fa), some (.ref p), some (.ref m), some (.ref hd0), v12, none, none, none, none, none, none]) rfl ?_
      refine ⟨_, rfl, hd0, _, _, _, rfl, rfl, SqL.of u6, atI_nat (j := 0) rfl, _, rfl, hd0, _, _, _, rfl, rfl, SqL.of u6, atI_nat (j := 1) rfl, _, rfl, hd0, _, _, _, rfl, rfl, SqL.of u6, atI_nat (j := 2) rfl, k1, k2, k3, one, other, o, rfl, w1, h6.nA, w2, h6.nC, m3, ho, fun r1 J7 z1 nr1 hr1 => ?_⟩
      have u7 := z1 _ _ u6
      refine ⟨_, rfl, hd0, _, _, _, rfl, rfl, SqL.of u7, atI_nat (j := 0) rfl, _, rfl, hd0, _, _, _, rfl, rfl, SqL.of u7, atI_nat (j := 3) rfl, _, rfl, hd0, _, _, _, rfl, rfl, SqL.of u7, atI_nat (j := 1) rfl, _, rfl, hd0, _, _, _, rfl, rfl, SqL.of u7, atI_nat (j := 4) rfl, _, rfl, hd0, _, _, _, rfl, rfl, SqL.of u7, atI_nat (j := 2) rfl, k1, k4, k2, k5, k3, one, other, ws, us, o, rfl, w1.same z1, h6.nA, w4.same z1, w2.same z1, h6.nC, w5.same z1, z1 _ _ m3, ho, fun r2 J8 z2 nr2 hr2 => ?_⟩
      have z12 := z1.trans z2
      refine ⟨(by show 2 ≤ sizeLine; omega), fun tl0 f7 => ?_⟩
      have z3 := Same.updf (o := .lst [V.ref r1, V.ref r2]) f7
      have u8 := upd_same (H := J8) (a := tl0) (o := .lst [V.ref r1, V.ref r2])
      have z13 := z12.trans z3
      have u9 := z13 _ _ u6
      have w1 := w1.same z13
      have w2 := w2.same z13
      have w4 := w4.same z13
      have w5 := w5.same z13
      have m3 := z13 _ _ m3
      have h7 := h6.same z13
      have hr1 := hr1.same (z2.trans z3)
      have hr2 := hr2.same z3
      have hrun := hrun.same z13
      have hm := hm.same z13
      have hTo := z13 _ _ hTo
      have s39 := s36.trans z13
      obtain ⟨J9, eG⟩ : ∃ X, X = upd J8 tl0 (.lst [V.ref r1, V.ref r2]) := ⟨_, rfl⟩
      rw [← eG] at u8 u9 w1 w2 w4 w5 m3 h7 hr1 hr2 hrun hm hTo s39 ⊢
      clear eG z13 z3 z12 z2 z1 f7 u6 u7 h6
      refine via_nx ?_
      refine norm (σ' := [some (.ref pu), some (.ref a), some (.ref b), some (.ref c), some (.ref d), some (.ref q), some (.ref D), some (.ref T), some (.ref fa), some (.ref p), some (.ref m), some (.ref hd0), some (.ref tl0), none, none, none, none, none, none]) rfl ?_
      refine ⟨_, rfl, _, rfl, (by show 2 ≤ sizeLine; omega), fun e1 g1 => ?_⟩
      have v1 := Same.updf (o := .lst [V.ref tl0, V.ref hd0]) g1
      have c1 := upd_same (H := J9) (a := e1) (o := .lst [V.ref tl0, V.ref hd0])
      obtain ⟨L1, eG⟩ : ∃ X, X = upd J9 e1 (.lst [V.ref tl0, V.ref hd0]) := ⟨_, rfl⟩
      rw [← eG] at v1 c1 ⊢
      clear eG
      refine ⟨_, rfl, _, rfl, (by show 2 ≤ sizeLine; omega), fun e2 g2 => ?_⟩
      have v2 := Same.updf (o := .lst [V.ref fa, V.ref m]) g2
      have c2 := upd_same (H := L1) (a := e2) (o := .lst [V.ref fa, V.ref m])
      obtain ⟨L2', eG⟩ : ∃ X, X = upd L1 e2 (.lst [V.ref fa, V.ref m]) := ⟨_, rfl⟩
      rw [← eG] at v2 c2 ⊢
      clear eG
      refine ⟨_, rfl, _, rfl, _, rfl, _, rfl, _, rfl, (by show 5 ≤ sizeLine; omega), fun e3 g3 => ?_⟩
      have v3 := Same.updf (o := .lst [V.ref a, V.ref c, V.ref T, V.ref b, V.ref d]) g3
      have c3 := upd_same (H := L2') (a := e3) (o := .lst [V.ref a, V.ref c, V.ref T, V.ref b, V.ref d])
      obtain ⟨L3, eG⟩ : ∃ X, X = upd L2' e3 (.lst [V.ref a, V.ref c, V.ref T, V.ref b, V.ref d]) := ⟨_, rfl⟩
      rw [← eG] at v3 c3 ⊢
      clear eG
      refine ⟨(by show 2 ≤ sizeLine; omega), fun e4 g4 => ?_⟩
      have v4 := Same.updf (o := .lst [V.ref e2, V.ref e3]) g4
      have c4 := upd_same (H := L3) (a := e4) (o := .lst [V.ref e2, V.ref e3])
      obtain ⟨L4, eG⟩ : ∃ X, X = upd L3 e4 (.lst [V.ref e2, V.ref e3]) := ⟨_, rfl⟩
      rw [← eG] at v4 c4 ⊢
      clear eG
      have v14 := ((v1.trans v2).trans v3).trans v4
      have lm : (moved o ws us).length ≤ 1000 := by
        rw [show (moved o ws us).length = (mvL o ws us).length from (srt_perm _).length_eq]
        unfold mvL
        rw [List.length_append, List.length_map, List.length_map]
        omega
      have lw : (wvn one other o).length ≤ 1000 := by
        rw [wvn_len ho]
        omega
      have la' := h7.A.len
      have lc' := h7.C.len
      refine ⟨.ref e1, .ref e4, .list [.list [.list ((wvn one other o).map Ev.d), .list ((moved o ws us).map pd)], .list [.list (one.map Ev.d), .list (other.map Ev.d), .list (dN o), .list (ws.map pd), .list (us.map pd)]], rfl,
        TD.lst (((v2.trans v3).trans v4) _ _ c1) rfl (Nat.le_of_ble_eq_true rfl) (td_cons (TD.lst (v14 _ _ u8) rfl (Nat.le_of_ble_eq_true rfl) (td_cons (run_td 5 (hr1.same v14) lw) (td_cons (wts_td 5 (hr2.same v14) lm) td_nil)))
          (td_cons (TD.lst (v14 _ _ u9) rfl (Nat.le_of_ble_eq_true rfl) (td_cons (run_td 5 (w1.same v14).at_ (by omega)) (td_cons (run_td 5 (w2.same v14).at_ (by omega)) (td_cons (nums_td 6 (v14 _ _ m3) (by omega)) (td_cons (wts_td 5 (w4.same v14).at_ w4.len) (td_cons (wts_td 5 (w5.same v14).at_ w5.len) td_nil)))))) td_nil)),
        TD.lst c4 rfl (Nat.le_of_ble_eq_true rfl) (td_cons (TD.lst ((v3.trans v4) _ _ c2) rfl (Nat.le_of_ble_eq_true rfl) (td_cons (run_td 5 (hrun.same v14) lw) (td_cons (wts_td 5 (hm.same v14) lm) td_nil)))
          (td_cons (TD.lst (v4 _ _ c3) rfl (Nat.le_of_ble_eq_true rfl) (td_cons (run_td 5 (h7.same v14).A.at_ (by omega)) (td_cons (run_td 5 (h7.same v14).C.at_ (by omega)) (td_cons (nums_td 6 (v14 _ _ hTo) (by omega)) (td_cons (wts_td 5 (h7.same v14).W.at_ h7.W.len) (td_cons (wts_td 5 (h7.same v14).U.at_ h7.U.len) td_nil)))))) td_nil)),
        fun J10 z4 => ⟨_, rfl, iteF ?_⟩⟩
      have sAll := (s39.trans v14).trans z4
      have hmz := hm.same (v14.trans z4)
      have hDz := sAll _ _ hDG
      clear c1 c2 c3 c4 g1 g2 g3 g4 v1 v2 v3 v4 v14 u8 u9 w1 w2 w4 w5 m3 hr1 hr2 hrun hm hTo s39
      refine via_nx ?_
      refine ⟨_, rfl, Or.inl ⟨rfl, _, SqL.of hDz⟩, _, rfl, m, moved o ws us, rfl, hmz, (fun w h => (moved_ins ho iw iu w h).1), by omega, tabs_same sAll TG, fun J11 e11 T11 => ?_⟩
      have hD11 := e11 _ _ hDz nt
      refine ⟨D, _, _, rfl, rfl, hD11, by rw [nums_len, List.length_map, List.length_take]; omega, ?_⟩
      have bb := (bG.trans (ButN.of (But.of sAll))).trans (ButN.ofN e11)
      refine ⟨bb.trans (ButN.of But.upd'), tabs_but But.upd' ⟨_, hD11⟩ T11, ?_, _, _, _, _, _, _, rfl⟩
      rw [upd_same, List.take_succ, ei, List.map_append, ef]
      unfold numsV
      rw [List.map_append]
      rfl
    · rintro σ G ⟨bG, TG, hDG, v7, v8, v9, v10, v11, v12, rfl⟩
      refine via_nx ?_
      have lPy' : ys.length = PS.length := lPy.symm
      rw [lPy', List.take_length] at hDG
      have eHG : ExtN H G := fun x o e tt => bG x o (ne_of_none e nD) (s2 _ _ e) tt
      have hO : OrdsAt (off G pu) q PS := by
        have o1 : OrdsAt (off (off G2 D) pu) q PS := ⟨ys, (off_at nqpu).trans ((off_at nqD).trans hq2), paired_monoM py2 fun o y m h => by
          obtain ⟨T, e, hT⟩ := h
          obtain ⟨T', e', nT⟩ := nys y m
          rw [e] at e'
          obtain rfl := V.ref.inj e'
          exact ⟨T, e, (off_at (fresh_ne hP nT)).trans hT⟩⟩
        exact o1.ext (((extN_off (butN_off bG))).trans (ExtN.of (off_same pu (off_le G D))))
      have h2p : Two K (off G pu) a b c d one other ws us := h2o.ext (extN_off eHG)
      have PG := purse_ext eHG hP
      have hDp : off G pu D = some (.lst (numsV (PS.map f))) := (off_at nDpu).trans hDG
      clear bG hDG h2D lPy' lPy py2 hq2 hD2 nys nq s2 P2 T2 s1
      have h3 := h2p.same (off_le _ _)
      refine ⟨_, rfl, b, ws, rfl, h3.W.at_, (fun w h => (iw w h).1), by omega, TG, fun G3 e3 T3 => ?_⟩
      have h4 := h3.ext e3
      refine ⟨_, rfl, d, us, rfl, h4.U.at_, (fun w h => (iu w h).1), by omega, T3, fun G4 e4 T4 => ⟨(by show 2 ≤ sizeLine; omega), fun ow how => ?_⟩⟩
      have x1 := Same.updf (o := .lst [V.int (least ws : Int), V.int (least us : Int)]) how
      have how5 := upd_same (H := G4) (a := ow) (o := .lst [V.int (least ws : Int), V.int (least us : Int)])
      have T5 := tabs_same x1 T4
      have e5 := (e3.trans e4).trans (ExtN.of x1)
      obtain ⟨G5, eG⟩ : ∃ X, X = upd G4 ow (.lst [V.int (least ws : Int), V.int (least us : Int)]) := ⟨_, rfl⟩
      rw [← eG] at how5 T5 e5 ⊢
      clear eG x1 how T4 T3 h4 h3 e3 e4
      have hO := hO.ext (extN_off e5)
      have h2p := h2p.ext (extN_off e5)
      have hDp := extN_off (p := pu) e5 _ _ hDp nt
      have PG := purse_ext e5 PG
      have eH5 := eHG.trans e5
      clear e5 eHG TG
      refine via_nx ?_
      refine norm (σ' := [some (.ref pu), some (.ref a), some (.ref b), some (.ref c), some (.ref d), some (.ref q), some (.ref D), v7, v8, v9, v10, v11, v12, some (.ref ow), none, none, none, none, none]) rfl ?_
      have hz : G5 D = some (.lst (numsV (PS.map f))) := off_le _ _ _ _ hDp
      have bm : bestO one.length other.length ws us ∈ PS := (mPS _).mpr (best_ord iw iu)
      have pPS : 0 < PS.length := List.length_pos_of_mem bm
      have pl : 0 < ((PS.map f).map fun x : Nat => (x : Int)).length := by
        rw [List.length_map, List.length_map]
        exact pPS
      have key : ∀ m : Int, m ∈ (PS.map f).map (fun x : Nat => (x : Int)) → ∃ x : Nat, m = (x : Int) ∧ x ∈ (allO one.length other.length).map fun o => least (moved o ws us) := fun m hm => by
        obtain ⟨x, hx, rfl⟩ := List.mem_map.mp hm
        rw [ePS, ef] at hx
        exact ⟨x, rfl, hx⟩
      have kmin : ∀ m : Int, m ∈ (PS.map f).map (fun x : Nat => (x : Int)) → (∀ y, y ∈ (PS.map f).map (fun x : Nat => (x : Int)) → m ≤ y) → m = ((max (least ws) (least us) : Nat) : Int) := fun m hm hle => by
        obtain ⟨x, rfl, hx⟩ := key m hm
        rw [sizes_min iw iu hx fun y hy => ?_]
        have := hle (y : Int) (List.mem_map.mpr ⟨y, by rw [ePS, ef]; exact hy, rfl⟩)
        omega
      have kmax : ∀ m : Int, m ∈ (PS.map f).map (fun x : Nat => (x : Int)) → (∀ y, y ∈ (PS.map f).map (fun x : Nat => (x : Int)) → y ≤ m) → m = ((least ws + least us : Nat) : Int) := fun m hm hle => by
        obtain ⟨x, rfl, hx⟩ := key m hm
        rw [sizes_max iw iu hx fun y hy => ?_]
        have := hle (y : Int) (List.mem_map.mpr ⟨y, by rw [ePS, ef]; exact hy, rfl⟩)
        omega
      have own_max : ∀ m : Int, m ∈ [(least ws : Int), (least us : Int)] → (∀ y, y ∈ [(least ws : Int), (least us : Int)] → y ≤ m) → m = ((max (least ws) (least us) : Nat) : Int) := fun m hm hle => by
        have h1 := hle _ (List.mem_cons_self ..)
        have h2 := hle _ (List.mem_cons_of_mem _ (List.mem_singleton.mpr rfl))
        rcases List.mem_cons.mp hm with rfl | hm
        · omega
        · have := List.mem_singleton.mp hm
          omega
      refine ⟨_, rfl, D, _, rfl, nums_ints hz, pl, fun m hm hle => ⟨_, rfl, ow, [(least ws : Int), (least us : Int)], rfl, SqL.of how5, (by show 0 < 2; decide), fun m2 hm2 hle2 => ⟨rfl, _, rfl, ?_⟩⟩⟩
      rw [kmin m hm hle, own_max m2 hm2 hle2]
      refine iteSame ?_
      refine ⟨_, rfl, D, _, rfl, nums_ints hz, pl, fun m3 hm3 hle3 => ⟨_, rfl, ow, [(least ws : Int), (least us : Int)], rfl, SqL.of how5, rfl, _, rfl, ?_⟩⟩
      rw [kmax m3 hm3 hle3, show [(least ws : Int), (least us : Int)].sum = ((least ws + least us : Nat) : Int) by simp]
      refine iteSame ?_
      have h5 := h2p.same (off_le _ _)
      refine ⟨_, rfl, _, rfl, a, b, one, ws, rfl, h5.A, h5.W, T5, fun q6 G6 e6 T6 n6 hq6 => ?_⟩
      rw [broken_bare h5.nA] at hq6
      refine ⟨q6, _, rfl, .inl (SqL.of hq6), _, rfl, ow, _, _, _, rfl, rfl, SqL.of (e6 _ _ how5 nt), atI_nat (j := 0) rfl, rfl, _, rfl, ?_⟩
      rw [nums_len, least_ends]
      refine iteSame ?_
      have hO := hO.ext (extN_off e6)
      have h2p := h2p.ext (extN_off e6)
      have hDp := extN_off (p := pu) e6 _ _ hDp nt
      have PG := purse_ext e6 PG
      have eH6 := eH5.trans e6
      clear e6 eH5 T5 hz h5 hq6 n6
      refine via_nx ?_
      have h6 := h2p.same (off_le _ _)
      refine ⟨_, rfl, _, rfl, _, rfl, _, rfl, a, b, c, d, one, other, ws, us, rfl, h6, T6, fun to G7 e7 T7 n7 hto => ?_⟩
      have hO6 := hO
      have h26 := h2p
      have n76 : NewN (off G6 pu) to := fun o e => n7 o (off_le _ _ _ _ e)
      have e67 := e7
      have hO := hO.ext (extN_off e7)
      have h2p := h2p.ext (extN_off e7)
      have hDp := extN_off (p := pu) e7 _ _ hDp nt
      have ntp : to ≠ pu := by
        obtain ⟨A0, B0, c0, i0, eP, _⟩ := PG.at_
        exact (n7.ne eP).symm
      have PG := purse_ext e7 PG
      have eH7 := eH6.trans e7
      have nto : NewN H to := n7.back eH6
      clear e7 eH6 T6 h6 n7
      refine via_nx ?_
      refine norm (σ' := [some (.ref pu), some (.ref a), some (.ref b), some (.ref c), some (.ref d), some (.ref q), some (.ref D), v7, v8, v9, v10, v11, some (.ref to), some (.ref ow), none, none, none, none, none]) rfl ?_
      have hO7 : OrdsAt G7 q PS := hO.ext (ExtN.of (off_le _ _))
      have htoP : off G7 pu to = some (.lst (numsV (bestO one.length other.length ws us))) := (off_at ntp).trans hto
      obtain ⟨bo, ebo⟩ : ∃ bo, bo = bestO one.length other.length ws us := ⟨_, rfl⟩
      have obo : Ord one.length other.length bo := by rw [ebo]; exact best_ord iw iu
      have fbo : f bo = max (least ws) (least us) := by rw [ef, ebo]; exact least_best iw iu
      rw [← ebo] at htoP hto bm
      have bob : bestO one.length other.length ws us = bo := ebo.symm
      clear ebo
      refine ⟨_, rfl, _, rfl, .list (dN bo), dO PS, dp_nums hto, hO7.dp, shaped_nums _, shaped_ords _, _, rfl, ?_⟩
      rw [any_ords, decide_eq_true bm]
      refine iteF ?_
      obtain ⟨j, ej, nj⟩ := first_of bm
      have ejd : (dO PS)[j]? = some (.list (dN bo)) := by rw [List.getElem?_map, ej]; rfl
      have eqd : PyData.eqv (.list (dN bo)) (.list (dN bo)) = true := by rw [eqv_nums]; exact decide_eq_true rfl
      have njd : ∀ (m : Nat) (z' : PyData), m < j → (dO PS)[m]? = some z' → PyData.eqv z' (.list (dN bo)) = false := fun m z' hm hz' => by
        rw [List.getElem?_map] at hz'
        obtain ⟨o, eo, rfl⟩ := Option.map_eq_some_iff.mp hz'
        rw [eqv_nums]
        exact decide_eq_false (nj m o hm eo)
      have jlt : j < PS.length := (List.getElem?_eq_some_iff.mp ej).1
      obtain ⟨yq, hyq, _⟩ := id hO7
      have hz7 : G7 D = some (.lst (numsV (PS.map f))) := off_le _ _ _ _ hDp
      refine ⟨_, rfl, _, rfl, Or.inl ⟨rfl, _, SqL.of hyq⟩, _, rfl, q, .ref to, .list (dN bo), dO PS, j, .list (dN bo), rfl, rfl, hO7.dp, dp_nums hto, shaped_ords _, shaped_nums _, ejd, eqd, njd, D, _, _, _, rfl, rfl, SqL.of hz7, atI_nat (nums_at (by rw [List.getElem?_map, ej]; rfl)), ?_⟩
      refine ⟨_, rfl, D, _, rfl, nums_ints hz7, pl, fun m hm hle => ⟨rfl, _, rfl, ?_⟩⟩
      rw [kmin m hm hle, fbo]
      refine iteSame ?_
      refine via_nx ?_
      refine ⟨_, rfl, Or.inl ⟨rfl, _, SqL.of hyq⟩, _, rfl, q, .ref to, .list (dN bo), dO PS, j, .list (dN bo), rfl, rfl, hO7.dp, dp_nums hto, shaped_ords _, shaped_nums _, ejd, eqd, njd, (by show 1 ≤ sizeLine; omega), fun L0 nL0 => ?_⟩
      have x1 := Same.updf (o := .lst [V.int (j : Int)]) nL0
      have hL0 := upd_same (H := G7) (a := L0) (o := .lst [V.int (j : Int)])
      have nLp : L0 ≠ pu := fresh_ne PG nL0
      have T8 := tabs_same x1 T7
      have hO8 := hO.ext (ExtN.of (off_same pu x1))
      have h2p8 := h2p.same (off_same pu x1)
      have hDp8 := off_same pu x1 _ _ hDp
      have hto8 := off_same pu x1 _ _ htoP
      have P8 := PG.same x1
      have eH8 := eH7.trans (ExtN.of x1)
      have e68 := e67.trans (ExtN.of x1)
      have hyq8 := x1 _ _ hyq
      obtain ⟨G8, eG⟩ : ∃ X, X = upd G7 L0 (.lst [V.int (j : Int)]) := ⟨_, rfl⟩
      rw [← eG] at hL0 T8 hO8 h2p8 hDp8 hto8 P8 eH8 hyq8 e68 ⊢
      clear eG e67 x1 nL0 hz7 hyq hO7 hO h2p hDp htoP hto PG eH7 T7
      refine ⟨(6 : Int), rfl, by decide, by decide, fun D8 hD8 => ?_⟩
      rw [show (6 : Int).toNat = 6 from rfl]
      have nD8 : D8 ≠ pu := fresh_ne P8 hD8
      have nqp : q ≠ pu := nqpu
      have lyq : yq.length = PS.length := by
        obtain ⟨ys', e', p'⟩ := hO8
        have e' := off_le _ _ _ _ e'
        rw [hyq8] at e'
        cases e'
        exact (paired_len p').symm
      have mq : mixes ((PS.length : Nat) : Int) = 1 := mixes_one (by omega) (by omega)
      refine lc_but (n := 6) (pu := pu) (N := N) (cost := 1) (walk_range (lo := 0) (n := 6)) (fun _ y _ => ∃ r : Nat, y = .int (r : Int) ∧ r < PS.length) (fun _ y G G' s h => h) (by decide) P8 hD8 (fun _ _ => trivial) ?_ ?_
      · rintro i x Ga Gb Qy Qn hi ba Pa hacc ⟨rfl, rfl⟩ ky_
        refine ⟨rfl, _, rfl, _, rfl, q, _, rfl, .inl (SqL.of (ba _ _ nqp hyq8)), pu, PS.length, _, by rw [lyq]; rfl, by omega, log_small (by omega) (by omega), Pa, by rw [mq]; omega, by rw [mq]; omega, fun r Gc r0 r1 bc Pc => ?_⟩
        rw [mq] at Pc
        obtain ⟨r, rfl⟩ : ∃ z : Nat, r = (z : Int) := ⟨r.toNat, by omega⟩
        exact ky_ _ _ bc (Pc.mono (by omega)) ⟨r, rfl, by omega⟩
      · intro G9 zs b9 P9 hzs pz
        have mz : ∀ z ∈ zs, ∃ r : Nat, z = .int (r : Int) ∧ r < PS.length := fun z hz => by
          clear hzs
          have g : ∀ {is : List Nat} {zs : List V}, Paired (fun _ y => ∃ r : Nat, y = .int (r : Int) ∧ r < PS.length) is zs → ∀ z ∈ zs, ∃ r : Nat, z = .int (r : Int) ∧ r < PS.length := fun h => by
            induction h with
            | nil => exact fun z hz => nomatch hz
            | cons r t ih =>
              intro z hz
              rcases List.mem_cons.mp hz with rfl | hz
              · exact r
              · exact ih z hz
          exact g pz z hz
        have lz := paired_len pz
        rw [List.length_range] at lz
        refine ⟨L0, D8, _, zs, rfl, rfl, b9 _ _ nLp hL0, hzs, by rw [List.length_singleton]; omega, fun E hE => ?_⟩
        have x1 := Same.updf (o := .lst ([V.int (j : Int)] ++ zs)) hE
        have hEE := upd_same (H := G9) (a := E) (o := .lst ([V.int (j : Int)] ++ zs))
        have nEp : E ≠ pu := fresh_ne P9 hE
        have T9 := tabs_same x1 (tabs_but b9 (by obtain ⟨A0, B0, c0, i0, eP, _⟩ := P8.at_; exact ⟨_, eP⟩) T8)
        have P9 := P9.same x1
        have b9 := b9.trans (But.of x1)
        have hO9 := hO8.ext (ExtN.of (but_off b9))
        have h2p9 := h2p8.same (but_off b9)
        have hDp9 := but_off b9 _ _ hDp8
        have hto9 := but_off b9 _ _ hto8
        have b69 : ButN pu G6 (upd G9 E (.lst ([V.int (j : Int)] ++ zs))) := (ButN.ofN e68).trans (ButN.of b9)
        have bH9 : ButN pu H (upd G9 E (.lst ([V.int (j : Int)] ++ zs))) := (ButN.ofN eH8).trans (ButN.of b9)
        obtain ⟨Ga, eG⟩ : ∃ X, X = upd G9 E (.lst ([V.int (j : Int)] ++ zs)) := ⟨_, rfl⟩
        rw [← eG] at hEE T9 P9 hO9 h2p9 hDp9 hto9 bH9 b69 ⊢
        clear eG e68 x1 hE hzs pz b9 hO8 h2p8 hDp8 hto8 P8 eH8 hyq8 hL0 T8 hD8 nD8
        have mx : ∀ x ∈ [V.int (j : Int)] ++ zs, ∃ r : Nat, x = .int (r : Int) ∧ r < PS.length := fun x hx => by
          rcases List.mem_append.mp hx with hx | hx
          · exact ⟨j, List.mem_singleton.mp hx, jlt⟩
          · exact mz x hx
        refine ⟨E, rfl, ⟨_, SqL.of hEE⟩, ?_⟩
        refine for_list (xs := [V.int (j : Int)] ++ zs) (fun i σ G => ExtN Ga G ∧ Tabs (TbK K) G ∧ ∃ v14, σ = [some (.ref pu), some (.ref a), some (.ref b), some (.ref c), some (.ref d), some (.ref q), some (.ref D), v7, v8, v9, v10, v11, some (.ref to), some (.ref ow), v14, none, none, none, none])
          ⟨ExtN.refl _, T9, none, rfl⟩ (fun i σ G _ hh => SqL.of (hh.1 _ _ hEE nt)) ?_ ?_
        · rintro i y σ G hy ⟨eG, TG, v14, rfl⟩
          obtain ⟨r, rfl, hr0⟩ := mx y (List.mem_of_getElem? hy)
          obtain ⟨o, eo⟩ : ∃ o, PS[r]? = some o := ⟨_, List.getElem?_eq_getElem hr0⟩
          have ho := (mPS o).mp (List.mem_of_getElem? eo)
          have lo := ho.len
          have hOG := (hO9.ext (extN_off eG)).ext (ExtN.of (off_le _ _))
          obtain ⟨yg, T, g1, g2, g3⟩ := hOG.nth eo
          have h2G := (h2p9.ext (extN_off eG)).same (off_le _ _)
          have hDG := off_le _ _ _ _ (extN_off (p := pu) eG _ _ hDp9 nt)
          have eb : bestB one.length other.length ws us (.list (dN o)) = decide (f o = max (least ws) (least us)) := by
            unfold bestB
            rw [ordB_of ho, Bool.true_and, show toO (.list (dN o)) = o from dN_toN o, ef]
          refine ⟨_, rfl, _, rfl, _, rfl, _, rfl, _, rfl, _, rfl, q, yg, _, _, rfl, rfl, SqL.of g1, atI_nat g2, a, b, c, d, .ref T, one, other, ws, us, .list (dN o), 1, rfl, h2G, TG, nums_td 0 g3 (by omega), fun Gb eb2 Tb => ?_⟩
          rw [eb]
          have hDb := eb2 _ _ hDG nt
          refine ⟨_, rfl, _, rfl, D, _, _, _, rfl, rfl, SqL.of hDb, atI_nat (nums_at (by rw [List.getElem?_map, eo]; rfl)), _, rfl, D, _, rfl, nums_ints hDb, pl, fun m hm hle => ⟨rfl, ?_⟩⟩
          rw [kmin m hm hle]
          have ed : decide (V.int ((f o : Nat) : Int) = V.int ((max (least ws) (least us) : Nat) : Int)) = decide (f o = max (least ws) (least us)) := by
            rw [decide_eq_decide]
            exact ⟨fun z => by have := V.int.inj z; omega, fun z => by rw [z]⟩
          rw [ed]
          exact ⟨_, _, .bool (decide (f o = max (least ws) (least us))), rfl, TD.flat (.bl _), TD.flat (.bl _), fun Gc sc => ⟨_, rfl, iteF ⟨(eG.trans eb2).trans (ExtN.of sc), tabs_same sc Tb, _, rfl⟩⟩⟩
        · rintro σ G ⟨eG, TG, v14, rfl⟩
          refine via_nx ?_
          refine norm (σ' := [some (.ref pu), some (.ref a), some (.ref b), some (.ref c), some (.ref d), some (.ref q), some (.ref D), v7, v8, v9, v10, v11, some (.ref to), some (.ref ow), v14, none, none, none, none]) rfl ?_
          have ht0 : G to = some (.lst (numsV bo)) := off_le _ _ _ _ (extN_off (p := pu) eG _ _ hto9 nt)
          have lbo := obo.len
          obtain ⟨bp, bx, ebx⟩ : ∃ bp bx, bo = bp ++ [bx] := by
            rcases List.eq_nil_or_concat bo with e | ⟨p, x, e⟩
            · rw [e] at lbo
              simp at lbo
              omega
            · exact ⟨p, x, by rw [e, List.concat_eq_append]⟩
          have hbx : bx = 0 ∨ bx = 1 := obo.1 bx (by rw [ebx]; simp)
          have atl : atI (numsV bo) (-1) = some (.int (bx : Int)) := by
            rw [ebx]
            unfold numsV
            rw [List.map_append]
            exact at_last _ _
          obtain ⟨G0, eG0⟩ : ∃ X, X = G := ⟨_, rfl⟩
          rw [← eG0] at ht0 ⊢
          refine fun p1 f1 => ?_
          have i1 := Same.updf (o := .dK []) f1
          have d1 := upd_same (H := G0) (a := p1) (o := .dK [])
          obtain ⟨B1, eG⟩ : ∃ X, X = upd G0 p1 (.dK []) := ⟨_, rfl⟩
          rw [← eG] at i1 d1 ⊢
          clear eG
          refine ⟨(by show 0 ≤ sizeLine; omega), fun p2 f2 => ?_⟩
          have i2 := Same.updf (o := .tup []) f2
          have d2 := upd_same (H := B1) (a := p2) (o := .tup [])
          obtain ⟨B2, eG⟩ : ∃ X, X = upd B1 p2 (.tup []) := ⟨_, rfl⟩
          rw [← eG] at i2 d2 ⊢
          clear eG
          refine ⟨(by show 0 ≤ sizeLine; omega), fun p3 f3 => ?_⟩
          have i3 := Same.updf (o := .lst []) f3
          have d3 := upd_same (H := B2) (a := p3) (o := .lst [])
          obtain ⟨B3, eG⟩ : ∃ X, X = upd B2 p3 (.lst []) := ⟨_, rfl⟩
          rw [← eG] at i3 d3 ⊢
          clear eG
          refine ⟨_, rfl, to, numsV bo, rfl, .inl ⟨SqL.of (((i1.trans i2).trans i3) _ _ ht0), fun p4 f4 => ?_⟩⟩
          have i4 := Same.updf (o := .tup (numsV bo)) f4
          have d4 := upd_same (H := B3) (a := p4) (o := .tup (numsV bo))
          obtain ⟨B4, eG⟩ : ∃ X, X = upd B3 p4 (.tup (numsV bo)) := ⟨_, rfl⟩
          rw [← eG] at i4 d4 ⊢
          clear eG
          refine ⟨_, rfl, (by show 1 ≤ sizeLine; omega), fun p5 f5 => ?_⟩
          have i5 := Same.updf (o := .lst [V.int 0]) f5
          have d5 := upd_same (H := B4) (a := p5) (o := .lst [V.int 0])
          obtain ⟨B5, eG⟩ : ∃ X, X = upd B4 p5 (.lst [V.int 0]) := ⟨_, rfl⟩
          rw [← eG] at i5 d5 ⊢
          clear eG
          refine ⟨to, p5, _, _, rfl, rfl, (((((i1.trans i2).trans i3).trans i4).trans i5) _ _ ht0), d5, (by rw [nums_len, List.length_singleton]; omega), fun p6 f6 => ?_⟩
          have i6 := Same.updf (o := .lst (numsV bo ++ [V.int 0])) f6
          have d6 := upd_same (H := B5) (a := p6) (o := .lst (numsV bo ++ [V.int 0]))
          obtain ⟨B6, eG⟩ : ∃ X, X = upd B5 p6 (.lst (numsV bo ++ [V.int 0])) := ⟨_, rfl⟩
          rw [← eG] at i6 d6 ⊢
          clear eG
          refine ⟨_, rfl, _, rfl, to, _, rfl, SqL.of ((((((i1.trans i2).trans i3).trans i4).trans i5).trans i6) _ _ ht0), fun p7 f7 => ?_⟩
          have i7 := Same.updf (o := .lst (cutV (numsV bo) (some 1) none)) f7
          have d7 := upd_same (H := B6) (a := p7) (o := .lst (cutV (numsV bo) (some 1) none))
          obtain ⟨B7, eG⟩ : ∃ X, X = upd B6 p7 (.lst (cutV (numsV bo) (some 1) none)) := ⟨_, rfl⟩
          rw [← eG] at i7 d7 ⊢
          clear eG
          refine ⟨(by show 1 ≤ sizeLine; omega), fun p8 f8 => ?_⟩
          have i8 := Same.updf (o := .lst [V.non]) f8
          have d8 := upd_same (H := B7) (a := p8) (o := .lst [V.non])
          obtain ⟨B8, eG⟩ : ∃ X, X = upd B7 p8 (.lst [V.non]) := ⟨_, rfl⟩
          rw [← eG] at i8 d8 ⊢
          clear eG
          refine ⟨_, rfl, to, _, rfl, .inl (SqL.of ((((((((i1.trans i2).trans i3).trans i4).trans i5).trans i6).trans i7).trans i8) _ _ ht0)), p8, _, _, rfl, rfl, d8, by rw [nums_len]; omega, by rw [nums_len]; omega, by rw [nums_len, List.length_singleton]; omega, fun p9 f9 => ?_⟩
          have i9 := Same.updf (o := .lst (List.replicate (((numsV bo).length : Int)).toNat [V.non]).flatten) f9
          have d9 := upd_same (H := B8) (a := p9) (o := .lst (List.replicate (((numsV bo).length : Int)).toNat [V.non]).flatten)
          obtain ⟨B9, eG⟩ : ∃ X, X = upd B8 p9 (.lst (List.replicate (((numsV bo).length : Int)).toNat [V.non]).flatten) := ⟨_, rfl⟩
          rw [← eG] at i9 d9 ⊢
          clear eG
          refine ⟨_, rfl, to, rfl, ⟨_, SqL.of (((((((((i1.trans i2).trans i3).trans i4).trans i5).trans i6).trans i7).trans i8).trans i9) _ _ ht0)⟩, fun p10 f10 => ?_⟩
          have htb : B9 to = some (.lst (numsV bo)) := ((((((((i1.trans i2).trans i3).trans i4).trans i5).trans i6).trans i7).trans i8).trans i9) _ _ ht0
          refine lc_sel (n := bo.length) (by have := walk_list (K := K) (a := to) (xs := numsV bo); rw [nums_len] at this; exact this) (fun i => some (.bl (decide (V.int ((bo.getD i 0 : Nat) : Int) = V.int 1)))) (by omega) f10 (fun H2 s => SqL.of (s _ _ htb)) ?_ ?_
          · rintro i v H2 H3 Qy Qn hi sH ⟨rfl, hv⟩ ky_ kn
            obtain ⟨x, ex, rfl⟩ := nums_get hv
            have eg : bo.getD i 0 = x := by rw [List.getD_eq_getElem?_getD, ex]; rfl
            rw [eg] at ky_
            exact ⟨rfl, _, rfl, rfl, ky_ _ _ (Same.refl _) rfl⟩
          intro B10 i10 hRb
          have d10 := all_bl2 hRb
          refine ⟨(by show 1 ≤ sizeLine; omega), fun p11 f11 => ?_⟩
          have i11 := Same.updf (o := .lst [V.int 2]) f11
          have d11 := upd_same (H := B10) (a := p11) (o := .lst [V.int 2])
          obtain ⟨B11, eG⟩ : ∃ X, X = upd B10 p11 (.lst [V.int 2]) := ⟨_, rfl⟩
          rw [← eG] at i11 d11 ⊢
          clear eG
          refine ⟨_, rfl, to, _, rfl, .inl (SqL.of (((((((((((i1.trans i2).trans i3).trans i4).trans i5).trans i6).trans i7).trans i8).trans i9).trans i10).trans i11) _ _ ht0)), p11, _, _, rfl, rfl, d11, by rw [nums_len]; omega, by rw [nums_len]; omega, by rw [nums_len, List.length_singleton]; omega, fun p12 f12 => ?_⟩
          have i12 := Same.updf (o := .lst (List.replicate (((numsV bo).length : Int)).toNat [V.int 2]).flatten) f12
          have d12 := upd_same (H := B11) (a := p12) (o := .lst (List.replicate (((numsV bo).length : Int)).toNat [V.int 2]).flatten)
          obtain ⟨B12, eG⟩ : ∃ X, X = upd B11 p12 (.lst (List.replicate (((numsV bo).length : Int)).toNat [V.int 2]).flatten) := ⟨_, rfl⟩
          rw [← eG] at i12 d12 ⊢
          clear eG
          refine ⟨_, rfl, _, rfl, _, rfl, to, _, rfl, SqL.of ((((((((((((i1.trans i2).trans i3).trans i4).trans i5).trans i6).trans i7).trans i8).trans i9).trans i10).trans i11).trans i12) _ _ ht0), fun p13 f13 => ?_⟩
          have i13 := Same.updf (o := .lst (cutV (numsV bo) none (some (-1)))) f13
          have d13 := upd_same (H := B12) (a := p13) (o := .lst (cutV (numsV bo) none (some (-1))))
          obtain ⟨B13, eG⟩ : ∃ X, X = upd B12 p13 (.lst (cutV (numsV bo) none (some (-1)))) := ⟨_, rfl⟩
          rw [← eG] at i13 d13 ⊢
          clear eG
          refine ⟨_, rfl, _, rfl, to, _, _, _, rfl, rfl, SqL.of (((((((((((((i1.trans i2).trans i3).trans i4).trans i5).trans i6).trans i7).trans i8).trans i9).trans i10).trans i11).trans i12).trans i13) _ _ ht0), atl, _, _, rfl, rfl, (by show 1 ≤ sizeLine; omega), fun p14 f14 => ?_⟩
          have i14 := Same.updf (o := .lst [V.int (1 - (bx : Int))]) f14
          have d14 := upd_same (H := B13) (a := p14) (o := .lst [V.int (1 - (bx : Int))])
          obtain ⟨B14, eG⟩ : ∃ X, X = upd B13 p14 (.lst [V.int (1 - (bx : Int))]) := ⟨_, rfl⟩
          rw [← eG] at i14 d14 ⊢
          clear eG
          refine ⟨p13, p14, _, _, rfl, rfl, i14 _ _ d13, d14, (by rw [cut_last, List.length_dropLast, nums_len, List.length_singleton]; omega), fun p15 f15 => ?_⟩
          have i15 := Same.updf (o := .lst (cutV (numsV bo) none (some (-1)) ++ [V.int (1 - (bx : Int))])) f15
          have d15 := upd_same (H := B14) (a := p15) (o := .lst (cutV (numsV bo) none (some (-1)) ++ [V.int (1 - (bx : Int))]))
          obtain ⟨B15, eG⟩ : ∃ X, X = upd B14 p15 (.lst (cutV (numsV bo) none (some (-1)) ++ [V.int (1 - (bx : Int))])) := ⟨_, rfl⟩
          rw [← eG] at i15 d15 ⊢
          clear eG
          refine ⟨_, rfl, (by show 1 ≤ sizeLine; omega), fun p16 f16 => ?_⟩
          have i16 := Same.updf (o := .lst [V.ref to]) f16
          have d16 := upd_same (H := B15) (a := p16) (o := .lst [V.ref to])
          obtain ⟨B16, eG⟩ : ∃ X, X = upd B15 p16 (.lst [V.ref to]) := ⟨_, rfl⟩
          rw [← eG] at i16 d16 ⊢
          clear eG
          refine ⟨(by show 14 ≤ sizeLine; omega), fun p17 f17 => ?_⟩
          have i17 := Same.updf (o := .lst [V.non, V.int 5, V.str "", V.ref p1, V.ref p2, V.ref p3, V.ref p4, V.ref p6, V.ref p7, V.ref p9, V.ref p10, V.ref p12, V.ref p15, V.ref p16]) f17
          have d17 := upd_same (H := B16) (a := p17) (o := .lst [V.non, V.int 5, V.str "", V.ref p1, V.ref p2, V.ref p3, V.ref p4, V.ref p6, V.ref p7, V.ref p9, V.ref p10, V.ref p12, V.ref p15, V.ref p16])
          obtain ⟨B17, eG⟩ : ∃ X, X = upd B16 p17 (.lst [V.non, V.int 5, V.str "", V.ref p1, V.ref p2, V.ref p3, V.ref p4, V.ref p6, V.ref p7, V.ref p9, V.ref p10, V.ref p12, V.ref p15, V.ref p16]) := ⟨_, rfl⟩
          rw [← eG] at i17 d17 ⊢
          clear eG
          have ia : Same G0 B17 := ((((((((((((((((i1.trans i2).trans i3).trans i4).trans i5).trans i6).trans i7).trans i8).trans i9).trans i10).trans i11).trans i12).trans i13).trans i14).trans i15).trans i16).trans i17)
          have htz := ia _ _ ht0
          have a1 := ((((((((((((((((i2.trans i3).trans i4).trans i5).trans i6).trans i7).trans i8).trans i9).trans i10).trans i11).trans i12).trans i13).trans i14).trans i15).trans i16).trans i17) _ _ d1)
          have a2 := (((((((((((((((i3.trans i4).trans i5).trans i6).trans i7).trans i8).trans i9).trans i10).trans i11).trans i12).trans i13).trans i14).trans i15).trans i16).trans i17) _ _ d2)
          have a3 := ((((((((((((((i4.trans i5).trans i6).trans i7).trans i8).trans i9).trans i10).trans i11).trans i12).trans i13).trans i14).trans i15).trans i16).trans i17) _ _ d3)
          have a4 := (((((((((((((i5.trans i6).trans i7).trans i8).trans i9).trans i10).trans i11).trans i12).trans i13).trans i14).trans i15).trans i16).trans i17) _ _ d4)
          have a6 := (((((((((((i7.trans i8).trans i9).trans i10).trans i11).trans i12).trans i13).trans i14).trans i15).trans i16).trans i17) _ _ d6)
          have a7 := ((((((((((i8.trans i9).trans i10).trans i11).trans i12).trans i13).trans i14).trans i15).trans i16).trans i17) _ _ d7)
          have a9 := ((((((((i10.trans i11).trans i12).trans i13).trans i14).trans i15).trans i16).trans i17) _ _ d9)
          have a12 := (((((i13.trans i14).trans i15).trans i16).trans i17) _ _ d12)
          have a15 := ((i16.trans i17) _ _ d15)
          have a16 := (i17 _ _ d16)
          have ab := ((((((i11.trans i12).trans i13).trans i14).trans i15).trans i16).trans i17) _ _ d10
          clear i17 i16 i15 i14 i13 i12 i11 i10 i9 i8 i7 i6 i5 i4 i3 i2 i1 d1 f1 d2 f2 d3 f3 d4 f4 d5 f5 d6 f6 d7 f7 d8 f8 d9 f9 d10 f10 d11 f11 d12 f12 d13 f13 d14 f14 d15 f15 d16 f16 f17
          have oddA : ∀ x ∈ [V.non, V.int 5, V.str "", V.ref p1, V.ref p2, V.ref p3, V.ref p4, V.ref p6, V.ref p7, V.ref p9, V.ref p10, V.ref p12, V.ref p15, V.ref p16], OddO K B17 one.length other.length x := fun x hx => by
            simp only [List.mem_cons, List.not_mem_nil, or_false] at hx
            rcases hx with rfl | rfl | rfl | rfl | rfl | rfl | rfl | rfl | rfl | rfl | rfl | rfl | rfl | rfl
            · exact ⟨.none, 0, .non, rfl⟩
            · exact ⟨.int 5, 0, .int 5, rfl⟩
            · exact ⟨.str "", 0, .str _, rfl⟩
            · exact ⟨.dict [], 2, TD.dct (ps := []) (m := fun _ => 0) a1 (by decide) List.nodup_nil, rfl⟩
            · exact ⟨.tuple [], 1, TD.tup (SqT.of a2) rfl (by decide) td_nil, rfl⟩
            · exact ⟨.list (dN []), 1, nums_td (l := []) 0 a3 (by decide), ord_no fun z => by have := z.len; simp at this; omega⟩
            · exact ⟨.tuple (dN bo), 1, td_numsT (SqT.of a4) (by omega), rfl⟩
            · exact ⟨.list (dN (bo ++ [0])), 1, nums_td (l := bo ++ [0]) 0 (a6.trans (by rw [← nums_app]; rfl)) (by rw [List.length_append, List.length_singleton]; omega), ord_no fun z => by have := z.len; rw [List.length_append, List.length_singleton] at this; omega⟩
            · exact ⟨.list (dN (bo.drop 1)), 1, nums_td (l := bo.drop 1) 0 (a7.trans (by rw [cut_tl]; unfold numsV; rw [List.map_drop])) (by rw [List.length_drop]; omega), ord_no fun z => by have := z.len; rw [List.length_drop] at this; omega⟩
            · exact ⟨.list (List.replicate bo.length .none), 1, td_rep (a9.trans (by rw [nums_len, Int.toNat_natCast, rep_flat])) (by omega) .non, ord_bad (List.mem_replicate.mpr ⟨by omega, rfl⟩) rfl⟩
            · exact ⟨_, 1, td_bools ab (by rw [List.length_map, List.length_range]; omega), ord_bools (by rw [List.length_map, List.length_range]; omega)⟩
            · exact ⟨.list (List.replicate bo.length (.int 2)), 1, td_rep (a12.trans (by rw [nums_len, Int.toNat_natCast, rep_flat])) (by omega) (.int 2), ord_bad (List.mem_replicate.mpr ⟨by omega, rfl⟩) rfl⟩
            · exact ⟨.list (dN (bo.dropLast ++ [1 - bx])), 1, nums_td (l := bo.dropLast ++ [1 - bx]) 0 (a15.trans (by rw [cut_last, flip_int hbx, ← nums_app]; unfold numsV; rw [List.map_dropLast]; rfl)) (by rw [List.length_append, List.length_dropLast, List.length_singleton]; omega), ord_no (ord_flip obo ebx hbx)⟩
            · exact ⟨.list [.list (dN bo)], 2, TD.lst a16 rfl (Nat.le_of_ble_eq_true rfl) (td_cons (nums_td 0 htz (by omega)) td_nil), rfl⟩
          have eB : ExtN Ga B17 := eG.trans (ExtN.of (eG0 ▸ ia))
          have h2B := h2p9.ext (extN_off eB)
          have TB17 : Tabs (TbK K) B17 := tabs_same (eG0 ▸ ia) TG
          have PB := purse_ext eB P9
          have bHB := bH9.trans (ButN.ofN eB)
          have b6B := b69.trans (ButN.ofN eB)
          clear eB bH9 b69 P9 h2p9 hO9 hDp9 hto9 eG TG ia ht0 eG0 T9 hEE mx
          refine ⟨p17, rfl, ⟨_, SqL.of d17⟩, ?_⟩
          obtain ⟨OV, eOV⟩ : ∃ OV, OV = [V.non, V.int 5, V.str "", V.ref p1, V.ref p2, V.ref p3, V.ref p4, V.ref p6, V.ref p7, V.ref p9, V.ref p10, V.ref p12, V.ref p15, V.ref p16] := ⟨_, rfl⟩
          rw [← eOV] at d17 oddA
          refine for_list (xs := OV) (fun i σ G => ExtN B17 G ∧ Tabs (TbK K) G ∧ ∃ v15, σ = [some (.ref pu), some (.ref a), some (.ref b), some (.ref c), some (.ref d), some (.ref q), some (.ref D), v7, v8, v9, v10, v11, some (.ref to), some (.ref ow), v14, v15, none, none, none])
            ⟨ExtN.refl _, TB17, none, rfl⟩ (fun i σ G _ hh => SqL.of (hh.1 _ _ d17 nt)) ?_ ?_
          · rintro i y σ G hy ⟨eG, TG, v15, rfl⟩
            obtain ⟨e, kk, td, oe⟩ := oddA y (List.mem_of_getElem? hy)
            have eb : bestB one.length other.length ws us e = false := by
              unfold bestB
              rw [oe, Bool.false_and]
            refine ⟨_, rfl, _, rfl, _, rfl, _, rfl, _, rfl, a, b, c, d, y, one, other, ws, us, e, kk, rfl, (h2B.ext (extN_off eG)).same (off_le _ _), TG, TD.ext eG td, fun Gb eb2 Tb => ?_⟩
            rw [eb]
            exact ⟨false, false, rfl, rfl, _, rfl, iteF ⟨eG.trans eb2, Tb, _, rfl⟩⟩
          · rintro σ G ⟨eG, TG, v15, rfl⟩
            refine via_nx ?_
            have htG := eG _ _ htz nt
            have PG := purse_ext eG PB
            have bHG := bHB.trans (ButN.ofN eG)
            have b6G := b6B.trans (ButN.ofN eG)
            refine ⟨_, rfl, to, _, rfl, .inl (SqL.of htG), fun kp nkp => ?_⟩
            have x1 := Same.updf (o := .lst (numsV bo)) nkp
            have hkp := upd_same (H := G) (a := kp) (o := .lst (numsV bo))
            have TG := tabs_same x1 TG
            have PG := PG.same x1
            have bHG := bHG.trans (ButN.of (But.of x1))
            have b6G := b6G.trans (ButN.of (But.of x1))
            have nkt : kp ≠ to := fun z => by rw [z, htG] at nkp; cases nkp
            have htG := x1 _ _ htG
            obtain ⟨Z, eZ⟩ : ∃ X, X = upd G kp (.lst (numsV bo)) := ⟨_, rfl⟩
            rw [← eZ] at hkp TG PG bHG b6G htG ⊢
            clear eZ x1 eG PB bHB b6B htz TB17 h2B oddA d17
            refine via_nx ?_
            refine norm (σ' := [some (.ref pu), some (.ref a), some (.ref b), some (.ref c), some (.ref d), some (.ref q), some (.ref D), v7, v8, v9, v10, v11, some (.ref to), some (.ref ow), v14, v15, some (.ref kp), none, none]) rfl ?_
            refine ⟨_, rfl, Or.inl ⟨rfl, _, SqL.of htG⟩, to, _, _, rfl, rfl, htG, by rw [nums_len]; omega, ?_⟩
            have sZ : Same (off (off Z pu) to) (upd Z to (.lst (numsV bo ++ [V.non]))) := fun c o e => by
              obtain ⟨c1, e⟩ := off_some e
              obtain ⟨c2, e⟩ := off_some e
              rw [upd_ne c1]
              exact e
            have e6Z := (ext_offN (butN_off b6G) n76).trans (ExtN.of sZ)
            have h2Z := h26.ext e6Z
            have hOZ := hO6.ext e6Z
            have PZ := PG.same' (upd_ne (o := .lst (numsV bo ++ [V.non])) ntp.symm)
            have TZ := tabs_but (But.upd' (o := .lst (numsV bo ++ [V.non]))) ⟨_, htG⟩ TG
            have hkZ : (upd Z to (.lst (numsV bo ++ [V.non]))) kp = some (.lst (numsV bo)) := (upd_ne nkt).trans hkp
            have bHZ : ButN pu H (upd Z to (.lst (numsV bo ++ [V.non]))) := fun x o n e tt => by
              rw [upd_ne (fun z => by rw [z] at e; obtain ⟨ps, q⟩ := nto _ e; exact tt ps q)]
              exact bHG _ _ n e tt
            obtain ⟨Y, eY⟩ : ∃ X, X = upd Z to (.lst (numsV bo ++ [V.non])) := ⟨_, rfl⟩
            rw [← eY] at h2Z hOZ PZ TZ hkZ bHZ ⊢
            clear eY sZ e6Z h26 hO6 n76 b6G bHG hkp PG TG htG
            refine ⟨_, rfl, _, rfl, _, rfl, _, rfl, a, b, c, d, one, other, ws, us, rfl, h2Z, TZ, fun t2 Y2 e2 T2 n2 ht2 => ?_⟩
            have hO2 := hOZ.ext e2
            rw [bob] at ht2
            refine ⟨_, rfl, .list (dN bo), dO PS, dp_nums ht2, hO2.dp, shaped_nums _, shaped_ords _, ?_⟩
            rw [any_ords, decide_eq_true bm]
            refine ⟨_, rfl, iteT ?_⟩
            have eb : bestB one.length other.length ws us (.list (dN bo)) = true := by
              unfold bestB
              rw [ordB_of obo, Bool.true_and, show toO (.list (dN bo)) = bo from dN_toN bo]
              rw [ef] at fbo
              exact decide_eq_true fbo
            refine ⟨_, rfl, _, rfl, _, rfl, _, rfl, _, rfl, a, b, c, d, .ref kp, one, other, ws, us, .list (dN bo), 1, rfl, h2Z.ext e2, T2, nums_td 0 (e2 _ _ hkZ nt) (by omega), fun Y3 e3 T3 => ?_⟩
            rw [eb]
            have e23 := e2.trans e3
            exact ⟨true, true, rfl, rfl, k Y3 (bHZ.trans (ButN.ofN e23)) ((purse_ext e23 PZ).mono (by omega)) T3⟩
end
end K19
set_option Elab.async false
set_option linter.all false
set_option maxRecDepth 100000
set_option maxHeartbeats 8000000
/-! Greater runs. -/
namespace K19
open PySem PySem.Spec PyProof.Rows L2 KB LamX
def spGreatR (K : PySem.W.Frag) : Sp := fun vs H Q _ => ∃ (pu : Addr) (N : Nat), vs = [.ref pu] ∧ Purse H pu N ∧ N ≤ 2 ^ 36 ∧ Tabs (TbK K) H ∧
  ∀ H', ButN pu H H' → Purse H' pu (N + 10000) → Tabs (TbK K) H' → Q (.bl true) H'
theorem LsT.off2 {K : PySem.W.Frag} {α : Type} {vv : α → List V} {H : Hp} {a D pu : Addr} {xs : List α} (h : LsT K vv H a xs) (n : a ≠ D) (n2 : a ≠ pu) (hD : ∃ ys, H D = some (.lst ys)) (hp : ∃ ys, H pu = some (.lst ys)) : LsT K vv (off2 H D pu) a xs := by
  obtain ⟨ts, h1, h2, h3⟩ := h
  obtain ⟨yD, hD⟩ := hD
  obtain ⟨yp, hp⟩ := hp
  refine ⟨ts, off2_at n n2 h1, h2, fun i t x e1 e2 => ?_⟩
  rcases h3 i t x e1 e2 with (h | ⟨o, h⟩) | h
  · exact .inl (.inl (off2_at (fun z => by rw [z, hD] at h; cases h) (fun z => by rw [z, hp] at h; cases h) h))
  · exact .inl (.inr ⟨o, off2_at (fun z => by rw [z, hD] at h; cases h) (fun z => by rw [z, hp] at h; cases h) h⟩)
  · exact .inr h
theorem own_max {ws us : List (Nat × Nat)} {m : Int} (hm : m ∈ [(least ws : Int), (least us : Int)]) (hle : ∀ y, y ∈ [(least ws : Int), (least us : Int)] → y ≤ m) : m = ((max (least ws) (least us) : Nat) : Int) := by
  have h1 := hle _ (List.mem_cons_self ..)
  have h2 := hle _ (List.mem_cons_of_mem _ (List.mem_singleton.mpr rfl))
  rcases List.mem_cons.mp hm with rfl | hm
  · omega
  · have := List.mem_singleton.mp hm
    omega
/-- a drawn run, its barriers left out -/
theorem bare_lc {K : PySem.W.Frag} {pu : Addr} {N m e z : Nat} {σ : L2.St} {H : Hp} {Q : VK} (hσ : σ[z]? = some (some (.ref pu))) (hw : ∀ x : V, wipe ((wipe σ [e]).set e (some x)) [e] = wipe σ [e]) (hv : ∀ x : V, ((wipe σ [e]).set e (some x))[e]? = some (some x))
    (hP : Purse H pu N) (hN : N ≤ 2 ^ 37) (m1 : 1 ≤ m) (m10 : m ≤ 10) (k : ∀ D es H', But pu H H' → Purse H' pu (N + 100) → H D = none → RunAt K (off H' pu) D es → Ev.bar ∉ es → es.length ≤ m → Q (.ref D) H') :
    tLc (iList K (tCall (spRun K) [] E0 (tCons (tVar z) (tCons (tC (.int (m : Int))) tNil)))) (gName e) (tTest (tOp (rNeD K) (tVar e) (tTup (tCons (tC (.str "barrier")) tNil)))) (tVar e) [e] σ H Q := by
  have sl : (10000 : Nat) ≤ sizeLine := by decide
  refine ⟨_, hσ, pu, m, N, rfl, hP, hN, m1, m10, fun q es G1 b1 P1 nq hR le => ?_⟩
  have hR' := hR.same (off_le _ _)
  obtain ⟨tq, hq, ltq, htq⟩ := hR'.at_.got
  refine ⟨q, rfl, ⟨_, SqL.of hq⟩, fun D hD => ?_⟩
  refine ls_rel (xs := es) (vv := Ev.v) (fun e => decide (e ≠ Ev.bar)) (fun e y G => ∃ t, y = .ref t ∧ SqT K G t e.v) (fun e y G G' s ⟨t, h1, h2⟩ => ⟨t, h1, SqT_up s h2⟩) (by omega) hR'.at_ hD ?_ ?_
  · rintro x t Ga Qy Qn hm sa hacc he heo ky_ kn
    refine ⟨hw _, _, hv _, (by show 1 ≤ sizeLine; omega), fun tb htb => ?_⟩
    have sb := Same.updf (o := .tup [V.str "barrier"]) htb
    refine ⟨_, _, Ev.dp (SqT_up sb he), Ev.dp (e := .bar) (SqT.of upd_same), shaped_ev _, shaped_ev .bar, _, rfl, ?_⟩
    rw [eqv_ev]
    by_cases c : x = .bar
    · rw [decide_eq_true c]
      exact iteF (kn _ (decide_eq_false (fun z => z c)) sb)
    · rw [decide_eq_false c]
      obtain ⟨acc, hacc⟩ := hacc
      exact iteT ⟨_, hv _, ky_ _ _ (decide_eq_true c) sb ⟨t, rfl, SqT_up (off_same D sb) heo⟩⟩
  · intro G8 ys s8 hys py
    have nD : D ≠ pu := fresh_ne P1 hD
    have b8 := b1.trans (But.of s8)
    have P8 := P1.same s8
    have hB : RunAt K G8 D (es.filter fun e => decide (e ≠ Ev.bar)) := LsT.of_paired hys (paired_mono (fun x y ⟨t, e, h⟩ => ⟨t, e, SqT_up (off_le _ _) h⟩) py)
    refine k D _ G8 b8 P8 (b1.none nD hD) (hB.offp nD P8) (fun z => ?_) (Nat.le_trans (List.length_filter_le _ _) le)
    have := (List.mem_filter.mp z).2
    simp at this
theorem bare_el {K : PySem.W.Frag} {pu : Addr} {N m e z : Nat} {mi : Int} {σ : L2.St} {H : Hp} {R : TE} {Qy : VK} {Qn : Hp → Prop} (hm : mi = (m : Int)) (hσ : σ[z]? = some (some (.ref pu))) (hw : ∀ x : V, wipe ((wipe σ [e]).set e (some x)) [e] = wipe σ [e]) (hv : ∀ x : V, ((wipe σ [e]).set e (some x))[e]? = some (some x))
    (hP : Purse H pu N) (hN : N ≤ 2 ^ 37) (m1 : 1 ≤ m) (m10 : m ≤ 10) (k : ∀ D es H', But pu H H' → Purse H' pu (N + 100) → H D = none → RunAt K (off H' pu) D es → Ev.bar ∉ es → es.length ≤ m → R σ H' fun y H2 => rCat (.ref D) y H2 Qy) :
    tYes σ H fun b H3 => if b = true then tOp rCat (tLc (iList K (tCall (spRun K) [] E0 (tCons (tVar z) (tCons (tC (.int mi)) tNil)))) (gName e) (tTest (tOp (rNeD K) (tVar e) (tTup (tCons (tC (.str "barrier")) tNil)))) (tVar e) [e]) R σ H3 Qy else Qn H3 := by
  subst hm
  exact bare_lc (K := K) (e := e) (m := m) (Q := fun x H2 => R σ H2 fun y H3 => rCat x y H3 Qy) hσ hw hv hP hN m1 m10 k
section
variable {P : Program} {w : World} {K : PySem.W.Frag} {mg : Str → Option Value} {base : Heap}
abbrev s_great_right : Stmt := top 48
abbrev N_great_right : List Str := ["_law_purse_here", "_law_runs", "_law_run_here", "_law_waits", "_law_told", "_law_places", "_law_some", "_law_least_here", "_law_behind", "_law_turn", "_law_late", "_law_event_here"]
theorem sc_great_right : FnScope N_great_right ["_law_purse_here"] (defScope s_great_right) := ⟨rfl, rfl, rfl, by decide +kernel, rfl, by decide +kernel, by decide +kernel⟩
theorem ok_great_right {f : Addr} {fd : FuncData} (F : FnP K "_law_great_right" s_great_right f fd) (Z : FreeS mg)
    {f_best_order : Addr} {d_best_order : FuncData} (g_best_order : mg "best_order" = some (.ref f_best_order)) (F_best_order : FnP K "best_order" s_best_order f_best_order d_best_order) (G_best_order : FnOk P w K mg base CX0 8 f_best_order d_best_order ["one", "waits", "other", "late"] (spBest K))
    {f_taken : Addr} {d_taken : FuncData} (g_taken : mg "_law_taken" = some (.ref f_taken)) (F_taken : FnP K "_law_taken" s_taken f_taken d_taken) (G_taken : FnOk P w K mg base CX0 1 f_taken d_taken ["_law_one", "_law_other", "_law_order"] (spTaken K))
    {f_placed : Addr} {d_placed : FuncData} (g_placed : mg "_law_placed" = some (.ref f_placed)) (F_placed : FnP K "_law_placed" s_placed f_placed d_placed) (G_placed : FnOk P w K mg base CX0 1 f_placed d_placed ["_law_waits", "_law_late", "_law_places"] (spPlaced K))
    {f_exact : Addr} {d_exact : FuncData} (g_exact : mg "_law_exact" = some (.ref f_exact)) (F_exact : FnP K "_law_exact" s_exact f_exact d_exact) (GA_exact : ∀ n : Nat, FnOk P w K mg base CX0 (n + 1) f_exact d_exact ["_law_mine", "_law_theirs"] (spExactD K n))
    {f_some_waits : Addr} {d_some_waits : FuncData} (g_some_waits : mg "_law_some_waits" = some (.ref f_some_waits)) (F_some_waits : FnP K "_law_some_waits" s_some_waits f_some_waits d_some_waits) (G_some_waits : FnOk P w K mg base CX0 3 f_some_waits d_some_waits ["_law_purse_here", "_law_run_here", "_law_few"] (spSomeW K))
    {f_is_best_order : Addr} {d_is_best_order : FuncData} (g_is_best_order : mg "is_best_order" = some (.ref f_is_best_order)) (F_is_best_order : FnP K "is_best_order" s_is_best_order f_is_best_order d_is_best_order) (G_is_best_order : FnOk P w K mg base CX0 8 f_is_best_order d_is_best_order ["one", "waits", "other", "late", "value"] (spIsBest K))
    {f_least : Addr} {d_least : FuncData} (g_least : mg "_law_least" = some (.ref f_least)) (F_least : FnP K "_law_least" s_least f_least d_least) (G_least : FnOk P w K mg base CX0 4 f_least d_least ["_law_stretches"] (spLeast K))
    {f_run : Addr} {d_run : FuncData} (g_run : mg "_law_run" = some (.ref f_run)) (F_run : FnP K "_law_run" s_run f_run d_run) (G_run : FnOk P w K mg base CX0 4 f_run d_run ["_law_purse_here", "_law_most"] (spRun K))
    {f_woven : Addr} {d_woven : FuncData} (g_woven : mg "woven" = some (.ref f_woven)) (F_woven : FnP K "woven" s_woven f_woven d_woven) (G_woven : FnOk P w K mg base CX0 6 f_woven d_woven ["one", "other", "order"] (spWoven K))
    {f_barriers_for : Addr} {d_barriers_for : FuncData} (g_barriers_for : mg "barriers_for" = some (.ref f_barriers_for)) (F_barriers_for : FnP K "barriers_for" s_barriers_for f_barriers_for d_barriers_for) (G_barriers_for : FnOk P w K mg base CX0 7 f_barriers_for d_barriers_for ["run", "waits"] (spFor K)) :
    FnOk P w K mg base CX0 11 f fd ["_law_purse_here"] (spGreatR K) := by
  have b_best_order : Binds K d_best_order ["one", "waits", "other", "late"] [] := F_best_order.bindsN fun _ _ _ _ _ _ us hl => match us, hl with | [_, _, _, _], _ => rfl
  have b_taken : Binds K d_taken ["_law_one", "_law_other", "_law_order"] [] := F_taken.bindsN fun _ _ _ _ _ _ us hl => match us, hl with | [_, _, _], _ => rfl
  have b_placed : Binds K d_placed ["_law_waits", "_law_late", "_law_places"] [] := F_placed.bindsN fun _ _ _ _ _ _ us hl => match us, hl with | [_, _, _], _ => rfl
  have b_exact : Binds K d_exact ["_law_mine", "_law_theirs"] [] := F_exact.bindsN fun _ _ _ _ _ _ us hl => match us, hl with | [_, _], _ => rfl
  have b_some_waits : Binds K d_some_waits ["_law_purse_here", "_law_run_here", "_law_few"] [] := F_some_waits.bindsN fun _ _ _ _ _ _ us hl => match us, hl with | [_, _, _], _ => rfl
  have b_is_best_order : Binds K d_is_best_order ["one", "waits", "other", "late", "value"] [] := F_is_best_order.bindsN fun _ _ _ _ _ _ us hl => match us, hl with | [_, _, _, _, _], _ => rfl
  have b_least : Binds K d_least ["_law_stretches"] [] := F_least.bindsN fun _ _ _ _ _ _ us hl => match us, hl with | [_], _ => rfl
  have b_run : Binds K d_run ["_law_purse_here", "_law_most"] [] := F_run.bindsN fun _ _ _ _ _ _ us hl => match us, hl with | [_, _], _ => rfl
  have b_woven : Binds K d_woven ["one", "other", "order"] [] := F_woven.bindsN fun _ _ _ _ _ _ us hl => match us, hl with | [_, _, _], _ => rfl
  have b_barriers_for : Binds K d_barriers_for ["run", "waits"] [] := F_barriers_for.bindsN fun _ _ _ _ _ _ us hl => match us, hl with | [_, _], _ => rfl
  refine F.ok sc_great_right (fun vs H Q E h => ?_) (fun cdv A outer s H vs Q E hr h => ?_)
  · obtain ⟨pu, N, rfl, _⟩ := h
    rfl
  · obtain ⟨pu, N, rfl, hP, hN, hT, k⟩ := h
    have sl : (10000 : Nat) ≤ sizeLine := by decide
    have hu := room65 hr
    have nd := sc_great_right.nd
    refine ⟨_, PSs.nox (pss_cons (ps_setLc (i := 1) (own := [("_law_turn", 9)]) (g := gName 9) (tt := tYes) (te := tOp rCat (tLc (iList K (tCall (spRun K) [] E0 (tCons (tVar 0) (tCons (tC (.int 5)) tNil)))) (gName 11) (tTest (tOp (rNeD K) (tVar 11) (tTup (tCons (tC (.str "barrier")) tNil)))) (tVar 11) [11]) (tLst (tCons (tTup (tCons (tC (.str "tell")) tNil)) tNil))) (by rfl) nd rfl rfl rfl (pi_range1 (by rfl) Z.range (pa_cons (pe_int) (pa_nil)))
          (blkOk_by (own := [("_law_turn", 9)]) (N := N_great_right) (sc := defScope s_great_right) (by decide +kernel)) (fun _ _ _ _ _ => pg_name (i := 9) nd rfl (Or.inl rfl)) (fun _ _ _ _ _ => pts_nil)
          (fun _ _ _ _ _ => pe_op op_cat (pe_lc (own := [("_law_event_here", 11)]) (g := gName 11) (tt := tTest (tOp (rNeD K) (tVar 11) (tTup (tCons (tC (.str "barrier")) tNil)))) (te := tVar 11) (by rfl) nd (pi_list (pe_call G_run (hr.mono (by decide)) rfl g_run F_run.kp b_run .nil pass0 (pa_cons (pv 0) (pa_cons (pe_int) (pa_nil)))))
          (blkOk_by (own := [("_law_event_here", 11)]) (N := N_great_right) (sc := ({ kind := .function, names := [(".0", .local), ("_law_turn", .local), ("_law_run", .globalImplicit), ("_law_purse_here", .cell)], isGenerator := false, isCoroutine := false } : Scope)) (by decide +kernel)) (fun _ _ _ _ _ => pg_name (i := 11) nd rfl (Or.inl rfl)) (fun _ _ _ _ _ => pts_one (pt_cmpR (op_neD hr.units) (pv 11) (pe_tup (pa_cons (pe_str) (pa_nil))) (nomark _)))
          (fun _ _ _ _ _ => pv 11)) (pe_lst (pa_cons (pe_tup (pa_cons (pe_str) (pa_nil))) (pa_nil)))))
      (pss_cons (ps_setLc (i := 3) (own := [("_law_run_here", 2)]) (g := gName 2) (tt := tYes) (te := tCall (spSomeW K) [] E0 (tCons (tVar 0) (tCons (tVar 2) (tCons (tC (.int 3)) (tNil))))) (by rfl) nd rfl rfl rfl (pi_list (pv 1))
          (blkOk_by (own := [("_law_run_here", 2)]) (N := N_great_right) (sc := defScope s_great_right) (by decide +kernel)) (fun _ _ _ _ _ => pg_name (i := 2) nd rfl (Or.inl rfl)) (fun _ _ _ _ _ => pts_nil)
          (fun _ _ _ _ _ => pe_call G_some_waits (hr.mono (by decide)) rfl g_some_waits F_some_waits.kp b_some_waits .nil pass0 (pa_cons (pv 0) (pa_cons (pv 2) (pa_cons (pe_int) (pa_nil))))))
      (pss_cons (ps_set (i := 4) nd rfl (Or.inl rfl) (pe_call G_best_order (hr.mono (by decide)) rfl g_best_order F_best_order.kp b_best_order .nil pass0 (pa_cons (pe_ix ix_list (pv 1) (pe_int) (fun _ _ => rfl)) (pa_cons (pe_ix ix_list (pv 3) (pe_int) (fun _ _ => rfl)) (pa_cons (pe_ix ix_list (pv 1) (pe_int) (fun _ _ => rfl)) (pa_cons (pe_ix ix_list (pv 3) (pe_int) (fun _ _ => rfl)) (pa_nil)))))))
      (pss_cons (ps_if (PW.pt (pw_or (pt_cmpR op_ne (pe_bm PySem.F.plainAttrs_list PySem.F.slot_list_count PySem.F.type_list_count (mt_countD hu) (pv 4) (pa_cons (pe_int) (pa_nil))) (pe_callB call_len_seq (by rfl) Z.len (by decide +kernel) (pa_cons (pe_ix ix_list (pv 1) (pe_int) (fun _ _ => rfl)) (pa_nil))) (nomark _)) (pw_or (pt_cmpR op_ne (pe_bm PySem.F.plainAttrs_list PySem.F.slot_list_count PySem.F.type_list_count (mt_countD hu) (pv 4) (pa_cons (pe_int) (pa_nil))) (pe_callB call_len_seq (by rfl) Z.len (by decide +kernel) (pa_cons (pe_ix ix_list (pv 1) (pe_int) (fun _ _ => rfl)) (pa_nil))) (nomark _)) (pw_or1 (pt_cmpR op_ne (pe_callB call_len_seq (by rfl) Z.len (by decide +kernel) (pa_cons (pv 4) (pa_nil))) (pe_callB call_len_seq (by rfl) Z.len (by decide +kernel) (pa_cons (pe_op op_cat (pe_ix ix_list (pv 1) (pe_int) (fun _ _ => rfl)) (pe_ix ix_list (pv 1) (pe_int) (fun _ _ => rfl))) (pa_nil))) (nomark _)))))) (pss_one (ps_ret (pe_bl))) (pss_nil))
      (pss_cons (ps_asg (pe_call G_taken (hr.mono (by decide)) rfl g_taken F_taken.kp b_taken .nil pass0 (pa_cons (pe_ix ix_list (pv 1) (pe_int) (fun _ _ => rfl)) (pa_cons (pe_ix ix_list (pv 1) (pe_int) (fun _ _ => rfl)) (pa_cons (pv 4) (pa_nil))))) (pg_unl rfl (pgs_cons (pg_name (i := 2) nd rfl (Or.inl rfl)) (pgs_cons (pg_name (i := 5) nd rfl (Or.inl rfl)) (pgs_nil)))))
      (pss_cons (ps_set (i := 6) nd rfl (Or.inl rfl) (pe_call G_placed (hr.mono (by decide)) rfl g_placed F_placed.kp b_placed .nil pass0 (pa_cons (pe_ix ix_list (pv 3) (pe_int) (fun _ _ => rfl)) (pa_cons (pe_ix ix_list (pv 3) (pe_int) (fun _ _ => rfl)) (pa_cons (pv 5) (pa_nil))))))
      (pss_cons (ps_set (i := 7) nd rfl (Or.inl rfl) (pe_callB (cr_max rfl) (by rfl) Z.max (by decide +kernel) (pa_cons (pe_lc (own := [("_law_late", 10)]) (g := gName 10) (tt := tYes) (te := tCall (spLeast K) [] E0 (tCons (tVar 10) (tNil))) (by rfl) nd (pi_list (pv 3))
          (blkOk_by (own := [("_law_late", 10)]) (N := N_great_right) (sc := defScope s_great_right) (by decide +kernel)) (fun _ _ _ _ _ => pg_name (i := 10) nd rfl (Or.inl rfl)) (fun _ _ _ _ _ => pts_nil)
          (fun _ _ _ _ _ => pe_call G_least (hr.mono (by decide)) rfl g_least F_least.kp b_least .nil pass0 (pa_cons (pv 10) (pa_nil)))) (pa_nil))))
      (pss_cons (ps_if (PW.pt (pw_or (pt_cmpR op_ne (pe_call G_least (hr.mono (by decide)) rfl g_least F_least.kp b_least .nil pass0 (pa_cons (pv 6) (pa_nil))) (pv 7) (nomark _)) (pw_or1 (pt_not (pt_val (pe_call (GA_exact 9) (hr.mono (by decide)) rfl g_exact F_exact.kp b_exact .nil pass0 (pa_cons (pe_lst (pa_cons (pe_call G_woven (hr.mono (by decide)) rfl g_woven F_woven.kp b_woven .nil pass0 (pa_cons (pe_ix ix_list (pv 1) (pe_int) (fun _ _ => rfl)) (pa_cons (pe_ix ix_list (pv 1) (pe_int) (fun _ _ => rfl)) (pa_cons (pv 4) (pa_nil))))) (pa_cons (pe_callB call_len_seq (by rfl) Z.len (by decide +kernel) (pa_cons (pe_call G_barriers_for (hr.mono (by decide)) rfl g_barriers_for F_barriers_for.kp b_barriers_for .nil pass0 (pa_cons (pv 2) (pa_cons (pv 6) (pa_nil)))) (pa_nil))) (pa_nil)))) (pa_cons (pe_lst (pa_cons (pv 2) (pa_cons (pv 7) (pa_nil)))) (pa_nil))))))))) (pss_one (ps_ret (pe_bl))) (pss_nil))
      (pss_cons (ps_set (i := 8) nd rfl (Or.inl rfl) (pe_op op_cat (pe_op op_rep (pe_lst (pa_cons (pe_int) (pa_nil))) (pe_callB call_len_seq (by rfl) Z.len (by decide +kernel) (pa_cons (pe_ix ix_list (pv 1) (pe_int) (fun _ _ => rfl)) (pa_nil)))) (pe_op op_rep (pe_lst (pa_cons (pe_int) (pa_nil))) (pe_callB call_len_seq (by rfl) Z.len (by decide +kernel) (pa_cons (pe_ix ix_list (pv 1) (pe_int) (fun _ _ => rfl)) (pa_nil))))))
      (pss_one (ps_ret (pe_call (GA_exact 9) (hr.mono (by decide)) rfl g_exact F_exact.kp b_exact .nil pass0 (pa_cons (pe_call G_is_best_order (hr.mono (by decide)) rfl g_is_best_order F_is_best_order.kp b_is_best_order .nil pass0 (pa_cons (pe_ix ix_list (pv 1) (pe_int) (fun _ _ => rfl)) (pa_cons (pe_ix ix_list (pv 3) (pe_int) (fun _ _ => rfl)) (pa_cons (pe_ix ix_list (pv 1) (pe_int) (fun _ _ => rfl)) (pa_cons (pe_ix ix_list (pv 3) (pe_int) (fun _ _ => rfl)) (pa_cons (pv 8) (pa_nil))))))) (pa_cons (pe_cmpR op_eq (pe_callB (cr_sum rfl) (by rfl) Z.sum (by decide +kernel) (pa_cons (pe_lc (own := [("_law_late", 10)]) (g := gName 10) (tt := tYes) (te := tCall (spLeast K) [] E0 (tCons (tVar 10) (tNil))) (by rfl) nd (pi_list (pv 3))
          (blkOk_by (own := [("_law_late", 10)]) (N := N_great_right) (sc := defScope s_great_right) (by decide +kernel)) (fun _ _ _ _ _ => pg_name (i := 10) nd rfl (Or.inl rfl)) (fun _ _ _ _ _ => pts_nil)
          (fun _ _ _ _ _ => pe_call G_least (hr.mono (by decide)) rfl g_least F_least.kp b_least .nil pass0 (pa_cons (pv 10) (pa_nil)))) (pa_nil))) (pv 7) (nomark _)) (pa_nil))))))))))))))), ?_⟩
    have nt : ∀ {xs : List V} (ps), HO.lst xs ≠ .tbl ps := fun ps z => by cases z
    have pul : ∀ {G : Hp} {M : Nat}, Purse G pu M → ∃ xs, G pu = some (.lst xs) := fun h => by
      obtain ⟨A0, B0, c0, i0, eP, _⟩ := h
      exact ⟨_, eP⟩
    refine ⟨(2 : Int), rfl, by decide, by decide, fun D1 hD1 => ?_⟩
    rw [show (2 : Int).toNat = 2 from rfl]
    have nD1 : D1 ≠ pu := fresh_ne hP hD1
    refine lc_but (n := 2) (pu := pu) (N := N) (cost := 100) (walk_range (lo := 0) (n := 2)) (fun _ y G => ∃ T es, y = .ref T ∧ RunOk K G T es ∧ Ev.bar ∉ es ∧ es.length ≤ 6) (fun _ y G G' s ⟨T, es, e, h1, h2, h3⟩ => ⟨T, es, e, h1.same s, h2, h3⟩) (by decide) hP hD1 (fun _ _ => trivial) ?_ ?_
    · rintro i x Ga Gb Qy Qn hi ba Pa hacc ⟨rfl, rfl⟩ ky_
      refine ⟨rfl, ?_⟩
      refine bare_el (z := 0) (e := 11) (m := 5) rfl ?_ ?_ ?_ Pa (by omega) (by decide) (by decide) ?_
      · rfl
      · exact fun _ => rfl
      · exact fun _ => rfl
      intro B es Gc bc Pc nB hB nb le
      have nBp : B ≠ pu := fresh_ne Pa nB
      obtain ⟨tb, hb, ltb, _⟩ := id hB.ex
      refine ⟨(by show 1 ≤ sizeLine; omega), fun t1 ht1 => ⟨(by show 1 ≤ sizeLine; omega), fun l1 hl1 => ?_⟩⟩
      have x1 := Same.updf (o := .tup [V.str "tell"]) ht1
      have x2 := Same.updf (o := .lst [V.ref t1]) hl1
      have x12 := x1.trans x2
      refine ⟨B, l1, _, _, rfl, rfl, x12 _ _ (off_le _ _ _ _ hb), upd_same, ?_, fun p hp => ?_⟩
      · rw [List.length_map, ltb]
        show _ + 1 ≤ _
        omega
      have x3 := Same.updf (o := .lst (tb.map V.ref ++ [V.ref t1])) hp
      have x13 := x12.trans x3
      have bp := bc.trans (But.of x13)
      have np : p ≠ pu := fresh_ne (Pc.same x12) hp
      have nd : p ≠ D1 := fun z => by
        obtain ⟨acc, hacc⟩ := hacc
        have := (bc.trans (But.of x12)) _ _ nD1 hacc
        rw [z] at hp
        rw [hp] at this
        cases this
      have hB3 := hB.same ((off_le Gc pu).trans x13)
      have hApp : RunAt K (upd (upd (upd Gc t1 (.tup [V.str "tell"])) l1 (.lst [V.ref t1])) p (.lst (tb.map V.ref ++ [V.ref t1]))) p (es ++ [.tell]) := by
        refine ⟨tb ++ [t1], by rw [upd_same, List.map_append]; rfl, by rw [List.length_append, List.length_append, ltb]; rfl, fun i u y e1 e2 => ?_⟩
        obtain ⟨ts', q1, q2, q3⟩ := hB3
        rw [(x13 _ _ (off_le _ _ _ _ hb))] at q1
        have ee : tb = ts' := (List.map_inj_right (fun _ _ z => V.ref.inj z)).mp (HO.lst.inj (Option.some.inj q1))
        subst ee
        rcases Nat.lt_or_ge i tb.length with c | c
        · rw [List.getElem?_append_left c] at e1
          rw [List.getElem?_append_left (by omega)] at e2
          exact q3 i u y e1 e2
        · rw [List.getElem?_append_right c] at e1
          rw [List.getElem?_append_right (by omega)] at e2
          have hi : i - tb.length = 0 := by
            have := (List.getElem?_eq_some_iff.mp e1).1
            simp at this
            omega
          rw [hi] at e1
          rw [show i - es.length = 0 by omega] at e2
          cases e1
          cases e2
          exact SqT.of ((x2.trans x3) _ _ upd_same)
      have Pp := Pc.same x13
      have hAcc : ∃ ys, (upd (upd (upd Gc t1 (.tup [V.str "tell"])) l1 (.lst [V.ref t1])) p (.lst (tb.map V.ref ++ [V.ref t1]))) D1 = some (.lst ys) := by
        obtain ⟨acc, hacc⟩ := hacc
        exact ⟨acc, bp _ _ nD1 hacc⟩
      refine ky_ _ _ bp (Pp.mono (by omega)) ⟨p, es ++ [.tell], rfl, ⟨hApp.off2 nd np hAcc (pul Pp), by simp, by rw [List.length_append, List.length_singleton]; omega⟩, fun z => ?_, by rw [List.length_append, List.length_singleton]; omega⟩
      rcases List.mem_append.mp z with z | z
      · exact nb z
      · cases List.mem_singleton.mp z
    intro G1 ys b1 P1 hys py
    obtain ⟨a, c, one, other, rfl, hA, nA, lA, hC, nC, lC⟩ : ∃ a c one other, ys = [.ref a, .ref c] ∧ RunOk K (off G1 pu) a one ∧ Ev.bar ∉ one ∧ one.length ≤ 6 ∧ RunOk K (off G1 pu) c other ∧ Ev.bar ∉ other ∧ other.length ≤ 6 := by
      clear hys
      cases py with
      | cons r1 t =>
        cases t with
        | cons r2 t =>
          cases t
          obtain ⟨a, one, rfl, h1, h2, h3⟩ := r1
          obtain ⟨c, other, rfl, h4, h5, h6⟩ := r2
          exact ⟨a, c, one, other, rfl, h1.same off2_le, h2, h3, h4.same off2_le, h5, h6⟩
    clear py
    have T1 := tabs_but b1 (pul hP) hT
    have bH1 : ButN pu H G1 := ButN.of b1
    clear b1
    refine via_nx ?_
    refine norm (σ' := [some (.ref pu), some (.ref D1), none, none, none, none, none, none, none, none, none, none]) rfl ?_
    refine ⟨_, rfl, D1, rfl, ⟨_, SqL.of hys⟩, fun D2 hD2 => ?_⟩
    have nD2 : D2 ≠ pu := fresh_ne P1 hD2
    refine lc_but (n := 2) (pu := pu) (N := N + 100 * 2) (cost := 1000) (walk_list (K := K) (a := D1) (xs := [V.ref a, V.ref c])) (fun i y G => ∃ T ws, y = .ref T ∧ WtOk K G T (if i = 0 then one else other) ws) (fun _ y G G' s ⟨T, ws, e, h1⟩ => ⟨T, ws, e, h1.same s⟩) (by decide) P1 hD2 (fun G b => SqL.of (b _ _ nD1 hys)) ?_ ?_
    · rintro i x Ga Gb Qy Qn hi ba Pa hacc ⟨rfl, hv⟩ ky_
      obtain ⟨r, rfl, hE, lE⟩ : ∃ r, x = .ref r ∧ RunOk K (off G1 pu) r (if i = 0 then one else other) ∧ (if i = 0 then one else other).length ≤ 6 := by
        match i with
        | 0 => cases hv; exact ⟨a, rfl, hA, lA⟩
        | 1 => cases hv; exact ⟨c, rfl, hC, lC⟩
        | i + 2 => simp at hv
      have hE := (hE.same (but_off ba)).same (off_le _ _)
      refine ⟨rfl, ?_⟩
      refine ⟨_, rfl, _, rfl, pu, r, _, 3, _, rfl, Pa, by omega, by decide, by decide, hE, by omega, fun T ws Gc bc Pc nT hW => ?_⟩
      have nTp : T ≠ pu := fresh_ne Pa nT
      have nTD : T ≠ D2 := fun z => by
        obtain ⟨acc, hacc⟩ := hacc
        rw [z, hacc] at nT
        cases nT
      have hAcc : ∃ ys, Gc D2 = some (.lst ys) := by
        obtain ⟨acc, hacc⟩ := hacc
        exact ⟨acc, bc _ _ nD2 hacc⟩
      have hW' := hW.same (off_le _ _)
      exact ky_ _ _ bc (Pc.mono (by omega)) ⟨T, ws, rfl, ⟨hW'.at_.off2 nTD nTp hAcc (pul Pc), hW.ok, hW.len⟩⟩
    intro G2 ys2 b2 P2 hys2 py2
    obtain ⟨b, d, ws, us, rfl, hW, hU⟩ : ∃ b d ws us, ys2 = [.ref b, .ref d] ∧ WtOk K (off G2 pu) b one ws ∧ WtOk K (off G2 pu) d other us := by
      clear hys2
      cases py2 with
      | cons r1 t =>
        cases t with
        | cons r2 t =>
          cases t
          obtain ⟨b, ws, rfl, h1⟩ := r1
          obtain ⟨d, us, rfl, h2⟩ := r2
          exact ⟨b, d, ws, us, rfl, h1.same off2_le, h2.same off2_le⟩
    clear py2
    have T2 := tabs_but b2 (pul P1) T1
    have bH2 : ButN pu H G2 := bH1.trans (ButN.of b2)
    have h2 : Two K G2 a b c d one other ws us := ⟨(hA.same (but_off b2)).same (off_le _ _), nA, hW.same (off_le _ _), (hC.same (but_off b2)).same (off_le _ _), nC, hU.same (off_le _ _)⟩
    have hD1 := b2 _ _ nD1 hys
    clear b2 hA hC hW hU T1 bH1 P1 hys
    refine via_nx ?_
    refine norm (σ' := [some (.ref pu), some (.ref D1), none, some (.ref D2), none, none, none, none, none, none, none, none]) rfl ?_
    have iw := waits_ins h2.W.ok
    have iu := waits_ins h2.U.ok
    have pa := List.length_pos_iff.mpr h2.A.ne
    have pc := List.length_pos_iff.mpr h2.C.ne
    have lws : ws.length ≤ 36 := Nat.le_trans (waits_len iw h2.W.ok.asc) (Nat.mul_le_mul lA lA)
    have lus : us.length ≤ 36 := Nat.le_trans (waits_len iu h2.U.ok.asc) (Nat.mul_le_mul lC lC)
    refine ⟨_, rfl, D1, _, _, _, rfl, rfl, SqL.of hD1, atI_nat (j := 0) rfl, _, rfl, D2, _, _, _, rfl, rfl, SqL.of hys2, atI_nat (j := 0) rfl, _, rfl, D1, _, _, _, rfl, rfl, SqL.of hD1, atI_nat (j := 1) rfl, _, rfl, D2, _, _, _, rfl, rfl, SqL.of hys2, atI_nat (j := 1) rfl, a, b, c, d, one, other, ws, us, rfl, h2, T2, fun to G3 e3 T3 n3 hto => ?_⟩
    have h3 := h2.ext e3
    have hD1 := e3 _ _ hD1 nt
    have hD2 := e3 _ _ hys2 nt
    have P3 := purse_ext e3 P2
    have bH3 := bH2.trans (ButN.ofN e3)
    clear h2 hys2 P2 bH2 T2 e3 n3
    obtain ⟨bo, ebo⟩ : ∃ bo, bo = bestO one.length other.length ws us := ⟨_, rfl⟩
    have obo : Ord one.length other.length bo := by rw [ebo]; exact best_ord iw iu
    have lbo := obo.len
    have fbo : least (moved bo ws us) = max (least ws) (least us) := by rw [ebo]; exact least_best iw iu
    rw [← ebo] at hto
    clear ebo
    obtain ⟨xa, ha, lxa, _⟩ := id h3.A.at_
    obtain ⟨xc, hc, lxc, _⟩ := id h3.C.at_
    have c0 : ((dN bo).countP fun z => PyData.eqv z (.int 0)) = bo.count 0 := count_nums bo 0
    have c1 : ((dN bo).countP fun z => PyData.eqv z (.int 1)) = bo.count 1 := count_nums bo 1
    refine via_nx ?_
    refine norm (σ' := [some (.ref pu), some (.ref D1), none, some (.ref D2), some (.ref to), none, none, none, none, none, none, none]) rfl ?_
    refine ⟨_, rfl, Or.inl ⟨rfl, _, SqL.of hto⟩, to, _, .int 0, _, rfl, rfl, dp_nums hto, .int _, shaped_nums _, rfl, ?_⟩
    rw [c0, obo.2.1]
    refine ⟨_, rfl, D1, _, _, _, rfl, rfl, SqL.of hD1, atI_nat (j := 0) rfl, a, _, rfl, .inl (SqL.of ha), rfl, _, rfl, ?_⟩
    rw [List.length_map, lxa]
    refine iteSame ?_
    refine ⟨_, rfl, Or.inl ⟨rfl, _, SqL.of hto⟩, to, _, .int 1, _, rfl, rfl, dp_nums hto, .int _, shaped_nums _, rfl, ?_⟩
    rw [c1, obo.2.2]
    refine ⟨_, rfl, D1, _, _, _, rfl, rfl, SqL.of hD1, atI_nat (j := 1) rfl, c, _, rfl, .inl (SqL.of hc), rfl, _, rfl, ?_⟩
    rw [List.length_map, lxc]
    refine iteSame ?_
    refine ⟨_, rfl, to, _, rfl, .inl (SqL.of hto), _, rfl, D1, _, _, _, rfl, rfl, SqL.of hD1, atI_nat (j := 0) rfl, _, rfl, D1, _, _, _, rfl, rfl, SqL.of hD1, atI_nat (j := 1) rfl, a, c, _, _, rfl, rfl, ha, hc, by rw [List.length_map, List.length_map]; omega, fun p0 np0 => ?_⟩
    have x1 := Same.updf (o := .lst (xa.map V.ref ++ xc.map V.ref)) np0
    have hp0 := upd_same (H := G3) (a := p0) (o := .lst (xa.map V.ref ++ xc.map V.ref))
    have h4 := h3.same x1
    have hto4 := x1 _ _ hto
    have hD1 := x1 _ _ hD1
    have hD2 := x1 _ _ hD2
    have P4 := P3.same x1
    have T4 := tabs_same x1 T3
    have bH4 := bH3.trans (ButN.of (But.of x1))
    obtain ⟨G4, eG⟩ : ∃ X, X = upd G3 p0 (.lst (xa.map V.ref ++ xc.map V.ref)) := ⟨_, rfl⟩
    rw [← eG] at hp0 h4 hto4 hD1 hD2 P4 T4 bH4 ⊢
    clear eG x1 np0 h3 hto P3 T3 bH3 ha hc
    refine ⟨p0, _, rfl, .inl (SqL.of hp0), rfl, _, rfl, ?_⟩
    rw [nums_len, List.length_append, List.length_map, List.length_map, lxa, lxc, lbo]
    refine iteSame ?_
    refine via_nx ?_
    refine ⟨_, rfl, D1, _, _, _, rfl, rfl, SqL.of hD1, atI_nat (j := 0) rfl, _, rfl, D1, _, _, _, rfl, rfl, SqL.of hD1, atI_nat (j := 1) rfl, _, rfl, a, c, to, one, other, bo, rfl, h4.A.at_, h4.C.at_, h4.A.len, h4.C.len, hto4, obo, fun r fa p G5 s5 nr nf np hr' hTk => ?_⟩
    refine ⟨r, [_, _], rfl, SqL.of hr', rfl, _, [_], rfl, _, [], rfl, rfl, ?_⟩
    obtain ⟨hrun, q0, q1, hp, hq0, hq1⟩ := hTk
    have h5 := h4.same s5
    have hD1 := s5 _ _ hD1
    have hD2 := s5 _ _ hD2
    refine ⟨_, rfl, D2, _, _, _, rfl, rfl, SqL.of hD2, atI_nat (j := 0) rfl, _, rfl, D2, _, _, _, rfl, rfl, SqL.of hD2, atI_nat (j := 1) rfl, _, rfl, b, d, p, q0, q1, one.length, other.length, ws, us, bo, rfl, h5.W.at_, h5.U.at_, iw, iu, h5.W.len, h5.U.len, obo, hp, hq0, hq1, fun m G6 s6 nm hm => ?_⟩
    have s56 := s5.trans s6
    have h6 := h4.same s56
    have hrun := hrun.same s6
    have hto6 := s56 _ _ hto4
    have hD1 := s6 _ _ hD1
    have hD2 := s6 _ _ hD2
    have P6 := P4.same s56
    have T6 := tabs_same s56 T4
    have bH6 := bH4.trans (ButN.of (But.of s56))
    clear s56 s5 s6 h4 h5 hto4 P4 T4 bH4 hp hq0 hq1 hr'
    refine via_nx ?_
    refine norm (σ' := [some (.ref pu), some (.ref D1), some (.ref fa), some (.ref D2), some (.ref to), some (.ref p), some (.ref m), none, none, none, none, none]) rfl ?_
    refine ⟨_, rfl, D2, rfl, ⟨_, SqL.of hD2⟩, fun D8 nD8 => ?_⟩
    have x8 := Same.updf (o := .lst []) nD8
    have nD28 := ne_of_none hD2 nD8
    refine lc_it (walk_list (K := K) (a := D2) (xs := [V.ref b, V.ref d])) (fun i G => ExtN G6 G ∧ Tabs (TbK K) G ∧ G D8 = some (.lst ([V.int (least ws : Int), V.int (least us : Int)].take i)))
      ⟨ExtN.of x8, tabs_same x8 T6, upd_same⟩ (fun i G _ hh => SqL.of (hh.1 _ _ hD2 nt)) ?_ ?_
    · rintro i x G' G hi ⟨eG, TG, hG⟩ ⟨rfl, hv⟩
      have grow : ∀ {vs : List V} (v : V) (Gb : Hp), ExtN G Gb → Tabs (TbK K) Gb → vs.length < 100 → G D8 = some (.lst vs) → ∃ acc, Gb D8 = some (.lst acc) ∧ acc.length < sizeLine ∧ ExtN G6 (upd Gb D8 (.lst (acc ++ [v]))) ∧ Tabs (TbK K) (upd Gb D8 (.lst (acc ++ [v]))) ∧ (upd Gb D8 (.lst (acc ++ [v]))) D8 = some (.lst (vs ++ [v])) := fun {vs} v Gb eb Tb lv hv => by
        have h8 := eb _ _ hv nt
        refine ⟨vs, h8, by omega, fun y o e tt => ?_, tabs_but But.upd' ⟨_, h8⟩ Tb, upd_same⟩
        rw [upd_ne (ne_of_none e nD8)]
        exact eb _ _ (eG _ _ e tt) tt
      have h6' := h6.ext eG
      match i with
      | 0 =>
        cases hv
        exact ⟨rfl, _, rfl, b, ws, rfl, h6'.W.at_, (fun w h => (iw w h).1), by omega, TG, fun Gb eb Tb => grow _ Gb eb Tb (by show 0 < 100; omega) hG⟩
      | 1 =>
        cases hv
        exact ⟨rfl, _, rfl, d, us, rfl, h6'.U.at_, (fun w h => (iu w h).1), by omega, TG, fun Gb eb Tb => grow _ Gb eb Tb (by show 1 < 100; omega) hG⟩
      | i + 2 => simp at hv
    rintro G7 ⟨e7, T7, h8⟩
    have h8 : G7 D8 = some (.lst [V.int (least ws : Int), V.int (least us : Int)]) := h8
    refine ⟨D8, [(least ws : Int), (least us : Int)], rfl, SqL.of h8, (by show 0 < 2; decide), fun mx hmx hle => ?_⟩
    obtain rfl := own_max hmx hle
    have h7 := h6.ext e7
    have hrun := hrun.ext e7
    have hm := hm.ext e7
    have hto7 := e7 _ _ hto6 nt
    have hD1 := e7 _ _ hD1 nt
    have hD2 := e7 _ _ hD2 nt
    have P7 := purse_ext e7 P6
    have bH7 := bH6.trans (ButN.ofN e7)
    clear e7 h8 x8 nD8 h6 hto6 P6 T6 bH6 hle hmx
    refine via_nx ?_
    refine norm (σ' := [some (.ref pu), some (.ref D1), some (.ref fa), some (.ref D2), some (.ref to), some (.ref p), some (.ref m), some (.int ((max (least ws) (least us) : Nat) : Int)), none, none, none, none]) rfl ?_
    have lmv : (moved bo ws us).length ≤ 100 := by
      rw [show (moved bo ws us).length = (mvL bo ws us).length from (srt_perm _).length_eq]
      unfold mvL
      rw [List.length_append, List.length_map, List.length_map]
      omega
    have lwv : (wvn one other bo).length ≤ 100 := by
      rw [wvn_len obo]
      omega
    have nwv : Ev.bar ∉ wvn one other bo := fun z => (wvn_mem obo z).elim h7.nA h7.nC
    refine ⟨_, rfl, m, moved bo ws us, rfl, hm, (fun w h => (moved_ins obo iw iu w h).1), by omega, T7, fun G8 e8 T8 => ⟨_, rfl, rfl, _, rfl, ?_⟩⟩
    rw [fbo]
    refine iteSame ?_
    have h8 := h7.ext e8
    have hrun := hrun.ext e8
    have hm := hm.ext e8
    have hto8 := e8 _ _ hto7 nt
    have hD1 := e8 _ _ hD1 nt
    have hD2 := e8 _ _ hD2 nt
    have P8 := purse_ext e8 P7
    have bH8 := bH7.trans (ButN.ofN e8)
    clear e8 h7 hto7 P7 T7 bH7
    refine ⟨_, rfl, D1, _, _, _, rfl, rfl, SqL.of hD1, atI_nat (j := 0) rfl, _, rfl, D1, _, _, _, rfl, rfl, SqL.of hD1, atI_nat (j := 1) rfl, _, rfl, a, c, to, one, other, bo, rfl, h8.A, h8.nA, h8.C, h8.nC, hto8, obo, fun r1 G9 s9 nr1 hr1 => ?_⟩
    have R9 : RunOk K G9 fa (wvn one other bo) := ⟨hrun.same s9, (fun z => by have h := wvn_len obo; rw [z] at h; have e0 : ([] : List Ev).length = 0 := rfl; omega), lwv⟩
    have W9 : WtOk K G9 m (wvn one other bo) (moved bo ws us) := ⟨hm.same s9, moved_ok obo h8.W.ok h8.U.ok, by omega⟩
    refine ⟨_, rfl, _, rfl, fa, m, _, _, rfl, R9, W9, tabs_same s9 T8, fun q2 G10 e10 T10 n10 hq2 => ?_⟩
    rw [broken_bare nwv] at hq2
    refine ⟨q2, _, rfl, .inl (SqL.of hq2), (by show 2 ≤ sizeLine; omega), fun v1 g1 => ?_⟩
    rw [nums_len, least_ends, fbo]
    have x1 := Same.updf (o := .lst [V.ref r1, V.int ((max (least ws) (least us) : Nat) : Int)]) g1
    have hv1 := upd_same (H := G10) (a := v1) (o := .lst [V.ref r1, V.int ((max (least ws) (least us) : Nat) : Int)])
    refine ⟨_, rfl, _, rfl, (by show 2 ≤ sizeLine; omega), fun v2 g2 => ?_⟩
    have x2 := Same.updf (o := .lst [V.ref fa, V.int ((max (least ws) (least us) : Nat) : Int)]) g2
    have x12 := x1.trans x2
    refine ⟨.ref v1, .ref v2, .list [.list ((wvn one other bo).map Ev.d), .int ((max (least ws) (least us) : Nat) : Int)], rfl,
      TD.lst (x2 _ _ hv1) rfl (Nat.le_of_ble_eq_true rfl) (td_cons (run_td 6 ((hr1.ext e10).same x12) (by omega)) (td_cons (TD.flat (.int _)) td_nil)),
      TD.lst upd_same rfl (Nat.le_of_ble_eq_true rfl) (td_cons (run_td 6 ((R9.at_.ext e10).same x12) (by omega)) (td_cons (TD.flat (.int _)) td_nil)), fun G11 s11 => ⟨_, rfl, iteF ?_⟩⟩
    have eA : ExtN G8 G11 := ((ExtN.of s9).trans e10).trans (ExtN.of (x12.trans s11))
    have T11 := tabs_same (x12.trans s11) T10
    have h11 := h8.ext eA
    have hD1 := eA _ _ hD1 nt
    have hD2 := eA _ _ hD2 nt
    have P11 := purse_ext eA P8
    have bH11 := bH8.trans (ButN.ofN eA)
    clear eA s11 x12 x2 x1 hv1 g2 g1 hq2 e10 n10 W9 R9 s9 hr1 nr1 h8 hrun hm hto8 P8 T8 bH8 T10
    obtain ⟨xa, ha, lxa, _⟩ := id h11.A.at_
    obtain ⟨xc, hc, lxc, _⟩ := id h11.C.at_
    refine via_nx ?_
    refine ⟨(by show 1 ≤ sizeLine; omega), fun z0 nz0 => ?_⟩
    have y1 := Same.updf (o := .lst [V.int 0]) nz0
    refine ⟨_, rfl, D1, _, _, _, rfl, rfl, SqL.of (y1 _ _ hD1), atI_nat (j := 0) rfl, a, _, rfl, .inl (SqL.of (y1 _ _ ha)), z0, _, _, rfl, rfl, upd_same, by rw [List.length_map]; omega, by rw [List.length_map]; omega, by rw [List.length_map, List.length_singleton]; omega, fun r1 nr1 => ?_⟩
    rw [List.length_map, lxa, Int.toNat_natCast, show (List.replicate one.length [V.int 0]).flatten = numsV (List.replicate one.length 0) from rep_nums one.length 0]
    have y2 := Same.updf (o := .lst (numsV (List.replicate one.length 0))) nr1
    have d2 := upd_same (H := upd G11 z0 (.lst [V.int 0])) (a := r1) (o := .lst (numsV (List.replicate one.length 0)))
    have y12 := y1.trans y2
    refine ⟨(by show 1 ≤ sizeLine; omega), fun z1 nz1 => ?_⟩
    have y3 := Same.updf (o := .lst [V.int 1]) nz1
    have y13 := y12.trans y3
    refine ⟨_, rfl, D1, _, _, _, rfl, rfl, SqL.of (y13 _ _ hD1), atI_nat (j := 1) rfl, c, _, rfl, .inl (SqL.of (y13 _ _ hc)), z1, _, _, rfl, rfl, upd_same, by rw [List.length_map]; omega, by rw [List.length_map]; omega, by rw [List.length_map, List.length_singleton]; omega, fun r2 nr2 => ?_⟩
    rw [List.length_map, lxc, Int.toNat_natCast, show (List.replicate other.length [V.int 1]).flatten = numsV (List.replicate other.length 1) from rep_nums other.length 1]
    have y4 := Same.updf (o := .lst (numsV (List.replicate other.length 1))) nr2
    refine ⟨r1, r2, _, _, rfl, rfl, (y3.trans y4) _ _ d2, upd_same, by rw [nums_len, nums_len, List.length_replicate, List.length_replicate]; omega, fun bh nbh => ?_⟩
    rw [nums_app]
    have y5 := Same.updf (o := .lst (numsV (List.replicate one.length 0 ++ List.replicate other.length 1))) nbh
    have hbh : (upd (upd (upd (upd (upd G11 z0 (.lst [V.int 0])) r1 (.lst (numsV (List.replicate one.length 0)))) z1 (.lst [V.int 1])) r2 (.lst (numsV (List.replicate other.length 1)))) bh (.lst (numsV (List.replicate one.length 0 ++ List.replicate other.length 1)))) bh = some (.lst (numsV (behind one.length other.length))) := upd_same
    have y15 := (y13.trans y4).trans y5
    obtain ⟨G12, eG⟩ : ∃ X, X = upd (upd (upd (upd (upd G11 z0 (.lst [V.int 0])) r1 (.lst (numsV (List.replicate one.length 0)))) z1 (.lst [V.int 1])) r2 (.lst (numsV (List.replicate other.length 1)))) bh (.lst (numsV (List.replicate one.length 0 ++ List.replicate other.length 1))) := ⟨_, rfl⟩
    rw [← eG] at hbh y15 ⊢
    clear eG y5 y4 y13 y3 y12 y2 y1 d2 nz0 nr1 nz1 nr2 nbh
    have h12 := h11.same y15
    have hD1 := y15 _ _ hD1
    have hD2 := y15 _ _ hD2
    have P12 := P11.same y15
    have T12 := tabs_same y15 T11
    have bH12 := bH11.trans (ButN.of (But.of y15))
    clear y15 h11 P11 T11 bH11 ha hc
    refine via_nx ?_
    have hb := behind_ord one.length other.length
    have lbh := hb.len
    refine ⟨_, rfl, D1, _, _, _, rfl, rfl, SqL.of hD1, atI_nat (j := 0) rfl, _, rfl, D2, _, _, _, rfl, rfl, SqL.of hD2, atI_nat (j := 0) rfl, _, rfl, D1, _, _, _, rfl, rfl, SqL.of hD1, atI_nat (j := 1) rfl, _, rfl, D2, _, _, _, rfl, rfl, SqL.of hD2, atI_nat (j := 1) rfl, _, rfl, a, b, c, d, .ref bh, one, other, ws, us, .list (dN (behind one.length other.length)), 1, rfl, h12, T12, nums_td 0 hbh (by omega), fun G6 e6 T6 => ?_⟩
    have eb : bestB one.length other.length ws us (.list (dN (behind one.length other.length))) = decide (least ws + least us = max (least ws) (least us)) := by
      unfold bestB
      rw [ordB_of hb, Bool.true_and, show toO (.list (dN (behind one.length other.length))) = behind one.length other.length from dN_toN _, least_behind iw iu]
    rw [eb]
    have h6 := h12.ext e6
    have hD2 := e6 _ _ hD2 nt
    have P6 := purse_ext e6 P12
    have bH6 := bH12.trans (ButN.ofN e6)
    clear e6 h12 P12 T12 bH12 hD1
    refine ⟨_, rfl, D2, rfl, ⟨_, SqL.of hD2⟩, fun D8 nD8 => ?_⟩
    have x8 := Same.updf (o := .lst []) nD8
    refine lc_it (walk_list (K := K) (a := D2) (xs := [V.ref b, V.ref d])) (fun i G => ExtN G6 G ∧ Tabs (TbK K) G ∧ G D8 = some (.lst ([V.int (least ws : Int), V.int (least us : Int)].take i)))
      ⟨ExtN.of x8, tabs_same x8 T6, upd_same⟩ (fun i G _ hh => SqL.of (hh.1 _ _ hD2 nt)) ?_ ?_
    · rintro i x G' G hi ⟨eG, TG, hG⟩ ⟨rfl, hv⟩
      have grow : ∀ {vs : List V} (v : V) (Gb : Hp), ExtN G Gb → Tabs (TbK K) Gb → vs.length < 100 → G D8 = some (.lst vs) → ∃ acc, Gb D8 = some (.lst acc) ∧ acc.length < sizeLine ∧ ExtN G6 (upd Gb D8 (.lst (acc ++ [v]))) ∧ Tabs (TbK K) (upd Gb D8 (.lst (acc ++ [v]))) ∧ (upd Gb D8 (.lst (acc ++ [v]))) D8 = some (.lst (vs ++ [v])) := fun {vs} v Gb eb Tb lv hv => by
        have h8 := eb _ _ hv nt
        refine ⟨vs, h8, by omega, fun y o e tt => ?_, tabs_but But.upd' ⟨_, h8⟩ Tb, upd_same⟩
        rw [upd_ne (ne_of_none e nD8)]
        exact eb _ _ (eG _ _ e tt) tt
      have h6' := h6.ext eG
      match i with
      | 0 =>
        cases hv
        exact ⟨rfl, _, rfl, b, ws, rfl, h6'.W.at_, (fun w h => (iw w h).1), by omega, TG, fun Gb eb Tb => grow _ Gb eb Tb (by show 0 < 100; omega) hG⟩
      | 1 =>
        cases hv
        exact ⟨rfl, _, rfl, d, us, rfl, h6'.U.at_, (fun w h => (iu w h).1), by omega, TG, fun Gb eb Tb => grow _ Gb eb Tb (by show 1 < 100; omega) hG⟩
      | i + 2 => simp at hv
    rintro G7 ⟨e7, T7, h8⟩
    have h8 : G7 D8 = some (.lst [V.int (least ws : Int), V.int (least us : Int)]) := h8
    refine ⟨D8, [(least ws : Int), (least us : Int)], rfl, SqL.of h8, _, rfl, rfl, ?_⟩
    have es : decide (V.int [(least ws : Int), (least us : Int)].sum = V.int ((max (least ws) (least us) : Nat) : Int)) = decide (least ws + least us = max (least ws) (least us)) := by
      rw [decide_eq_decide, show [(least ws : Int), (least us : Int)].sum = ((least ws + least us : Nat) : Int) by simp]
      exact ⟨fun z => by have := V.int.inj z; omega, fun z => by rw [z]⟩
    rw [es]
    exact ⟨_, _, .bool (decide (least ws + least us = max (least ws) (least us))), rfl, TD.flat (.bl _), TD.flat (.bl _), fun Gz sz => k Gz ((bH6.trans (ButN.ofN e7)).trans (ButN.of (But.of sz))) (((purse_ext e7 P6).same sz).mono (by omega)) (tabs_same sz T7)⟩
end
end K19
set_option Elab.async false
set_option linter.all false
set_option maxRecDepth 100000
set_option maxHeartbeats 8000000
/-! The law. -/
namespace K19
open PySem PySem.Spec PyProof.Rows L2 KB LamX
theorem mergeS {J R : Hp → Addr → Prop} {goal : Prop} (a : (∀ G q, J G q → R G q) → goal) (b : ∀ G q, J G q → R G q) : goal := a b
theorem Two.swap {K : PySem.W.Frag} {H : Hp} {a b c d : Addr} {one other : List Ev} {ws us : List (Nat × Nat)} (h : Two K H a b c d one other ws us) : Two K H c d a b other one us ws := ⟨h.C, h.nC, h.U, h.A, h.nA, h.W⟩
def rInt1 : List V → Hp → VK → Prop := fun xs H Q => (∃ i, xs = [.int i] ∧ Q (.int i) H) ∨ ∃ k, xs = [.bl k] ∧ Q (.int (if k then 1 else 0)) H
def spLaw (K : PySem.W.Frag) : Sp := fun vs H Q _ => ∃ (a : Addr) (ns : List Int), vs = [.ref a] ∧ SqL K H a (ns.map V.int) ∧ Tabs (TbK K) H ∧ ∀ H', Q (.bl true) H'
section
variable {P : Program} {w : World} {K : PySem.W.Frag} {mg : Str → Option Value} {base : Heap}
abbrev s_law : Stmt := top 49
abbrev N_law : List Str := ["_law_script", "_law_purse_here", "_law_turn", "_law_runs", "_law_waits", "_law_side", "_law_run_here", "_law_event_here"]
theorem sc_law : FnScope N_law ["_law_script"] (defScope s_law) := ⟨rfl, rfl, rfl, by decide +kernel, rfl, by decide +kernel, by decide +kernel⟩
theorem ok_law {f : Addr} {fd : FuncData} (F : FnP K "law" s_law f fd) (Z : FreeS mg)
    {f_purse : Addr} {d_purse : FuncData} (g_purse : mg "_law_purse" = some (.ref f_purse)) (F_purse : FnP K "_law_purse" s_purse f_purse d_purse) (G_purse : FnOk P w K mg base CX0 1 f_purse d_purse ["_law_script", "_law_at"] (spPurse K))
    {f_some_waits : Addr} {d_some_waits : FuncData} (g_some_waits : mg "_law_some_waits" = some (.ref f_some_waits)) (F_some_waits : FnP K "_law_some_waits" s_some_waits f_some_waits d_some_waits) (G_some_waits : FnOk P w K mg base CX0 3 f_some_waits d_some_waits ["_law_purse_here", "_law_run_here", "_law_few"] (spSomeW K))
    {f_great_right : Addr} {d_great_right : FuncData} (g_great_right : mg "_law_great_right" = some (.ref f_great_right)) (F_great_right : FnP K "_law_great_right" s_great_right f_great_right d_great_right) (G_great_right : FnOk P w K mg base CX0 11 f_great_right d_great_right ["_law_purse_here"] (spGreatR K))
    {f_all_right : Addr} {d_all_right : FuncData} (g_all_right : mg "_law_all_right" = some (.ref f_all_right)) (F_all_right : FnP K "_law_all_right" s_all_right f_all_right d_all_right) (G_all_right : FnOk P w K mg base CX0 11 f_all_right d_all_right ["_law_purse_here", "_law_one", "_law_waits", "_law_other", "_law_late"] (spAllR K))
    {f_run : Addr} {d_run : FuncData} (g_run : mg "_law_run" = some (.ref f_run)) (F_run : FnP K "_law_run" s_run f_run d_run) (G_run : FnOk P w K mg base CX0 4 f_run d_run ["_law_purse_here", "_law_most"] (spRun K))
    {f_draw : Addr} {d_draw : FuncData} (g_draw : mg "_law_draw" = some (.ref f_draw)) (F_draw : FnP K "_law_draw" s_draw f_draw d_draw) (G_draw : FnOk P w K mg base CX0 2 f_draw d_draw ["_law_purse_here", "_law_many"] spDraw) :
    FnOk P w K mg base CX0 12 f fd ["_law_script"] (spLaw K) := by
  have b_purse : Binds K d_purse ["_law_script", "_law_at"] [] := F_purse.bindsN fun _ _ _ _ _ _ us hl => match us, hl with | [_, _], _ => rfl
  have b_some_waits : Binds K d_some_waits ["_law_purse_here", "_law_run_here", "_law_few"] [] := F_some_waits.bindsN fun _ _ _ _ _ _ us hl => match us, hl with | [_, _, _], _ => rfl
  have b_great_right : Binds K d_great_right ["_law_purse_here"] [] := F_great_right.bindsN fun _ _ _ _ _ _ us hl => match us, hl with | [_], _ => rfl
  have b_all_right : Binds K d_all_right ["_law_purse_here", "_law_one", "_law_waits", "_law_other", "_law_late"] [] := F_all_right.bindsN fun _ _ _ _ _ _ us hl => match us, hl with | [_, _, _, _, _], _ => rfl
  have b_run : Binds K d_run ["_law_purse_here", "_law_most"] [] := F_run.bindsN fun _ _ _ _ _ _ us hl => match us, hl with | [_, _], _ => rfl
  have b_draw : Binds K d_draw ["_law_purse_here", "_law_many"] [] := F_draw.bindsN fun _ _ _ _ _ _ us hl => match us, hl with | [_, _], _ => rfl
  refine F.ok sc_law (fun vs H Q E h => ?_) (fun cdv A outer s H vs Q E hr h => ?_)
  · obtain ⟨a, ns, rfl, _⟩ := h
    rfl
  · obtain ⟨a, ns, rfl, hS, hT, k⟩ := h
    have sl : (10000 : Nat) ≤ sizeLine := by decide
    have hu0 : (A.deeper (envOfC "law" (defScope s_law) s.heap.objs.size f cdv)).units < cLine := by have := room65 hr; omega
    have nd := sc_law.nd
    refine ⟨_, PSs.nox (pss_cons (ps_set (i := 1) nd rfl (Or.inr rfl) (pe_call G_purse (hr.mono (by decide)) rfl g_purse F_purse.kp b_purse .nil pass0 (pa_cons (pv 0) (pa_cons (pe_int) (pa_nil)))))
      (pss_cons (ps_for PassesOwn.never rfl (pi_range1 (by rfl) Z.range (pa_cons (pe_int) (pa_nil))) (pg_name (i := 2) nd rfl (Or.inl rfl))
        (pss_cons (ps_setLc (i := 3) (own := [("_law_side", 5)]) (g := gName 5) (tt := tYes) (te := tOp rCat (tLc (iList K (tCall (spRun K) [] E0 (tCons (tVar 1) (tCons (tC (.int 3)) tNil)))) (gName 7) (tTest (tOp (rNeD K) (tVar 7) (tTup (tCons (tC (.str "barrier")) tNil)))) (tVar 7) [7]) (tOp rRep (tLst (tCons (tTup (tCons (tC (.str "tell")) tNil)) tNil)) (tCB rInt1 (tCons (tOrV (tOp rEq (tVar 5) (tC (.int 0))) (tOp rEq (tCall spDraw [] E0 (tCons (tVar 1) (tCons (tC (.int 2)) tNil))) (tC (.int 0)))) tNil)))) (by rfl) nd rfl rfl rfl (pi_tup (pe_tup (pa_cons (pe_int) (pa_cons (pe_int) (pa_nil)))))
          (blkOk_by (own := [("_law_side", 5)]) (N := N_law) (sc := defScope s_law) (by decide +kernel)) (fun _ _ _ _ _ => pg_name (i := 5) nd rfl (Or.inl rfl)) (fun _ _ _ _ _ => pts_nil)
          (fun _ _ _ _ _ => pe_op op_cat (pe_lc (own := [("_law_event_here", 7)]) (g := gName 7) (tt := tTest (tOp (rNeD K) (tVar 7) (tTup (tCons (tC (.str "barrier")) tNil)))) (te := tVar 7) (by rfl) nd (pi_list (pe_call G_run (hr.mono (by decide)) rfl g_run F_run.kp b_run .nil pass0 (pa_cons (pv 1) (pa_cons (pe_int) (pa_nil)))))
          (blkOk_by (own := [("_law_event_here", 7)]) (N := N_law) (sc := ({ kind := .function, names := [(".0", .local), ("_law_side", .local), ("_law_run", .globalImplicit), ("int", .globalImplicit), ("_law_draw", .globalImplicit), ("_law_purse_here", .cell)], isGenerator := false, isCoroutine := false } : Scope)) (by decide +kernel)) (fun _ _ _ _ _ => pg_name (i := 7) nd rfl (Or.inl rfl)) (fun _ _ _ _ _ => pts_one (pt_cmpR (op_neD hr.units) (pv 7) (pe_tup (pa_cons (pe_str) (pa_nil))) (nomark _)))
          (fun _ _ _ _ _ => pv 7)) (pe_op op_rep (pe_lst (pa_cons (pe_tup (pa_cons (pe_str) (pa_nil))) (pa_nil))) (pe_callTy call_int1 (by rfl) Z.int (by decide +kernel) (pa_cons (pe_or (pe_cmpR op_eq (pv 5) (pe_int) (nomark _)) (pe_one (pe_cmpR op_eq (pe_call G_draw (hr.mono (by decide)) rfl g_draw F_draw.kp b_draw .nil pass0 (pa_cons (pv 1) (pa_cons (pe_int) (pa_nil)))) (pe_int) (nomark _)))) (pa_nil))))))
      (pss_cons (ps_asg (pe_ifExp (pt_cmpR (op_neE hu0) (pe_ix ix_list (pv 3) (pe_int) (fun _ _ => rfl)) (pe_lst (pa_nil)) (nomark _)) (pe_ix ix_list (pv 3) (pe_int) (fun _ _ => rfl)) (pe_lst (pa_cons (pe_tup (pa_cons (pe_str) (pa_cons (pe_int) (pa_nil)))) (pa_nil)))) (pg_sub (pv 3) (pe_int) set_list))
      (pss_cons (ps_setLc (i := 4) (own := [("_law_run_here", 6)]) (g := gName 6) (tt := tYes) (te := tCall (spSomeW K) [] E0 (tCons (tVar 1) (tCons (tVar 6) (tCons (tC (.int 2)) (tNil))))) (by rfl) nd rfl rfl rfl (pi_list (pv 3))
          (blkOk_by (own := [("_law_run_here", 6)]) (N := N_law) (sc := defScope s_law) (by decide +kernel)) (fun _ _ _ _ _ => pg_name (i := 6) nd rfl (Or.inl rfl)) (fun _ _ _ _ _ => pts_nil)
          (fun _ _ _ _ _ => pe_call G_some_waits (hr.mono (by decide)) rfl g_some_waits F_some_waits.kp b_some_waits .nil pass0 (pa_cons (pv 1) (pa_cons (pv 6) (pa_cons (pe_int) (pa_nil))))))
      (pss_cons (ps_if (PW.pt (pw_or (pt_not (pt_val (pe_call G_all_right (hr.mono (by decide)) rfl g_all_right F_all_right.kp b_all_right .nil pass0 (pa_cons (pv 1) (pa_cons (pe_ix ix_list (pv 3) (pe_int) (fun _ _ => rfl)) (pa_cons (pe_ix ix_list (pv 4) (pe_int) (fun _ _ => rfl)) (pa_cons (pe_ix ix_list (pv 3) (pe_int) (fun _ _ => rfl)) (pa_cons (pe_ix ix_list (pv 4) (pe_int) (fun _ _ => rfl)) (pa_nil))))))))) (pw_or1 (pt_not (pt_val (pe_call G_all_right (hr.mono (by decide)) rfl g_all_right F_all_right.kp b_all_right .nil pass0 (pa_cons (pv 1) (pa_cons (pe_ix ix_list (pv 3) (pe_int) (fun _ _ => rfl)) (pa_cons (pe_ix ix_list (pv 4) (pe_int) (fun _ _ => rfl)) (pa_cons (pe_ix ix_list (pv 3) (pe_int) (fun _ _ => rfl)) (pa_cons (pe_ix ix_list (pv 4) (pe_int) (fun _ _ => rfl)) (pa_nil)))))))))))) (pss_one (ps_ret (pe_bl))) (pss_nil))
      (pss_one (ps_if (pt_not (pt_val (pe_call G_great_right (hr.mono (by decide)) rfl g_great_right F_great_right.kp b_great_right .nil pass0 (pa_cons (pv 1) (pa_nil))))) (pss_one (ps_ret (pe_bl))) (pss_nil))))))))
      (pss_one (ps_ret (pe_bl))))), ?_⟩
    have nt : ∀ {xs : List V} (ps), HO.lst xs ≠ .tbl ps := fun ps z => by cases z
    have pul : ∀ {G : Hp} {M : Nat} {pu : Addr}, Purse G pu M → ∃ xs, G pu = some (.lst xs) := fun h => by
      obtain ⟨A0, B0, c0, i0, eP, _⟩ := h
      exact ⟨_, eP⟩
    refine ⟨_, rfl, a, ns, 0, rfl, hS, fun pu H1 s1 hpu P1 => ?_⟩
    have T1 := tabs_same s1 hT
    refine via_nx ?_
    refine norm (σ' := [some (.ref a), some (.ref pu), none, none, none, none, none, none]) rfl ?_
    clear s1 hpu hS hT
    have m2 : mixes 2 = 1 := mixes_one (by decide) (by decide)
    refine ⟨(3 : Int), rfl, by decide, by decide, ?_⟩
    rw [show (3 : Int).toNat = 3 from rfl]
    refine for_range (lo := 0) (n := 3) (fun i σ G => (∃ M, Purse G pu M ∧ M ≤ 100000 * i) ∧ Tabs (TbK K) G ∧ ∃ v2 v3 v4, σ = [some (.ref a), some (.ref pu), v2, v3, v4, none, none, none])
      ⟨⟨_, P1, Nat.zero_le _⟩, T1, none, none, none, rfl⟩ ?_ ?_
    rotate_left
    · rintro σ G ⟨_, TG, v2, v3, v4, rfl⟩
      exact k _
    rintro i σ G hi ⟨⟨M, PG, lM⟩, TG, v2, v3, v4, rfl⟩
    clear P1 T1
    refine ⟨(by show 2 ≤ sizeLine; omega), fun Tm hTm => ⟨Tm, rfl, ⟨_, SqT.of upd_same⟩, fun D1 hD1 => ?_⟩⟩
    have x0 := Same.updf (o := .tup [V.int 0, V.int 1]) hTm
    have hTm0 := upd_same (H := G) (a := Tm) (o := .tup [V.int 0, V.int 1])
    have PG := PG.same x0
    have TG := tabs_same x0 TG
    obtain ⟨G0, eG⟩ : ∃ X, X = upd G Tm (.tup [V.int 0, V.int 1]) := ⟨_, rfl⟩
    rw [← eG] at hTm0 PG TG hD1 ⊢
    clear eG x0 hTm
    have nTm : Tm ≠ pu := fun z => by
      obtain ⟨xs, e⟩ := pul PG
      rw [z, e] at hTm0
      cases hTm0
    have nD1 : D1 ≠ pu := fresh_ne PG hD1
    refine lc_but (n := 2) (pu := pu) (N := M) (cost := 101) (walk_tup (K := K) (a := Tm) (xs := [V.int 0, V.int 1])) (fun i y G => ∃ T es, y = .ref T ∧ RunAt K G T es ∧ Ev.bar ∉ es ∧ es.length ≤ 4 ∧ (i = 0 → es ≠ [])) (fun _ y G G' s ⟨T, es, e, h1, h2, h3⟩ => ⟨T, es, e, h1.same s, h2, h3⟩) (by decide) PG hD1 (fun G b => SqT.of (b _ _ nTm hTm0)) ?_ ?_
    · rintro j x Ga Gb Qy Qn hj ba Pa hacc ⟨rfl, hv⟩ ky_
      have hj : j < 2 := hj
      obtain rfl : V.int (j : Int) = x := by
        match j with
        | 0 => cases hv; rfl
        | 1 => cases hv; rfl
        | j + 2 => simp at hv
      refine ⟨rfl, ?_⟩
      refine bare_el (z := 1) (e := 7) (m := 3) rfl ?_ ?_ ?_ Pa (by omega) (by decide) (by decide) ?_
      · rfl
      · exact fun _ => rfl
      · exact fun _ => rfl
      intro B es Gc bc Pc nB hB nb le
      have nBp : B ≠ pu := fresh_ne Pa nB
      obtain ⟨tb, hb, ltb, _⟩ := id hB.ex
      refine ⟨(by show 1 ≤ sizeLine; omega), fun t1 ht1 => ⟨(by show 1 ≤ sizeLine; omega), fun l1 hl1 => ?_⟩⟩
      have x1 := Same.updf (o := .tup [V.str "tell"]) ht1
      have x2 := Same.updf (o := .lst [V.ref t1]) hl1
      have x12 := x1.trans x2
      have hl2 := upd_same (H := upd Gc t1 (.tup [V.str "tell"])) (a := l1) (o := .lst [V.ref t1])
      have ht2 := x2 _ _ (upd_same (H := Gc) (a := t1) (o := .tup [V.str "tell"]))
      have Pd := Pc.same x12
      have bd := bc.trans (But.of x12)
      have hBd := hB.same ((off_le Gc pu).trans x12)
      have hbd := x12 _ _ (off_le _ _ _ _ hb)
      have nl1p : l1 ≠ pu := fresh_ne (Pc.same x1) hl1
      have nt1p : t1 ≠ pu := fresh_ne Pc ht1
      have nBl : B ≠ l1 := ne_of_none (x1 _ _ (off_le _ _ _ _ hb)) hl1
      obtain ⟨Gd, eG⟩ : ∃ X, X = upd (upd Gc t1 (.tup [V.str "tell"])) l1 (.lst [V.ref t1]) := ⟨_, rfl⟩
      rw [← eG] at hl2 ht2 Pd bd hBd hbd ⊢
      clear eG x12 x2 x1 ht1 hl1 hb hB Pc bc
      have fin : ∀ (n : Nat) (Ge : Hp), n ≤ 1 → (j = 0 → n = 1) → But pu Gd Ge → Purse Ge pu (M + 101 * j + 101) → rRep (.ref l1) (.int (n : Int)) Ge fun y H2 => rCat (.ref B) y H2 Qy := fun n Ge n1 jn be Pe => by
        have hl3 := be _ _ nl1p hl2
        have ht3 := be _ _ nt1p ht2
        have hb3 := be _ _ nBp hbd
        have hB3 := (hBd.offp nBp Pd).same (but_off be)
        refine ⟨l1, _, _, rfl, rfl, hl3, by omega, by omega, by rw [List.length_singleton]; omega, fun r nr => ?_⟩
        rw [Int.toNat_natCast, rep_flat]
        have y1 := Same.updf (o := .lst (List.replicate n (V.ref t1))) nr
        refine ⟨B, r, _, _, rfl, rfl, y1 _ _ hb3, upd_same, by rw [List.length_map, List.length_replicate, ltb]; omega, fun p np => ?_⟩
        have y2 := Same.updf (o := .lst (tb.map V.ref ++ List.replicate n (V.ref t1))) np
        have y12 := y1.trans y2
        have bp := be.trans (But.of y12)
        have Pp := Pe.same y12
        have npu : p ≠ pu := fresh_ne (Pe.same y1) np
        have nd : p ≠ D1 := fun z => by
          obtain ⟨acc, hacc⟩ := hacc
          have := ((bd.trans be).trans (But.of y1)) _ _ nD1 hacc
          rw [z] at np
          rw [np] at this
          cases this
        have hAcc : ∃ ys, (upd (upd Ge r (.lst (List.replicate n (V.ref t1)))) p (.lst (tb.map V.ref ++ List.replicate n (V.ref t1)))) D1 = some (.lst ys) := by
          obtain ⟨acc, hacc⟩ := hacc
          exact ⟨acc, (bd.trans bp) _ _ nD1 hacc⟩
        have hB4 := hB3.same ((off_le Ge pu).trans y12)
        have hApp : RunAt K (upd (upd Ge r (.lst (List.replicate n (V.ref t1)))) p (.lst (tb.map V.ref ++ List.replicate n (V.ref t1)))) p (es ++ List.replicate n .tell) := by
          refine ⟨tb ++ List.replicate n t1, by rw [upd_same, List.map_append, List.map_replicate], by rw [List.length_append, List.length_append, ltb, List.length_replicate, List.length_replicate], fun i u y e1 e2 => ?_⟩
          obtain ⟨ts', q1, q2, q3⟩ := hB4
          rw [y12 _ _ hb3] at q1
          have ee : tb = ts' := (List.map_inj_right (fun _ _ z => V.ref.inj z)).mp (HO.lst.inj (Option.some.inj q1))
          subst ee
          rcases Nat.lt_or_ge i tb.length with c | c
          · rw [List.getElem?_append_left c] at e1
            rw [List.getElem?_append_left (by omega)] at e2
            exact q3 i u y e1 e2
          · rw [List.getElem?_append_right c] at e1
            rw [List.getElem?_append_right (by omega)] at e2
            have e1 := List.eq_of_mem_replicate (List.mem_of_getElem? e1)
            have e2 := List.eq_of_mem_replicate (List.mem_of_getElem? e2)
            subst e1
            subst e2
            exact SqT.of (y12 _ _ ht3)
        refine ky_ _ _ (bd.trans bp) (Pp.mono (by omega)) ⟨p, es ++ List.replicate n .tell, rfl, hApp.off2 nd npu hAcc (pul Pp), fun z => ?_, by rw [List.length_append, List.length_replicate]; omega, fun z => ?_⟩
        · rcases List.mem_append.mp z with z | z
          · exact nb z
          · cases List.eq_of_mem_replicate z
        · rw [jn z]
          simp
      refine ⟨_, rfl, rfl, _, rfl, ?_⟩
      by_cases c : j = 0
      · subst c
        refine iteP rfl (Or.inr ⟨true, rfl, ?_⟩)
        exact fin 1 Gd (Nat.le_refl _) (fun _ => rfl) (But.refl _ _) (Pd.mono (by omega))
      · refine iteQ (fun z => c (by have := V.int.inj z; omega)) ?_
        refine ⟨_, rfl, pu, 2, _, rfl, by decide, log_small (by decide) (by decide), Pd, by rw [m2]; omega, by rw [m2]; omega, fun r Ge r0 r1 be Pe => ⟨rfl, ?_⟩⟩
        rw [m2] at Pe
        by_cases cr : r = 0
        · subst cr
          refine Or.inr ⟨true, rfl, ?_⟩
          exact fin 1 Ge (Nat.le_refl _) (fun _ => rfl) be (Pe.mono (by omega))
        · refine Or.inr ⟨false, by rw [decide_eq_false (fun z => cr (V.int.inj z))], ?_⟩
          exact fin 0 Ge (Nat.zero_le _) (fun z => absurd z c) be (Pe.mono (by omega))
    intro G1 ys b1 P1 hys py
    obtain ⟨ra, rc, one, other0, rfl, nrap, nraD, nrcp, nrcD, hA, nA, lA, neA, hC, nC, lC⟩ : ∃ ra rc one other, ys = [.ref ra, .ref rc] ∧ ra ≠ pu ∧ ra ≠ D1 ∧ rc ≠ pu ∧ rc ≠ D1 ∧ RunAt K G1 ra one ∧ Ev.bar ∉ one ∧ one.length ≤ 4 ∧ one ≠ [] ∧ RunAt K G1 rc other ∧ Ev.bar ∉ other ∧ other.length ≤ 4 := by
      clear hys
      cases py with
      | cons r1 t =>
        cases t with
        | cons r2 t =>
          cases t
          obtain ⟨ra, one, rfl, h1, h2, h3, h4⟩ := r1
          obtain ⟨rc, other, rfl, h5, h6, h7, _⟩ := r2
          obtain ⟨_, e1, _⟩ := id h1.ex
          obtain ⟨_, e2, _⟩ := id h5.ex
          obtain ⟨a1, a2, _⟩ := off2_some e1
          obtain ⟨b1, b2, _⟩ := off2_some e2
          have le : Same (off2 G1 D1 pu) G1 := fun c o e => (off2_some e).2.2
          exact ⟨ra, rc, one, other, rfl, a2, a1, b2, b1, h1.same le, h2, h3, h4 rfl, h5.same le, h6, h7⟩
    clear py
    have T1 := tabs_but b1 (pul PG) TG
    clear b1 PG TG hTm0 nTm hD1
    refine via_nx ?_
    refine norm (σ' := [some (.ref a), some (.ref pu), some (.int (0 + (i : Int))), some (.ref D1), v4, none, none, none]) rfl ?_
    apply mergeS (J := fun G3 q3 => ∃ other, Same G1 G3 ∧ RunAt K G3 q3 other ∧ other ≠ [] ∧ Ev.bar ∉ other ∧ other.length ≤ 4 ∧ q3 ≠ pu ∧ q3 ≠ D1)
    · intro rest
      obtain ⟨tc, hc, ltc, _⟩ := id hC.ex
      refine ⟨_, rfl, D1, _, _, _, rfl, rfl, SqL.of hys, atI_nat (j := 1) rfl, (by show 0 ≤ sizeLine; omega), fun e0 he0 => ?_⟩
      have x0 := Same.updf (o := .lst []) he0
      refine ⟨rc, e0, tc.map V.ref, rfl, rfl, SqL.of (x0 _ _ hc), SqL.of upd_same, _, rfl, ?_⟩
      by_cases co : other0 = []
      rotate_left
      · have ie : ((tc.map V.ref).isEmpty != true) = true := by
          have l0 := List.length_pos_iff.mpr co
          have e : (tc.map V.ref).isEmpty = false := by
            rw [← Bool.not_eq_true, List.isEmpty_iff]
            intro z
            have := congrArg List.length z
            rw [List.length_map, ltc] at this
            have e0 : ([] : List V).length = 0 := rfl
            omega
          rw [e]
          rfl
        rw [ie]
        refine iteT ⟨_, rfl, D1, _, _, _, rfl, rfl, SqL.of (x0 _ _ hys), atI_nat (j := 1) rfl, ?_⟩
        obtain ⟨Ga, e1⟩ : ∃ G', G' = upd G1 e0 (.lst []) := ⟨_, rfl⟩
        obtain ⟨qa, e2⟩ : ∃ q', q' = rc := ⟨_, rfl⟩
        rw [← e1, ← e2]
        exact rest Ga qa ⟨other0, by rw [e1]; exact x0, by rw [e1, e2]; exact hC.same x0, co, nC, lC, by rw [e2]; exact nrcp, by rw [e2]; exact nrcD⟩
      · have ie : ((tc.map V.ref).isEmpty != true) = false := by
          have e : tc = [] := List.length_eq_zero_iff.mp (by rw [ltc, co]; rfl)
          rw [e]
          rfl
        rw [ie]
        refine iteF ⟨(by show 2 ≤ sizeLine; omega), fun tw htw => ⟨(by show 1 ≤ sizeLine; omega), fun lw hlw => ?_⟩⟩
        have x1 := Same.updf (o := .tup [V.str "write", V.int 2]) htw
        have x2 := Same.updf (o := .lst [V.ref tw]) hlw
        have x02 := (x0.trans x1).trans x2
        have hq : RunAt K (upd (upd (upd G1 e0 (.lst [])) tw (.tup [V.str "write", V.int 2])) lw (.lst [V.ref tw])) lw [Ev.wr 2] := ⟨[tw], upd_same, rfl, fun i t x q1 q2 => by
          cases i with
          | zero =>
            cases q1
            cases q2
            exact SqT.of (x2 _ _ upd_same)
          | succ i => simp at q1⟩
        have nlp : lw ≠ pu := fresh_ne (P1.same (x0.trans x1)) hlw
        have nlD : lw ≠ D1 := fun z => by
          rw [z, (x0.trans x1) _ _ hys] at hlw
          cases hlw
        obtain ⟨Ga, e1⟩ : ∃ G', G' = upd (upd (upd G1 e0 (.lst [])) tw (.tup [V.str "write", V.int 2])) lw (.lst [V.ref tw]) := ⟨_, rfl⟩
        obtain ⟨qa, e2⟩ : ∃ q', q' = lw := ⟨_, rfl⟩
        rw [← e1, ← e2]
        exact rest Ga qa ⟨[Ev.wr 2], by rw [e1]; exact x02, by rw [e1, e2]; exact hq, (fun z => by cases z), by simp, by show 1 ≤ 4; omega, by rw [e2]; exact nlp, by rw [e2]; exact nlD⟩
    rintro G3 rq ⟨other, s3, hC3, neC, nC3, lC3, nrqp, nrqD⟩
    have hys3 := s3 _ _ hys
    have hA3 := hA.same s3
    have P3 := P1.same s3
    have T3 := tabs_same s3 T1
    clear hC nC lC hA nrcp nrcD hys P1 T1 s3
    refine ⟨_, rfl, D1, _, _, 1, rfl, rfl, hys3, rfl, ?_⟩
    have bD : But D1 G3 (upd G3 D1 (.lst ([V.ref ra, V.ref rc].set 1 (V.ref rq)))) := But.upd'
    have hys4 : (upd G3 D1 (.lst ([V.ref ra, V.ref rc].set 1 (V.ref rq)))) D1 = some (.lst [V.ref ra, V.ref rq]) := upd_same
    have P4 := P3.same' (upd_ne (o := .lst ([V.ref ra, V.ref rc].set 1 (V.ref rq))) nD1.symm)
    have A4 := hA3.but bD nraD ⟨_, hys3⟩
    have C4 := hC3.but bD nrqD ⟨_, hys3⟩
    have T4 := tabs_but bD ⟨_, hys3⟩ T3
    obtain ⟨G4, eG⟩ : ∃ X, X = upd G3 D1 (.lst ([V.ref ra, V.ref rc].set 1 (V.ref rq))) := ⟨_, rfl⟩
    rw [← eG] at hys4 P4 A4 C4 T4 ⊢
    clear eG bD hys3 hA3 hC3 P3 T3
    have hAo : RunOk K (off G4 pu) ra one := ⟨A4.offp nrap P4, neA, by omega⟩
    have hCo : RunOk K (off G4 pu) rq other := ⟨C4.offp nrqp P4, neC, by omega⟩
    clear A4 C4
    refine via_nx ?_
    refine ⟨_, rfl, D1, rfl, ⟨_, SqL.of hys4⟩, fun D2 hD2 => ?_⟩
    have nD2 : D2 ≠ pu := fresh_ne P4 hD2
    refine lc_but (n := 2) (pu := pu) (N := M + 101 * 2) (cost := 1000) (walk_list (K := K) (a := D1) (xs := [V.ref ra, V.ref rq])) (fun i y G => ∃ T ws, y = .ref T ∧ WtOk K G T (if i = 0 then one else other) ws) (fun _ y G G' s ⟨T, ws, e, h1⟩ => ⟨T, ws, e, h1.same s⟩) (by decide) P4 hD2 (fun G b => SqL.of (b _ _ nD1 hys4)) ?_ ?_
    · rintro j x Ga Gb Qy Qn hj ba Pa hacc ⟨rfl, hv⟩ ky_
      have hj : j < 2 := hj
      obtain ⟨r, rfl, hE, lE⟩ : ∃ r, x = .ref r ∧ RunOk K (off G4 pu) r (if j = 0 then one else other) ∧ (if j = 0 then one else other).length ≤ 4 := by
        match j with
        | 0 => cases hv; exact ⟨ra, rfl, hAo, lA⟩
        | 1 => cases hv; exact ⟨rq, rfl, hCo, lC3⟩
        | j + 2 => simp at hv
      have hE := (hE.same (but_off ba)).same (off_le _ _)
      refine ⟨rfl, ?_⟩
      refine ⟨_, rfl, _, rfl, pu, r, _, 2, _, rfl, Pa, by omega, by decide, by decide, hE, by omega, fun T ws Gc bc Pc nT hW => ?_⟩
      have nTp : T ≠ pu := fresh_ne Pa nT
      have nTD : T ≠ D2 := fun z => by
        obtain ⟨acc, hacc⟩ := hacc
        rw [z, hacc] at nT
        cases nT
      have hAcc : ∃ ys, Gc D2 = some (.lst ys) := by
        obtain ⟨acc, hacc⟩ := hacc
        exact ⟨acc, bc _ _ nD2 hacc⟩
      have hW' := hW.same (off_le _ _)
      exact ky_ _ _ bc (Pc.mono (by omega)) ⟨T, ws, rfl, ⟨hW'.at_.off2 nTD nTp hAcc (pul Pc), hW.ok, hW.len⟩⟩
    intro G5 ys2 b5 P5 hys5 py2
    obtain ⟨b, d, ws, us, rfl, hW, hU⟩ : ∃ b d ws us, ys2 = [.ref b, .ref d] ∧ WtOk K (off G5 pu) b one ws ∧ WtOk K (off G5 pu) d other us := by
      clear hys5
      cases py2 with
      | cons r1 t =>
        cases t with
        | cons r2 t =>
          cases t
          obtain ⟨b, ws, rfl, h1⟩ := r1
          obtain ⟨d, us, rfl, h2⟩ := r2
          exact ⟨b, d, ws, us, rfl, h1.same off2_le, h2.same off2_le⟩
    clear py2
    have T5 := tabs_but b5 (pul P4) T4
    have h5 : Two K (off G5 pu) ra b rq d one other ws us := ⟨hAo.same (but_off b5), nA, hW, hCo.same (but_off b5), nC3, hU⟩
    have hD15 := b5 _ _ nD1 hys4
    clear b5 hAo hCo hW hU T4 P4 hys4 hD2
    refine via_nx ?_
    refine norm (σ' := [some (.ref a), some (.ref pu), some (.int (0 + (i : Int))), some (.ref D1), some (.ref D2), none, none, none]) rfl ?_
    refine ⟨_, rfl, _, rfl, D1, _, _, _, rfl, rfl, SqL.of hD15, atI_nat (j := 0) rfl, _, rfl, D2, _, _, _, rfl, rfl, SqL.of hys5, atI_nat (j := 0) rfl, _, rfl, D1, _, _, _, rfl, rfl, SqL.of hD15, atI_nat (j := 1) rfl, _, rfl, D2, _, _, _, rfl, rfl, SqL.of hys5, atI_nat (j := 1) rfl, pu, ra, b, rq, d, one, other, ws, us, _, rfl, P5, by omega, h5, by omega, T5, fun G6 b6 P6 T6 => ⟨_, rfl, iteF ?_⟩⟩
    have h6 := h5.ext (butN_off b6)
    have hD16 := b6 _ _ nD1 hD15 nt
    have hys6 := b6 _ _ nD2 hys5 nt
    clear b6 h5 hD15 hys5 P5 T5
    refine ⟨_, rfl, _, rfl, D1, _, _, _, rfl, rfl, SqL.of hD16, atI_nat (j := 1) rfl, _, rfl, D2, _, _, _, rfl, rfl, SqL.of hys6, atI_nat (j := 1) rfl, _, rfl, D1, _, _, _, rfl, rfl, SqL.of hD16, atI_nat (j := 0) rfl, _, rfl, D2, _, _, _, rfl, rfl, SqL.of hys6, atI_nat (j := 0) rfl, pu, rq, d, ra, b, other, one, us, ws, _, rfl, P6, by omega, h6.swap, by omega, T6, fun G7 b7 P7 T7 => ⟨_, rfl, iteF ?_⟩⟩
    clear b7 h6 hD16 hys6 P6 T6
    refine via_nx ?_
    refine ⟨_, rfl, pu, _, rfl, P7, by omega, T7, fun G8 b8 P8 T8 => ⟨_, rfl, iteF ?_⟩⟩
    exact ⟨⟨_, P8, by omega⟩, T8, _, _, _, rfl⟩
end
end K19
set_option Elab.async false
set_option linter.all false
set_option maxRecDepth 100000
set_option maxHeartbeats 16000000
/-! The end. -/
namespace K19
open PySem PySem.Spec PyProof.Rows L2 KB
section
variable {P : Program} {w : World} {K : PySem.W.Frag} {h : Heap} {mg : Str → Option Value} {base : Heap}
theorem facM (c : He.SaysD fa fn K) {f : He.Fa} (hf : f ∈ fa) : f.ok K = true := by
  have c1 := (He.ba (show ((fa.all fun f => f.ok K) && fn.all fun d => d.ok K) = true from congrArg (fun z : He.AlD => z.1) c)).1
  exact List.all_eq_true.mp c1 f hf
theorem facts {f : Addr} (X : K.In h) (G : h.Ns mainGlobals mg) (hfa : mg ("law" : Str) = some (.ref f)) (c : He.SaysD fa fn K) (ex : exB K = true) :
    ∃ fd : FuncData, (∀ (s : Shared) (v : Value), BindsTo s fd ⟨[v], []⟩ [("_law_script", v)]) ∧ ∀ base : Heap, K.In base → base.Ns mainGlobals mg → LamX.TabB base mg (cA K) (tA K) → LamX.TabB base mg (cL K) (tL K) → tA K ≠ tL K → FnOk P w K mg base CX0 12 f fd ["_law_script"] (spLaw K) := by
  obtain ⟨d_is_whole_number, F_is_whole_number⟩ := c.def_ 0 (d := dT 6 "is_whole_number") rfl
  obtain ⟨d_is_count, F_is_count⟩ := c.def_ 1 (d := dT 7 "is_count") rfl
  obtain ⟨d_is_count_below, F_is_count_below⟩ := c.def_ 2 (d := dT 8 "is_count_below") rfl
  obtain ⟨d_is_tuple_of, F_is_tuple_of⟩ := c.def_ 3 (d := dT 9 "is_tuple_of") rfl
  obtain ⟨d_ascends, F_ascends⟩ := c.def_ 4 (d := dT 10 "ascends") rfl
  obtain ⟨d_is_event, F_is_event⟩ := c.def_ 5 (d := dT 12 "is_event") rfl
  obtain ⟨d_are_events, F_are_events⟩ := c.def_ 6 (d := dT 13 "are_events") rfl
  obtain ⟨d_need_run, F_need_run⟩ := c.def_ 7 (d := dT 14 "need_run") rfl
  obtain ⟨d_need_bare_run, F_need_bare_run⟩ := c.def_ 8 (d := dT 15 "need_bare_run") rfl
  obtain ⟨d_is_wait_of, F_is_wait_of⟩ := c.def_ 9 (d := dT 16 "is_wait_of") rfl
  obtain ⟨d_are_waits_of, F_are_waits_of⟩ := c.def_ 10 (d := dT 17 "are_waits_of") rfl
  obtain ⟨d_need_waits, F_need_waits⟩ := c.def_ 11 (d := dT 18 "need_waits") rfl
  obtain ⟨d_barriers_ahead, F_barriers_ahead⟩ := c.def_ 12 (d := dT 19 "barriers_ahead") rfl
  obtain ⟨d_broken_waits, F_broken_waits⟩ := c.def_ 13 (d := dT 20 "broken_waits") rfl
  obtain ⟨d_apart_of, F_apart_of⟩ := c.def_ 14 (d := dT 21 "apart_of") rfl
  obtain ⟨d_ends_of, F_ends_of⟩ := c.def_ 15 (d := dT 22 "ends_of") rfl
  obtain ⟨d_barriers_for, F_barriers_for⟩ := c.def_ 16 (d := dT 24 "barriers_for") rfl
  obtain ⟨d_is_order, F_is_order⟩ := c.def_ 17 (d := dT 25 "is_order") rfl
  obtain ⟨d_need_order, F_need_order⟩ := c.def_ 18 (d := dT 26 "need_order") rfl
  obtain ⟨d_places_by, F_places_by⟩ := c.def_ 19 (d := dT 27 "places_by") rfl
  obtain ⟨d_woven, F_woven⟩ := c.def_ 20 (d := dT 28 "woven") rfl
  obtain ⟨d_moved_waits, F_moved_waits⟩ := c.def_ 21 (d := dT 29 "moved_waits") rfl
  obtain ⟨d_waits_woven, F_waits_woven⟩ := c.def_ 22 (d := dT 30 "waits_woven") rfl
  obtain ⟨d_need_two_runs, F_need_two_runs⟩ := c.def_ 23 (d := dT 31 "need_two_runs") rfl
  obtain ⟨d_best_order, F_best_order⟩ := c.def_ 24 (d := dT 32 "best_order") rfl
  obtain ⟨d_is_best_order, F_is_best_order⟩ := c.def_ 25 (d := dT 33 "is_best_order") rfl
  obtain ⟨d_purse, F_purse⟩ := c.def_ 26 (d := dT 35 "_law_purse") rfl
  obtain ⟨d_mixed, F_mixed⟩ := c.def_ 27 (d := dT 36 "_law_mixed") rfl
  obtain ⟨d_draw, F_draw⟩ := c.def_ 28 (d := dT 37 "_law_draw") rfl
  obtain ⟨d_exact, F_exact⟩ := c.def_ 29 (d := dT 38 "_law_exact") rfl
  obtain ⟨d_event, F_event⟩ := c.def_ 30 (d := dT 39 "_law_event") rfl
  obtain ⟨d_run, F_run⟩ := c.def_ 31 (d := dT 40 "_law_run") rfl
  obtain ⟨d_pairs_of, F_pairs_of⟩ := c.def_ 32 (d := dT 41 "_law_pairs_of") rfl
  obtain ⟨d_some_waits, F_some_waits⟩ := c.def_ 33 (d := dT 42 "_law_some_waits") rfl
  obtain ⟨d_orders, F_orders⟩ := c.def_ 34 (d := dT 43 "_law_orders") rfl
  obtain ⟨d_taken, F_taken⟩ := c.def_ 35 (d := dT 44 "_law_taken") rfl
  obtain ⟨d_placed, F_placed⟩ := c.def_ 36 (d := dT 45 "_law_placed") rfl
  obtain ⟨d_least, F_least⟩ := c.def_ 37 (d := dT 46 "_law_least") rfl
  obtain ⟨d_all_right, F_all_right⟩ := c.def_ 38 (d := dT 47 "_law_all_right") rfl
  obtain ⟨d_great_right, F_great_right⟩ := c.def_ 39 (d := dT 48 "_law_great_right") rfl
  obtain ⟨d_law, F_law⟩ := c.def_ 40 (d := dT 49 "law") rfl
  have el : ∀ {α : Type} {l : List α} {i : Nat} {a : α}, l[i]? = some a → a ∈ l := fun h => List.mem_of_getElem? h
  have gl : ∀ {x : Str}, He.Fa.glo x ∈ fa0 → mg x = some (.ref (He.ga K x)) := fun {x} hx => He.glo_ok X G (facM c (List.mem_append_left _ hx))
  have fr : ∀ {x : Str}, He.Fa.free x ∈ fa1 → mg x = none := fun {x} hx => He.free_ok X G (facM c (List.mem_append_right _ (List.mem_append_left _ hx)))
  have f2 : ∀ {y : He.Fa}, y ∈ fa2 → y.ok K = true := fun {y} hx => facM c (List.mem_append_right _ (List.mem_append_right _ hx))
  have Z : FreeS mg := ⟨⟨fr (el (i := 0) rfl), fr (el (i := 1) rfl), fr (el (i := 2) rfl), fr (el (i := 3) rfl), fr (el (i := 4) rfl), fr (el (i := 5) rfl), fr (el (i := 6) rfl), fr (el (i := 7) rfl), fr (el (i := 8) rfl), fr (el (i := 9) rfl), fr (el (i := 10) rfl), fr (el (i := 11) rfl), fr (el (i := 12) rfl), fr (el (i := 13) rfl), fr (el (i := 14) rfl), fr (el (i := 15) rfl), fr (el (i := 16) rfl), fr (el (i := 17) rfl)⟩, fr (el (i := 18) rfl), fr (el (i := 19) rfl)⟩
  have g_is_whole_number := gl (x := "is_whole_number") (el (i := 0) rfl)
  have g_is_count := gl (x := "is_count") (el (i := 1) rfl)
  have g_is_count_below := gl (x := "is_count_below") (el (i := 2) rfl)
  have g_is_tuple_of := gl (x := "is_tuple_of") (el (i := 3) rfl)
  have g_ascends := gl (x := "ascends") (el (i := 4) rfl)
  have g_is_event := gl (x := "is_event") (el (i := 5) rfl)
  have g_are_events := gl (x := "are_events") (el (i := 6) rfl)
  have g_need_run := gl (x := "need_run") (el (i := 7) rfl)
  have g_need_bare_run := gl (x := "need_bare_run") (el (i := 8) rfl)
  have g_is_wait_of := gl (x := "is_wait_of") (el (i := 9) rfl)
  have g_are_waits_of := gl (x := "are_waits_of") (el (i := 10) rfl)
  have g_need_waits := gl (x := "need_waits") (el (i := 11) rfl)
  have g_barriers_ahead := gl (x := "barriers_ahead") (el (i := 12) rfl)
  have g_broken_waits := gl (x := "broken_waits") (el (i := 13) rfl)
  have g_apart_of := gl (x := "apart_of") (el (i := 14) rfl)
  have g_ends_of := gl (x := "ends_of") (el (i := 15) rfl)
  have g_barriers_for := gl (x := "barriers_for") (el (i := 16) rfl)
  have g_is_order := gl (x := "is_order") (el (i := 17) rfl)
  have g_need_order := gl (x := "need_order") (el (i := 18) rfl)
  have g_places_by := gl (x := "places_by") (el (i := 19) rfl)
  have g_woven := gl (x := "woven") (el (i := 20) rfl)
  have g_moved_waits := gl (x := "moved_waits") (el (i := 21) rfl)
  have g_waits_woven := gl (x := "waits_woven") (el (i := 22) rfl)
  have g_need_two_runs := gl (x := "need_two_runs") (el (i := 23) rfl)
  have g_best_order := gl (x := "best_order") (el (i := 24) rfl)
  have g_is_best_order := gl (x := "is_best_order") (el (i := 25) rfl)
  have g_purse := gl (x := "_law_purse") (el (i := 26) rfl)
  have g_mixed := gl (x := "_law_mixed") (el (i := 27) rfl)
  have g_draw := gl (x := "_law_draw") (el (i := 28) rfl)
  have g_exact := gl (x := "_law_exact") (el (i := 29) rfl)
  have g_event := gl (x := "_law_event") (el (i := 30) rfl)
  have g_run := gl (x := "_law_run") (el (i := 31) rfl)
  have g_pairs_of := gl (x := "_law_pairs_of") (el (i := 32) rfl)
  have g_some_waits := gl (x := "_law_some_waits") (el (i := 33) rfl)
  have g_orders := gl (x := "_law_orders") (el (i := 34) rfl)
  have g_taken := gl (x := "_law_taken") (el (i := 35) rfl)
  have g_placed := gl (x := "_law_placed") (el (i := 36) rfl)
  have g_least := gl (x := "_law_least") (el (i := 37) rfl)
  have g_all_right := gl (x := "_law_all_right") (el (i := 38) rfl)
  have g_great_right := gl (x := "_law_great_right") (el (i := 39) rfl)
  have g_law := gl (x := "law") (el (i := 40) rfl)
  have e12 := hfa.symm.trans g_law
  cases e12
  have bL := FunD.bindsA (ps := ["_law_script"]) F_law fun _ _ _ _ _ _ us hl => match us, hl with | [_], _ => rfl
  refine ⟨d_law, fun s v => bL s [v] rfl, fun base _ _ TB TB2 nt2 => ?_⟩
  have O_is_whole_number := ok_is_whole_number (P := P) (w := w) (base := base) F_is_whole_number Z  
  have O_is_count := ok_is_count (P := P) (w := w) (base := base) F_is_count Z g_is_whole_number F_is_whole_number O_is_whole_number 
  have O_is_count_below := ok_is_count_below (P := P) (w := w) (base := base) F_is_count_below Z g_is_count F_is_count O_is_count 
  have O_is_tuple_of := ok_is_tuple_of (P := P) (w := w) (base := base) F_is_tuple_of Z  
  have O_ascends := ok_ascends (P := P) (w := w) (base := base) F_ascends Z  
  have O_is_event := ok_is_event (P := P) (w := w) (base := base) F_is_event Z g_is_tuple_of F_is_tuple_of O_is_tuple_of g_is_count F_is_count O_is_count 
  have O_are_events := ok_are_events (P := P) (w := w) (base := base) F_are_events Z g_is_event F_is_event O_is_event 
  have O_need_run := ok_need_run (P := P) (w := w) (base := base) F_need_run Z g_are_events F_are_events O_are_events 
  have O_need_bare_run := ok_need_bare_run (P := P) (w := w) (base := base) F_need_bare_run Z g_are_events F_are_events O_are_events 
  have O_is_wait_of := ok_is_wait_of (P := P) (w := w) (base := base) F_is_wait_of Z g_is_tuple_of F_is_tuple_of O_is_tuple_of g_is_count_below F_is_count_below O_is_count_below 
  have O_are_waits_of := ok_are_waits_of (P := P) (w := w) (base := base) F_are_waits_of Z g_ascends F_ascends O_ascends g_is_wait_of F_is_wait_of O_is_wait_of 
  have O_need_waits := ok_need_waits (P := P) (w := w) (base := base) F_need_waits Z g_are_waits_of F_are_waits_of O_are_waits_of 
  have O_barriers_ahead := ok_barriers_ahead (P := P) (w := w) (base := base) F_barriers_ahead Z  
  have O_broken_waits := ok_broken_waits (P := P) (w := w) (base := base) F_broken_waits Z g_barriers_ahead F_barriers_ahead O_barriers_ahead 
  have O_apart_of := ok_apart_of (P := P) (w := w) (base := base) F_apart_of Z TB nt2
  have O_ends_of := ok_ends_of (P := P) (w := w) (base := base) F_ends_of Z g_apart_of F_apart_of O_apart_of 
  have O_barriers_for := ok_barriers_for (P := P) (w := w) (base := base) F_barriers_for Z g_need_run F_need_run O_need_run g_need_waits F_need_waits O_need_waits g_ends_of F_ends_of O_ends_of g_broken_waits F_broken_waits O_broken_waits 
  have O_is_order := ok_is_order (P := P) (w := w) (base := base) F_is_order Z g_is_count_below F_is_count_below O_is_count_below 
  have O_need_order := ok_need_order (P := P) (w := w) (base := base) F_need_order Z g_is_order F_is_order O_is_order 
  have O_places_by := ok_places_by (P := P) (w := w) (base := base) F_places_by Z  
  have O_woven := ok_woven (P := P) (w := w) (base := base) F_woven Z g_need_bare_run F_need_bare_run O_need_bare_run g_need_order F_need_order O_need_order g_places_by F_places_by O_places_by 
  have O_moved_waits := ok_moved_waits (P := P) (w := w) (base := base) F_moved_waits Z g_places_by F_places_by O_places_by 
  have O_need_two_runs := ok_need_two_runs (P := P) (w := w) (base := base) F_need_two_runs Z g_need_bare_run F_need_bare_run O_need_bare_run g_need_waits F_need_waits O_need_waits 
  have O_waits_woven := ok_waits_woven (P := P) (w := w) (base := base) F_waits_woven Z g_need_two_runs F_need_two_runs O_need_two_runs g_need_order F_need_order O_need_order g_moved_waits F_moved_waits O_moved_waits 
  have O_best_order := ok_best_order (P := P) (w := w) (base := base) F_best_order Z g_need_two_runs F_need_two_runs O_need_two_runs g_ends_of F_ends_of O_ends_of 
  have O_is_best_order := ok_is_best_order (P := P) (w := w) (base := base) F_is_best_order Z g_need_two_runs F_need_two_runs O_need_two_runs g_is_order F_is_order O_is_order g_ends_of F_ends_of O_ends_of g_moved_waits F_moved_waits O_moved_waits 
  have O_purse := ok_purse (P := P) (w := w) (base := base) F_purse Z.toFree
  have O_draw := ok_draw (P := P) (w := w) (base := base) F_draw Z.toFree F_mixed g_mixed
  have O_exact := ok_exact (P := P) (w := w) (base := base) F_exact Z g_exact
  have O_event := ok_event (P := P) (w := w) (base := base) F_event Z g_draw F_draw O_draw 
  have O_run := ok_run (P := P) (w := w) (base := base) F_run Z g_draw F_draw O_draw g_event F_event O_event 
  have O_pairs_of := ok_pairs_of (P := P) (w := w) (base := base) F_pairs_of Z  
  have O_some_waits := ok_some_waits (P := P) (w := w) (base := base) F_some_waits Z g_pairs_of F_pairs_of O_pairs_of g_draw F_draw O_draw 
  have O_orders := ok_orders (P := P) (w := w) (base := base) F_orders Z  
  have O_taken := ok_taken (P := P) (w := w) (base := base) F_taken Z  
  have O_placed := ok_placed (P := P) (w := w) (base := base) F_placed Z  
  have O_least := ok_least (P := P) (w := w) (base := base) F_least Z TB2 nt2
  have O_all_right := ok_all_right (P := P) (w := w) (base := base) F_all_right Z g_best_order F_best_order O_best_order g_orders F_orders O_orders g_taken F_taken O_taken g_placed F_placed O_placed g_least F_least O_least g_woven F_woven O_woven g_waits_woven F_waits_woven O_waits_woven g_exact F_exact O_exact g_draw F_draw O_draw g_is_best_order F_is_best_order O_is_best_order g_barriers_for F_barriers_for O_barriers_for 
  have O_great_right := ok_great_right (P := P) (w := w) (base := base) F_great_right Z g_best_order F_best_order O_best_order g_taken F_taken O_taken g_placed F_placed O_placed g_exact F_exact O_exact g_some_waits F_some_waits O_some_waits g_is_best_order F_is_best_order O_is_best_order g_least F_least O_least g_run F_run O_run g_woven F_woven O_woven g_barriers_for F_barriers_for O_barriers_for 
  exact ok_law F_law Z g_purse F_purse O_purse g_some_waits F_some_waits O_some_waits g_great_right F_great_right O_great_right g_all_right F_all_right O_all_right g_run F_run O_run g_draw F_draw O_draw 
end
end K19
open PySem PySem.W PySem.Calls PyProof.Rows
theorem PySem.Challenge.cw_weavestore_k19_whole_runs_woven_holds : PySem.Challenge.rw_weavestore_k19_whole_runs_woven.Holds := by
  w_on; o_law
  refine HandSHeadRun.head_any (r := OpenLaw.row PySem.Challenge.rw_weavestore_k19_whole_runs_woven) (q := view (OpenLaw.row PySem.Challenge.rw_weavestore_k19_whole_runs_woven).prog [49]) (H := K19.hk) (ob := K19.ob) (M := 20000) (loose := K19.names) (d := HandSHeadRun.topDef (OpenLaw.row PySem.Challenge.rw_weavestore_k19_whole_runs_woven).prog 49) (kwd := []) K19.ob_eq
    (by kernel_rfl) (fun s => by kernel_rfl) K19.run (by kernel_rfl) (by kernel_rfl) (by kernel_rfl) (by rfl) (by first | assumption | decide +kernel) (by decide +kernel) ⟨rfl, rfl, rfl, rfl, rfl, by decide +kernel⟩ ?hw ?hc
  case hw => w_witness2
  case hc =>
    refine LamX.walk_ofTsE (l := PySem.Challenge.rw_weavestore_k19_whole_runs_woven) (n := 63) (k := 12) (x := "_law_script") (CX := fun _ => L2.CX0) rfl (by decide) (by kernel_rfl) ⟨rfl, by decide, by decide⟩ ?F (fun _ _ _ _ _ h => h)
    intro w mg fa h Y G hmg0
    obtain ⟨K, KX, cx⟩ := Y
    have c := cx.t.d
    have ex := cx.more
    have nt2 : K19.tA K ≠ K19.tL K := of_decide_eq_true ex
    have hmg : mg ("law" : PySem.Str) = some (.ref fa) := by
      have e : (HandSHeadRun.topDef (OpenLaw.row PySem.Challenge.rw_weavestore_k19_whole_runs_woven).prog 49).name = ("law" : PySem.Str) := by kernel_rfl
      rw [← e]
      exact hmg0
    obtain ⟨fd, hb, hF⟩ := K19.facts (P := (PySem.Challenge.rw_weavestore_k19_whole_runs_woven).prog) (w := w) KX G hmg c ex
    have mem1 : (("apart_of", none) : He.Defn) ∈ K19.tf := List.mem_cons_self ..
    have mem2 : (("_law_least", none) : He.Defn) ∈ K19.tf := List.mem_cons_of_mem _ (List.mem_singleton.mpr rfl)
    have two : ∀ {X : Addr × Addr → Prop}, X (K19.cA K, K19.tA K) → X (K19.cL K, K19.tL K) → ∀ p ∈ [(K19.cA K, K19.tA K), (K19.cL K, K19.tL K)], X p := fun {X} h1 h2 p hp => by
      rcases List.mem_cons.mp hp with hp | hp
      · rw [hp]
        exact h1
      · rw [List.mem_singleton.mp hp]
        exact h2
    refine ⟨K, KX, fd, [(K19.cA K, K19.tA K), (K19.cL K, K19.tL K)], K19.spLaw K, two (X := fun p => h.get? p.2 = some { cls := .none, data := .fields #[] }) (cx.empty _ mem1) (cx.empty _ mem2), two (X := fun p => K.lookup p.2 = none) (cx.out _ mem1) (cx.out _ mem2), ?_, hb, fun H a ns hl _ hH hS => ⟨a, ns, rfl, hS, fun p hp => ?_, fun _ => rfl⟩, fun base hK hN hT => hF base hK hN (hT _ (List.mem_cons_self ..)) (hT _ (List.mem_cons_of_mem _ (List.mem_singleton.mpr rfl))) nt2⟩
    · intro p hp
      rcases List.mem_cons.mp hp with hp | hp
      · rw [hp]
        exact PySem.W.codeHd_of_K KX (cx.hd _ mem1)
      · rw [List.mem_singleton.mp hp]
        exact PySem.W.codeHd_of_K KX (cx.hd _ mem2)
    · rcases List.mem_cons.mp hp with hp | hp
      · rw [hp]
        exact LamX.TabS.nil (hH (K19.cA K, K19.tA K) (List.mem_cons_self ..))
      · rw [List.mem_singleton.mp hp]
        exact LamX.TabS.nil (hH (K19.cL K, K19.tL K) (List.mem_cons_of_mem _ (List.mem_singleton.mpr rfl)))
