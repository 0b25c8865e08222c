import PyProof.Rows.All
import Wide.All
import OpenK.AllK
import Wide.FinOn
import KE.KStateDown
import KE.KIsAll
import HandS.Words
import HandS.Head0
import HandS.Head1
import HandS.Head2
import HandS.HeadHook1
import HandS.HeadHook2
import HandS.HeadHook4
import HandS.HeadWalk
import PySem.Challenge.RW_weavestore_k18_whole_barriers_put_in_and
import HandS.ForMost
import HandS.Wide
import HandS.WideBits
import HandS.Ends
import HandS.HeadEnd
import HandS.Exc
import HandS.Defaults
import HandS.Walk
import HandS.IsInst
import HandS.Style
import HandS.Zip
import HandS.Conv
import HandS.Deep
import HandS.SortKw
import HandS.SetBool
import HandS.Strs
import PyProof.MinMaxWalk
import PyProof.WalkInts
import HandS.Lambda
import HandS.Dict
import HandS.DictComp
import HandS.Iter
import HandS.DictEq
import HandS.More
import HandS.ListItems
import PyProof.EqAt
import PyProof.EqKinds
import PyProof.TupleCall
import KE.KTryMore
import HandS.ExcInit
import HandS.ExcIs
import HandS.ExcField
import HandS.SortRule
import KE.SortKeyHeap
import KE.SortData
import PyProof.NeData
import PyProof.Rows.SetFrom
set_option Elab.async false
set_option linter.all false
set_option maxRecDepth 100000
set_option maxHeartbeats 0
/-! What is read of the heap that the module's top leaves, and the run of it. -/
namespace K18
open PySem PySem.Spec PyProof.Rows L2
def top (i : Nat) : Stmt := PySem.Challenge.pw_weavestore_k18_whole_barriers_put_in_and.main.body.getD i (.Pass ⟨0, 0, 0, 0⟩)
def exB (K : PySem.W.Frag) : Bool := true
def dT (i : Nat) (x : Str) : He.DefD := ⟨(x, none), x, x, defArgs (top i), defBody (top i), defScope (top i), [], []⟩
def fn0 : List He.DefD := [dT 5 "is_whole_number", dT 6 "is_count", dT 7 "is_count_below", dT 8 "is_tuple_of", dT 9 "ascends", dT 10 "are_ascending_counts", dT 11 "are_ascending_below", dT 13 "is_event", dT 14 "are_events", dT 15 "need_run", dT 16 "is_wait_of", dT 17 "are_waits_of", dT 18 "need_waits", dT 19 "barriers_ahead", dT 20 "kept_waits"]
def fn1 : List He.DefD := [dT 21 "broken_waits", dT 22 "apart_of", dT 23 "ends_of", dT 25 "broken", dT 26 "need_places", dT 27 "with_these", dT 28 "barriers_for", dT 29 "with_barriers", dT 30 "waits_then", dT 31 "bare", dT 32 "places_of_barriers", dT 33 "needless", dT 34 "spared", dT 35 "is_due", dT 36 "need_due"]
def fn2 : List He.DefD := [dT 37 "syncs", dT 38 "served", dT 39 "places_between", dT 41 "_law_purse", dT 42 "_law_mixed", dT 43 "_law_draw", dT 44 "_law_shuffled", dT 45 "_law_exact", dT 46 "_law_event", dT 47 "_law_run", dT 48 "_law_pairs_of", dT 49 "_law_some_waits", dT 50 "_law_place_lists", dT 51 "_law_with", dT 52 "_law_are_kept"]
def fn3 : List He.DefD := [dT 53 "_law_put_right", dT 54 "_law_left_right", dT 55 "_law_own_served", dT 56 "_law_least_served", dT 57 "_law_syncs_right", dT 58 "_law_all_served", dT 59 "law"]
def fn : List He.DefD := fn0 ++ (fn1 ++ (fn2 ++ (fn3)))
def gn0 : List Str := ["is_whole_number", "is_count", "is_count_below", "is_tuple_of", "ascends", "are_ascending_counts", "are_ascending_below", "is_event", "are_events", "need_run", "is_wait_of", "are_waits_of", "need_waits", "barriers_ahead", "kept_waits"]
def gn1 : List Str := ["broken_waits", "apart_of", "ends_of", "broken", "need_places", "with_these", "barriers_for", "with_barriers", "waits_then", "bare", "places_of_barriers", "needless", "spared", "is_due", "need_due"]
def gn2 : List Str := ["syncs", "served", "places_between", "_law_purse", "_law_mixed", "_law_draw", "_law_shuffled", "_law_exact", "_law_event", "_law_run", "_law_pairs_of", "_law_some_waits", "_law_place_lists", "_law_with", "_law_are_kept"]
def gn3 : List Str := ["_law_put_right", "_law_left_right", "_law_own_served", "_law_least_served", "_law_syncs_right", "_law_all_served", "law"]
def gn : List Str := gn0 ++ (gn1 ++ (gn2 ++ (gn3)))
def fa0 : List He.Fa := gn.map He.Fa.glo
def fa1 : List He.Fa := [.free "sum", .free "int", .free "max", .free "min", .free "len", .free "range", .free "isinstance", .free "all", .free "any", .free "zip", .free "divmod", .free "reversed", .free "enumerate", .free "set", .free "list", .free "tuple", .free "dict", .free "bool", .free "str", .free "sorted"]
def fa2 : List He.Fa := []
def fa : List He.Fa := fa0 ++ (fa1 ++ fa2)
def names0 : List Str := ["StoreError", "InvalidRun", "InvalidMoment", "is_whole_number", "is_count", "is_count_below", "is_tuple_of", "ascends", "are_ascending_counts", "are_ascending_below", "is_event", "are_events", "need_run", "is_wait_of", "are_waits_of"]
def names1 : List Str := ["need_waits", "barriers_ahead", "kept_waits", "broken_waits", "apart_of", "ends_of", "broken", "need_places", "with_these", "barriers_for", "with_barriers", "waits_then", "bare", "places_of_barriers", "needless"]
def names2 : List Str := ["spared", "is_due", "need_due", "syncs", "served", "places_between", "_law_purse", "_law_mixed", "_law_draw", "_law_shuffled", "_law_exact", "_law_event", "_law_run", "_law_pairs_of", "_law_some_waits"]
def names3 : List Str := ["_law_place_lists", "_law_with", "_law_are_kept", "_law_put_right", "_law_left_right", "_law_own_served", "_law_least_served", "_law_syncs_right", "_law_all_served"]
def names : List Str := names0 ++ (names1 ++ (names2 ++ (names3)))
abbrev R : PySem.W.OpenRow := PySem.W.OpenLaw.row PySem.Challenge.rw_weavestore_k18_whole_barriers_put_in_and
abbrev qv : Program := PySem.W.view R.prog [59]
/-- the defs that make a lambda -/
def tf : List He.Defn := [("apart_of", none)]
def hk : PySem.W.Hook := He.hookX 4 fa fn [] tf exB
def ob (s : PySem.W.SharedT) : He.AlX := He.obsX 4 fa fn [] tf exB (HandSHeadRun.getT s)
theorem ob_eq (s : PySem.W.SharedT) : ob s = hk.obs s.abs := He.obsX_eq (HandSHeadRun.getT_eq s)
theorem run (w : World) : HandSHeadRun.RunEq R qv hk ob 20000 names w := by
  intro os
  kernel_rfl
end K18
set_option Elab.async false
set_option linter.all false
set_option maxRecDepth 100000
set_option maxHeartbeats 4000000
/-! What does not speak of a law: purses, what is left as it was, walks. -/
namespace L2
open PySem PySem.Spec PyProof.Rows
theorem Same.updf {H : Hp} {p : Addr} {o : HO} (h : H p = none) : Same H (L2.upd H p o) := fun b o' e => by
  rw [upd_ne (ne_of_none e h)]
  exact e
/-- a comprehension whose turns change nothing that stands: what it gives at each turn, if anything -/
theorem lc_sel {J : It} {n : Nat} {G : Hp → Prop} {Y : Nat → Hp → V → Hp → Prop} (w : Walk J n G Y) {g : TG} {tt : TT} {te : TE} {vs : List Nat} {σ : St} {H1 : Hp} {D : Addr} {Qd : Hp → Prop} (f : Nat → Option V) (hn : n ≤ 100000) (hD : H1 D = none)
    (hG : ∀ H, Same H1 H → G H)
    (hs : ∀ i x H H' (Qy : V → Hp → Prop) (Qn : Hp → Prop), i < n → Same H1 H → Y i H x H' → (∀ y H4, Same H H4 → f i = some y → Qy y H4) → (∀ H4, Same H H4 → f i = none → Qn H4) →
      g x (wipe σ vs) H' fun σ2 H2 => wipe σ2 vs = wipe σ vs ∧ tt σ2 H2 fun b H3 => if b = true then te σ2 H3 Qy else Qn H3)
    (hd : ∀ H, Same H1 H → H D = some (.lst ((List.range n).filterMap f)) → Qd H) :
    ∃ W : Nat → Nat → Hp → Prop, (∃ m, W 0 m (upd H1 D (.lst []))) ∧ ∀ i m H, W i m H →
      (J.stop i H ∧ Qd H) ∨ (J.go i H ∧ ∃ Nx : Hp → Prop, (∀ H', Nx H' → ∃ m', m' < m ∧ W (i + 1) m' H') ∧ ∀ x H', J.yld i H x H' → g x (wipe σ vs) H' fun σ2 H2 => wipe σ2 vs = wipe σ vs ∧ tt σ2 H2 fun b H3 =>
        if b = true then te σ2 H3 fun y H4 => ∃ acc, H4 D = some (.lst acc) ∧ acc.length < sizeLine ∧ Nx (upd H4 D (.lst (acc ++ [y]))) else Nx H3) := by
  refine lc_it w (fun i H => Same H1 H ∧ H D = some (.lst ((List.range i).filterMap f))) ⟨Same.updf hD, upd_same⟩ (fun i H _ h => hG H h.1) (fun i x H H' hi hP hy => ?_) (fun H h => hd H h.1 h.2)
  refine hs i x H H' _ _ hi hP.1 hy (fun y H4 s4 e => ?_) (fun H4 s4 e => ?_)
  · refine ⟨_, s4 _ _ hP.2, ?_, fun b o eb => ?_, ?_⟩
    · have l1 : ((List.range i).filterMap f).length ≤ i := by
        have := List.length_filterMap_le f (List.range i)
        rw [List.length_range] at this
        exact this
      have l2 : (100000 : Nat) < sizeLine := by decide
      omega
    · rw [upd_ne (ne_of_none eb hD)]
      exact s4 _ _ (hP.1 _ _ eb)
    · rw [upd_same, List.range_succ, List.filterMap_append, List.filterMap_cons, e]
      rfl
  · refine ⟨hP.1.trans s4, ?_⟩
    rw [List.range_succ, List.filterMap_append, List.filterMap_cons, e, List.filterMap_nil, List.append_nil]
    exact s4 _ _ hP.2
/-- a pair's two names: the tuple is new -/
theorem pair_st {i j : Nat} {xs ys : Nat → Option V} {t : Nat} {σ : St} {H H' : Hp} {v : V} {Q : St → Hp → Prop} (y : YPair xs ys t H v H') {K : PySem.W.Frag}
    (k : ∀ x z, xs t = some x → ys t = some z → Same H H' → ∃ T, v = .ref T ∧ SqT K H' T [x, z] ∧ Q ((σ.set i (some x)).set j (some z)) H') :
    ∃ x z T, v = .ref T ∧ SqT K H' T [x, z] ∧ Q ((σ.set i (some x)).set j (some z)) H' := by
  obtain ⟨T, x, z, h1, h2, h3, h4, h5⟩ := y
  obtain ⟨T', e1, e2, e3⟩ := k x z h4 h5 (by rw [h3]; exact Same.updf h2)
  exact ⟨x, z, T', e1, e2, e3⟩
end L2
namespace KB
open PySem PySem.Spec PyProof.Rows L2
/-- built-in names that the module leaves free -/
structure Free (mg : Str → Option Value) : Prop where
  sum : mg "sum" = none
  int : mg "int" = none
  max : mg "max" = none
  min : mg "min" = none
  len : mg "len" = none
  range : mg "range" = none
  isi : mg "isinstance" = none
  all : mg "all" = none
  any : mg "any" = none
  zip : mg "zip" = none
  divmod : mg "divmod" = none
  reversed : mg "reversed" = none
  enumerate : mg "enumerate" = none
  tset : mg "set" = none
  tlist : mg "list" = none
  ttuple : mg "tuple" = none
  tdict : mg "dict" = none
  tbool : mg "bool" = none
theorem op_powL {X : Cx} : OpR X (binaryOp .Pow) (rI (fun i n => 0 ≤ n ∧ (Builtin.Int.intBits i : Int) * n ≤ 2 ^ 27) fun i j => .int (i ^ j.toNat)) :=
  opI fun _ _ _ _ _ _ _ hc q => pow_int hc.1 hc.2 q
/-- a purse: what is left of a great number, the seed, how often it was mixed, the place -/
structure Purse (H : Hp) (p : Addr) (N : Nat) : Prop where
  at_ : ∃ A B c i : Int, H p = some (.lst [.int A, .int B, .int c, .int i]) ∧ (0 ≤ B ∧ B < 2147483648) ∧ 0 ≤ A ∧ 0 ≤ c ∧ c ≤ (N : Int)
theorem Purse.mono {H : Hp} {p : Addr} {N M : Nat} (h : Purse H p N) (l : N ≤ M) : Purse H p M := by
  obtain ⟨A, B, c, i, e, hB, h1, h2, h3⟩ := h
  exact ⟨A, B, c, i, e, hB, h1, h2, by omega⟩
theorem Purse.same {H H' : Hp} {p : Addr} {N : Nat} (k : Same H H') (h : Purse H p N) : Purse H' p N := by
  obtain ⟨A, B, c, i, e, r⟩ := h
  exact ⟨A, B, c, i, k _ _ e, r⟩
/-- all but p stands as it did -/
def But (p : Addr) (H H' : Hp) : Prop := ∀ b o, b ≠ p → H b = some o → H' b = some o
theorem But.refl (p : Addr) (H : Hp) : But p H H := fun _ _ _ e => e
theorem But.trans {p : Addr} {H H1 H2 : Hp} (a : But p H H1) (b : But p H1 H2) : But p H H2 := fun x o n e => b x o n (a x o n e)
theorem But.of {p : Addr} {H H' : Hp} (k : Same H H') : But p H H' := fun b o _ e => k b o e
theorem But.upd {p : Addr} {H : Hp} {o : HO} : But p H (L2.upd H p o) := fun b o' n e => by
  rw [upd_ne n]
  exact e
theorem Same.upd {H : Hp} {p : Addr} {o : HO} (h : H p = none) : Same H (L2.upd H p o) := fun b o' e => by
  rw [upd_ne (ne_of_none e h)]
  exact e
theorem cut_map (ns : List Int) (lo hi : Option Int) : cutV (ns.map V.int) lo hi = ((ns.drop (HT.sIx (ns.map V.int).length 0 lo)).take (HT.sIx (ns.map V.int).length (ns.map V.int).length hi - HT.sIx (ns.map V.int).length 0 lo)).map V.int := by
  unfold cutV
  rw [List.map_take, List.map_drop]
def spPurse (K : PySem.W.Frag) : Sp := fun vs H Q _ => ∃ (a : Addr) (ns : List Int) (i : Int), vs = [.ref a, .int i] ∧ SqL K H a (ns.map V.int) ∧
  ∀ p H', Same H H' → H p = none → Purse H' p 0 → Q (.ref p) H'
/-- any rest there is -/
def spMixed : Sp := fun vs H Q _ => ∃ B c i : Int, vs = [.int B, .int c, .int i] ∧ (0 ≤ c ∧ c ≤ 2 ^ 60) ∧ ∀ r : Int, 0 ≤ r → r < 2147483587 → Q (.int r) H
/-- how often a draw of one of m mixes -/
def mixes (m : Int) : Nat := (1 + (Builtin.Int.intBits m : Int) / 28).toNat
def spDraw : Sp := fun vs H Q _ => ∃ (p : Addr) (m : Int) (N : Nat), vs = [.ref p, .int m] ∧ 1 ≤ m ∧ m.natAbs.log2 < 9000 ∧ Purse H p N ∧ N + mixes m ≤ 2 ^ 50 ∧ mixes m ≤ 2 ^ 50 ∧
  ∀ (r : Int) (H' : Hp), 0 ≤ r → r < m → But p H H' → Purse H' p (N + mixes m) → Q (.int r) H'
theorem mixes_one {m : Int} (h0 : 1 ≤ m) (h : m < 2 ^ 27) : mixes m = 1 := by
  have e : Builtin.Int.intBits m ≤ 27 := PyProof.Rows.intBits_le (by omega)
  unfold mixes
  omega
theorem log_small {m : Int} (h0 : 1 ≤ m) (h : m < 2 ^ 27) : m.natAbs.log2 < 9000 := by
  have e : m.natAbs < 2 ^ 27 := by omega
  have := PySem.Flt.log2_lt_of (by decide) e
  omega
theorem But.seq {K : PySem.W.Frag} {p a : Addr} {H H' : Hp} {xs : List V} (k : But p H H') (n : a ≠ p) (h : SqL K H a xs) : SqL K H' a xs := by
  rcases h with (h | ⟨o, h⟩) | h
  · exact .inl (.inl (k _ _ n h))
  · exact .inl (.inr ⟨o, k _ _ n h⟩)
  · exact .inr h
/-- purses(script, 1): the list of one purse -/
def spPurses (K : PySem.W.Frag) : Sp := fun vs H Q _ => ∃ (a : Addr) (ns : List Int), vs = [.ref a, .int 1] ∧ SqL K H a (ns.map V.int) ∧
  ∀ q p H', Same H H' → H p = none → H q = none → p ≠ q → H' q = some (.lst [.ref p]) → Purse H' p 0 → Q (.ref q) H'
def spOne (K : PySem.W.Frag) : Sp := fun vs H Q _ => ∃ (p q : Addr) (xs : List V) (N : Nat), vs = [.ref p, .ref q] ∧ q ≠ p ∧ SqL K H q xs ∧ 1 ≤ xs.length ∧ xs.length ≤ 1000000 ∧ Purse H p N ∧ N ≤ 2 ^ 40 ∧
  ∀ x H', x ∈ xs → But p H H' → Purse H' p (N + 1) → Q x H'

theorem none_back {H H' : Hp} {q : Addr} (k : Same H H') (h : H' q = none) : H q = none := by
  cases e : H q with
  | none => rfl
  | some o =>
    have := k _ _ e
    rw [h] at this
    cases this
theorem mixes_le {m : Int} (h0 : 1 ≤ m) (h : m < 2 ^ 62) : mixes m ≤ 3 := by
  have e : Builtin.Int.intBits m ≤ 62 := PyProof.Rows.intBits_le (by omega)
  unfold mixes
  omega
theorem via_nx {f b c : L2.St → Hp → Prop} {r : VK} {σ : L2.St} {H : Hp} (h : f σ H) : (Ends.mk f r b c).nx σ H := h
theorem via_seq {t u : TS} {D : Ends} {σ : L2.St} {H : Hp} (h : t { D with nx := u D } σ H) : tSeq t u D σ H := h
theorem via_asg {te : TE} {g : TG} {D : Ends} {σ : L2.St} {H : Hp} (h : te σ H fun x H1 => g x σ H1 D.nx) : tAsg te g D σ H := h
theorem fresh_ne {X : Hp} {pu b : Addr} {M : Nat} (h : Purse X pu M) (hb : X b = none) : b ≠ pu := fun e => by
  obtain ⟨A0, B, c, i, e2, _⟩ := h
  rw [e, e2] at hb
  cases hb
theorem But.none {pu b : Addr} {X Y : Hp} (k : But pu X Y) (ne : b ≠ pu) (h : Y b = none) : X b = none := by
  cases e : X b with
  | none => rfl
  | some o =>
    have := k _ _ ne e
    rw [h] at this
    cases this
theorem Purse.same' {H H' : Hp} {p : Addr} {N : Nat} (k : H' p = H p) (h : Purse H p N) : Purse H' p N := by
  obtain ⟨A, B, c, i, e, r⟩ := h
  exact ⟨A, B, c, i, k.trans e, r⟩

/-- a statement that is never come to -/
theorem ps_dead {X : Cx} {st : Stmt} : PS X st (fun _ _ _ => False) := ⟨fun _ _ _ _ _ _ h => h.elim⟩
end KB
set_option Elab.async false
set_option linter.all false
set_option maxRecDepth 100000
set_option maxHeartbeats 4000000
/-! Data on the tracked heap; what is counted; the greatest of a list that may be empty. -/
namespace L2
open PySem PySem.Spec PyProof.Rows
open RZ
theorem walk_zipT {K : PySem.W.Frag} {a b : Addr} {xs ys : List V} {n : Nat} (hn : n = min xs.length ys.length) : Walk (ItzT K a b) n (fun H => SqT K H a xs ∧ SqT K H b ys) (YPair (fun i => xs[i]?) (fun i => ys[i]?)) where
  goes := fun i _ hi q => ⟨xs, ys, xs[i]'(by omega), ys[i]'(by omega), q.1, q.2, List.getElem?_eq_getElem _, List.getElem?_eq_getElem _⟩
  stops := fun _ q => ⟨xs, ys, q.1, q.2, by omega⟩
  yields := fun i H v H' _ q y => by
    obtain ⟨T, x, z, e1, e2, e3, e4, e5⟩ := y
    exact ⟨T, x, z, e1, e2, e3, e4 _ q.1, e5 _ q.2⟩
section
variable {X : Cx}
/-- how often a datum stands in a list of data -/
def rCountD (K : PySem.W.Frag) : V → List V → Hp → VK → Prop := fun x zs H Q => ∃ (a : Addr) (y : V) (d : PyData) (ds : List PyData), x = V.ref a ∧ zs = [y] ∧ Dp K H (V.ref a) (.list ds) ∧ Dp K H y d ∧ SeqAt.shaped (.list ds) = true ∧ SeqAt.shaped d = true ∧
  Q (.int ((ds.countP fun z => PyData.eqv z d : Nat) : Int)) H
theorem mt_countD (hu : X.A.units + 65 < cLine) : MtR X "list.count" (rCountD X.K) := by
  intro pins s σ H x zs v us Q I rx rz h
  obtain ⟨a, y, d, ds, rfl, rfl, hL, hY, sL, sY, q⟩ := h
  obtain ⟨w, rfl, rw'⟩ := rz.one
  cases rx
  obtain ⟨bs, rY⟩ := Dp.reads I d y w hY rw'
  have cL : PyData.canLayAll0 ds = true := SeqAt.canLay_of_shaped sL
  cases hL with
  | lst hs hA =>
    obtain ⟨its, rv, ⟨⟨c0, d0, dat, sl0⟩, k0, hob, hcl, _, hda⟩, _⟩ := I.list hs
    dsimp only at hcl hda
    subst hcl hda
    obtain ⟨as, rA⟩ := Dp.readsAll I ds _ its hA rv
    have em : its.map (SeqAt.readOf s.heap) = ds := SeqAt.readsAll_map ds its as cL rA
    refine call_meets PySem.F.slot_list_count ⟨_, hob, rfl⟩ PySem.F.entry_list_count (PySem.F.args_list_count_2 _ _)
      (SeqAt.list_countAt a its.toArray k0 d0 sl0 w fun u => PyData.eqv (SeqAt.readOf s.heap u) d) ⟨hob, ?_, ?_⟩
    · exact SeqAt.items_eqAt (vs := its.toArray) (show ReadsAll s.heap its.toArray.toList ds as from rA) rY cL (SeqAt.canLay_of_shaped sY) (room_in_shaped sY hu)
    · refine ⟨.int (its.toArray.toList.countP fun u => PyData.eqv (SeqAt.readOf s.heap u) d : Nat), H, I.tok _, ⟨_, rfl⟩, ?_⟩
      have e : ((its.toArray.toList.countP fun u => PyData.eqv (SeqAt.readOf s.heap u) d : Nat) : Int) = ((ds.countP fun z => PyData.eqv z d : Nat) : Int) := by
        rw [← em, List.countP_map]
        rfl
      rw [e]
      exact q
end
end L2
namespace KB
open PySem PySem.Spec PyProof.Rows L2
/-- a value that is no object -/
inductive FlatD : V → PyData → Prop
  | non : FlatD .non .none
  | bl (b : Bool) : FlatD (.bl b) (.bool b)
  | int (i : Int) : FlatD (.int i) (.int i)
  | str (x : Str) : FlatD (.str x) (.str x)
/-- a value that stands for a datum: lists and tuples, each tracked, nested at most so deep -/
def Tr (H : Hp) : Nat → V → PyData → Prop
  | 0, x, d => FlatD x d
  | n + 1, x, d => FlatD x d ∨ ∃ (a : Addr) (xs : List V) (ds : List PyData), x = .ref a ∧ xs.length = ds.length ∧ ds.length ≤ 1000 ∧ ((H a = some (.lst xs) ∧ d = .list ds) ∨ (H a = some (.tup xs) ∧ d = .tuple ds)) ∧
      ∀ (i : Nat) (u : V) (e : PyData), xs[i]? = some u → ds[i]? = some e → Tr H n u e
theorem Tr.same {H H' : Hp} (k : Same H H') : ∀ {n : Nat} {x : V} {d : PyData}, Tr H n x d → Tr H' n x d
  | 0, _, _, h => h
  | n + 1, _, _, h => by
    rcases h with h | ⟨a, xs, ds, e1, e2, e3, e4, e5⟩
    · exact .inl h
    · exact .inr ⟨a, xs, ds, e1, e2, e3, e4.elim (fun z => .inl ⟨k _ _ z.1, z.2⟩) (fun z => .inr ⟨k _ _ z.1, z.2⟩), fun i u e h1 h2 => Tr.same k (e5 i u e h1 h2)⟩
theorem Tr.up {H : Hp} : ∀ {n : Nat} {x : V} {d : PyData}, Tr H n x d → Tr H (n + 1) x d
  | 0, _, _, h => .inl h
  | n + 1, _, _, h => by
    rcases h with h | ⟨a, xs, ds, e1, e2, e3, e4, e5⟩
    · exact .inl h
    · exact .inr ⟨a, xs, ds, e1, e2, e3, e4, fun i u e h1 h2 => Tr.up (e5 i u e h1 h2)⟩
theorem Tr.flat {H : Hp} {n : Nat} {x : V} {d : PyData} (h : FlatD x d) : Tr H n x d := by
  cases n with
  | zero => exact h
  | succ n => exact .inl h
theorem Tr.lst {H : Hp} {n : Nat} {a : Addr} {xs : List V} {ds : List PyData} (h : H a = some (.lst xs)) (l : xs.length = ds.length) (s : ds.length ≤ 1000) (k : ∀ (i : Nat) (u : V) (e : PyData), xs[i]? = some u → ds[i]? = some e → Tr H n u e) : Tr H (n + 1) (.ref a) (.list ds) :=
  .inr ⟨a, xs, ds, rfl, l, s, .inl ⟨h, rfl⟩, k⟩
theorem Tr.tup {H : Hp} {n : Nat} {a : Addr} {xs : List V} {ds : List PyData} (h : H a = some (.tup xs)) (l : xs.length = ds.length) (s : ds.length ≤ 1000) (k : ∀ (i : Nat) (u : V) (e : PyData), xs[i]? = some u → ds[i]? = some e → Tr H n u e) : Tr H (n + 1) (.ref a) (.tuple ds) :=
  .inr ⟨a, xs, ds, rfl, l, s, .inr ⟨h, rfl⟩, k⟩
/-- item by item -/
theorem tr_cons {H : Hp} {n : Nat} {x : V} {xs : List V} {d : PyData} {ds : List PyData} (h : Tr H n x d) (k : ∀ (i : Nat) (u : V) (e : PyData), xs[i]? = some u → ds[i]? = some e → Tr H n u e) : ∀ (i : Nat) (u : V) (e : PyData), (x :: xs)[i]? = some u → (d :: ds)[i]? = some e → Tr H n u e
  | 0, _, _, h1, h2 => by
    obtain rfl := Option.some.inj h1
    obtain rfl := Option.some.inj h2
    exact h
  | i + 1, u, e, h1, h2 => k i u e h1 h2
theorem tr_nil {H : Hp} {n : Nat} : ∀ (i : Nat) (u : V) (e : PyData), ([] : List V)[i]? = some u → ([] : List PyData)[i]? = some e → Tr H n u e := fun i u e h1 h2 => by simp at h1
theorem tr_snoc {H : Hp} {n : Nat} {x : V} {xs : List V} {d : PyData} {ds : List PyData} (l : xs.length = ds.length) (k : ∀ (i : Nat) (u : V) (e : PyData), xs[i]? = some u → ds[i]? = some e → Tr H n u e) (h : Tr H n x d) :
    ∀ (i : Nat) (u : V) (e : PyData), (xs ++ [x])[i]? = some u → (ds ++ [d])[i]? = some e → Tr H n u e := fun i u e h1 h2 => by
  by_cases hi : i < xs.length
  · rw [List.getElem?_append_left hi] at h1
    rw [List.getElem?_append_left (by omega)] at h2
    exact k i u e h1 h2
  · rw [List.getElem?_append_right (by omega)] at h1
    rw [List.getElem?_append_right (by omega)] at h2
    cases hj : i - xs.length with
    | zero =>
      rw [hj] at h1
      rw [show i - ds.length = 0 by omega] at h2
      obtain rfl := Option.some.inj h1
      obtain rfl := Option.some.inj h2
      exact h
    | succ j =>
      rw [hj] at h1
      simp at h1
theorem FlatD.dp {K : PySem.W.Frag} {H : Hp} {x : V} {d : PyData} (h : FlatD x d) : Dp K H x d := by
  cases h
  · exact .non
  · exact .bl _
  · exact .int _
  · exact .str _
theorem dpAll_of {K : PySem.W.Frag} {H : Hp} : ∀ {xs : List V} {ds : List PyData}, xs.length = ds.length → (∀ (i : Nat) (u : V) (e : PyData), xs[i]? = some u → ds[i]? = some e → Dp K H u e) → DpAll K H xs ds
  | [], [], _, _ => .nil
  | [], _ :: _, h, _ => by simp at h
  | _ :: _, [], h, _ => by simp at h
  | x :: xs, d :: ds, h, k => .cons (k 0 x d rfl rfl) (dpAll_of (by simpa using h) fun i u e h1 h2 => k (i + 1) u e h1 h2)
theorem Tr.dp {K : PySem.W.Frag} {H : Hp} : ∀ {n : Nat} {x : V} {d : PyData}, Tr H n x d → Dp K H x d
  | 0, _, _, h => FlatD.dp h
  | n + 1, _, _, h => by
    rcases h with h | ⟨a, xs, ds, rfl, e2, e3, e4, e5⟩
    · exact FlatD.dp h
    · rcases e4 with ⟨h, rfl⟩ | ⟨h, rfl⟩
      · exact .lst (SqL.of h) (dpAll_of e2 fun i u e h1 h2 => (e5 i u e h1 h2).dp)
      · exact .tup (SqT.of h) (dpAll_of e2 fun i u e h1 h2 => (e5 i u e h1 h2).dp)
/-- alike: both stand for one datum -/
def spExact (n : Nat) : Sp := fun vs H Q _ => ∃ (x y : V) (d : PyData), vs = [x, y] ∧ Tr H n x d ∧ Tr H n y d ∧ ∀ H', Same H H' → Q (.bl true) H'
theorem FlatD.ty {K : PySem.W.Frag} {H : Hp} {x : V} {d : PyData} (h : FlatD x d) : ∃ t, TyX K H x (.type t) ∧ kitB t "list" = some false ∧ kitB t "tuple" = some false ∧ kitB t "dict" = some false ∧ ∃ i b, kitB t "int" = some i ∧ kitB t "bool" = some b := by
  cases h with
  | non => exact ⟨"NoneType", .base .non, by decide +kernel, by decide +kernel, by decide +kernel, false, false, by decide +kernel, by decide +kernel⟩
  | bl b => exact ⟨"bool", .base (.bl b), by decide +kernel, by decide +kernel, by decide +kernel, true, true, by decide +kernel, by decide +kernel⟩
  | int i => exact ⟨"int", .base (.int i), by decide +kernel, by decide +kernel, by decide +kernel, true, false, by decide +kernel, by decide +kernel⟩
  | str z => exact ⟨"str", .base (.str z), by decide +kernel, by decide +kernel, by decide +kernel, false, false, by decide +kernel, by decide +kernel⟩
theorem FlatD.scal {x : V} {d : PyData} (h : FlatD x d) : scal x x = true := by
  cases h <;> rfl
theorem FlatD.eq {x y : V} {d : PyData} (h : FlatD x d) (h' : FlatD y d) : x = y := by
  cases h <;> cases h' <;> rfl
theorem FlatD.noL {x : V} {ds : List PyData} (h : FlatD x (.list ds)) : False := nomatch h
theorem FlatD.noT {x : V} {ds : List PyData} (h : FlatD x (.tuple ds)) : False := nomatch h
/-- all of a list that is true at each place -/
theorem all_bits {K : PySem.W.Frag} {n : Nat} {H : Hp} {D : Addr} (hR : H D = some (.lst ((List.range n).filterMap fun _ => some (V.bl true)))) : ∃ bs : List Bool, SqL K H D (bs.map V.bl) ∧ bs.all id = true := by
  refine ⟨List.replicate n true, ?_, ?_⟩
  · have e : ((List.range n).filterMap fun _ => some (V.bl true)) = (List.replicate n true).map V.bl := by
      rw [List.filterMap_eq_map', List.map_const', List.length_range, List.map_replicate]
    rw [e] at hR
    exact SqL.of hR
  · rw [List.all_eq_true]
    intro b hb
    exact (List.eq_of_mem_replicate hb)
end KB
set_option Elab.async false
set_option linter.all false
set_option maxRecDepth 100000
set_option maxHeartbeats 4000000
namespace K18
open PySem PySem.Spec PyProof.Rows L2 KB
abbrev FnP (K : PySem.W.Frag) (x : Str) (st : Stmt) (f : Addr) (fd : FuncData) : Prop := FunD K x x (defArgs st) (defBody st) (defScope st) [] [] f fd
abbrev sPurse : Stmt := top 41
abbrev sMixed : Stmt := top 42
abbrev sDraw : Stmt := top 43
section
variable {P : Program} {w : World} {K : PySem.W.Frag} {mg : Str → Option Value} {base : Heap} {f fM : Addr} {fd fdM : FuncData}
theorem scPurse : FnScope ["_law_script", "_law_at", "_law_seed"] ["_law_script", "_law_at"] (defScope sPurse) := ⟨rfl, rfl, rfl, by decide +kernel, rfl, by decide +kernel, by decide +kernel⟩
theorem ok_purse (F : FnP K "_law_purse" sPurse f fd) (Z : Free mg) : FnOk P w K mg base CX0 1 f fd ["_law_script", "_law_at"] (spPurse K) := by
  refine F.ok scPurse (fun vs H Q E h => ?_) (fun cdv A outer s H vs Q E hr h => ?_)
  · obtain ⟨a, ns, i, rfl, _⟩ := h
    rfl
  · obtain ⟨a, ns, i, rfl, hS, k⟩ := h
    have nd := scPurse.nd
    refine ⟨_, PSs.nox (pss_cons (ps_set (i := 2) nd rfl (Or.inl rfl) (pe_callB (cr_sum rfl) (by rfl) Z.sum (by decide +kernel) (pa_cons (pe_slice sl_list (pv 0) (po_some (pv 1)) (po_some (pe_op op_add (pv 1) pe_int))) pa_nil)))
      (pss_one (ps_ret (pe_lst (pa_cons (pe_op op_mod (pe_callTy call_int1 (by rfl) Z.int (by decide +kernel) (pa_cons (pe_callB (call_max2 rfl) (by rfl) Z.max (by decide +kernel)
          (pa_cons (pe_op op_sub (pv 2) (pe_op op_pow pe_int pe_int)) (pa_cons pe_int pa_nil))) pa_nil)) (pe_op op_powL (pe_op op_pow pe_int pe_int) pe_int))
        (pa_cons (pe_op op_mod (pe_callTy call_int1 (by rfl) Z.int (by decide +kernel) (pa_cons (pv 2) pa_nil)) pe_int) (pa_cons pe_int (pa_cons (pv 1) pa_nil)))))))), ?_⟩
    refine ⟨_, rfl, _, rfl, i, rfl, ?_⟩
    refine ⟨_, rfl, _, _, rfl, rfl, ?_⟩
    refine ⟨i + 1, rfl, a, _, rfl, hS, fun q hq => ?_⟩
    rw [cut_map]
    refine ⟨q, _, rfl, SqL.of upd_same, ?_⟩
    -- the list
    refine ⟨_, rfl, _, _, rfl, rfl, ⟨by decide, by decide, by decide⟩, _, _, rfl, rfl, ?_⟩
    refine ⟨_, _, rfl, Or.inl ⟨_, rfl, ?_⟩⟩
    refine ⟨_, _, rfl, rfl, ⟨by decide, by decide, by decide⟩, ?_⟩
    refine ⟨_, _, rfl, rfl, ⟨by decide, by decide +kernel⟩, ?_⟩
    refine ⟨_, _, rfl, rfl, (by show (0 : Int) < _; decide +kernel), ?_⟩
    refine ⟨_, rfl, Or.inl ⟨_, rfl, ?_⟩⟩
    refine ⟨_, _, rfl, rfl, (by show (0 : Int) < _; decide), ?_⟩
    refine ⟨_, rfl, (by show 4 ≤ sizeLine; decide), fun p hp => ?_⟩
    refine k p _ (Same.trans (Same.upd hq) (Same.upd hp)) ?_ ⟨_, _, 0, i, upd_same, ⟨Int.emod_nonneg _ (by decide), Int.lt_trans (Int.emod_lt_of_pos _ (by decide)) (by decide)⟩, Int.emod_nonneg _ (by decide +kernel), Int.le_refl _, Int.le_refl _⟩
    rw [upd_ne (fun e => by rw [e, upd_same] at hp; cases hp)] at hp
    exact hp
theorem scMixed : FnScope ["_law_seed", "_law_spin", "_law_at", "_law_mixed_here"] ["_law_seed", "_law_spin", "_law_at"] (defScope sMixed) := ⟨rfl, rfl, rfl, by decide +kernel, rfl, by decide +kernel, by decide +kernel⟩
theorem ok_mixed (F : FnP K "_law_mixed" sMixed f fd) (Z : Free mg) : FnOk P w K mg base CX0 1 f fd ["_law_seed", "_law_spin", "_law_at"] spMixed := by
  refine F.ok scMixed (fun vs H Q E h => ?_) (fun cdv A outer s H vs Q E hr h => ?_)
  · obtain ⟨B, c, i, rfl, _⟩ := h
    rfl
  · obtain ⟨B, c, i, rfl, ⟨hc0, hc1⟩, k⟩ := h
    have nd := scMixed.nd
    refine ⟨_, PSs.nox (pss_cons (ps_set (i := 3) nd rfl (Or.inl rfl) (pe_op op_add (pe_op op_mul (pv 0) pe_int) (pe_op op_mul (pe_op op_mul pe_int (pv 1)) (pv 1))))
      (pss_cons (ps_set (i := 3) nd rfl (Or.inl rfl) (pe_op op_mod (pe_callTy call_int1 (by rfl) Z.int (by decide +kernel) (pa_cons (pe_op op_add (pe_op op_add (pv 3) (pe_op op_mul pe_int (pv 2))) (pv 1)) pa_nil)) pe_int))
      (pss_cons (ps_set (i := 3) nd rfl (Or.inl rfl) (pe_op op_mod (pe_callTy call_int1 (by rfl) Z.int (by decide +kernel) (pa_cons (pe_op op_add (pe_op op_mul (pv 3) (pv 3)) pe_int) pa_nil)) pe_int))
      (pss_one (ps_ret (pe_op op_mod (pe_callTy call_int1 (by rfl) Z.int (by decide +kernel) (pa_cons (pe_op op_mul (pv 3) pe_int) pa_nil)) pe_int)))))), ?_⟩
    have c64 : -(2 ^ 64) < c ∧ c < 2 ^ 64 := ⟨by omega, by omega⟩
    refine ⟨_, rfl, _, _, rfl, rfl, Or.inr ⟨by decide, by decide⟩, ?_⟩
    refine ⟨_, rfl, _, _, rfl, rfl, Or.inl ⟨by decide, by decide⟩, ?_⟩
    refine ⟨_, rfl, _, _, rfl, rfl, Or.inr c64, ?_⟩
    refine ⟨_, _, rfl, rfl, ?_⟩
    refine ⟨_, rfl, _, rfl, _, _, rfl, rfl, Or.inl ⟨by decide, by decide⟩, ?_⟩
    refine ⟨_, _, rfl, rfl, _, rfl, _, _, rfl, rfl, ?_⟩
    refine Or.inl ⟨_, rfl, ?_⟩
    refine ⟨_, _, rfl, rfl, (by show (0 : Int) < _; decide), ?_⟩
    generalize hm : (B * 69069 + 104729 * c * c + 7919 * i + c) % 2147483647 = m
    have h1 : 0 ≤ m := by rw [← hm]; exact Int.emod_nonneg _ (by decide)
    have h2 : m < 2147483647 := by rw [← hm]; exact Int.emod_lt_of_pos _ (by decide)
    refine ⟨_, rfl, _, rfl, _, _, rfl, rfl, Or.inl ⟨by omega, by omega⟩, ?_⟩
    refine ⟨_, _, rfl, rfl, Or.inl ⟨_, rfl, ?_⟩⟩
    refine ⟨_, _, rfl, rfl, (by show (0 : Int) < _; decide), ?_⟩
    refine ⟨_, rfl, _, _, rfl, rfl, Or.inr ⟨by decide, by decide⟩, Or.inl ⟨_, rfl, ?_⟩⟩
    refine ⟨_, _, rfl, rfl, (by show (0 : Int) < _; decide), ?_⟩
    exact k _ (Int.emod_nonneg _ (by decide)) (Int.emod_lt_of_pos _ (by decide))
theorem scDraw : FnScope ["_law_purse_here", "_law_many", "_law_drawn", "_law_found", "_law_piece"] ["_law_purse_here", "_law_many"] (defScope sDraw) := ⟨rfl, rfl, rfl, by decide +kernel, rfl, by decide +kernel, by decide +kernel⟩
theorem ok_draw (F : FnP K "_law_draw" sDraw f fd) (Z : Free mg) (FM : FnP K "_law_mixed" sMixed fM fdM) (gM : mg "_law_mixed" = some (.ref fM)) : FnOk P w K mg base CX0 2 f fd ["_law_purse_here", "_law_many"] spDraw := by
  have GM : FnOk P w K mg base CX0 1 fM fdM ["_law_seed", "_law_spin", "_law_at"] spMixed := ok_mixed FM Z
  have bM : Binds K fdM ["_law_seed", "_law_spin", "_law_at"] [] := FM.bindsN fun _ _ _ _ _ _ us hl => match us, hl with | [_, _, _], _ => rfl
  refine F.ok scDraw (fun vs H Q E h => ?_) (fun cdv A outer s H vs Q E hr h => ?_)
  · obtain ⟨p, m, N, rfl, _⟩ := h
    rfl
  · obtain ⟨p, m, N, rfl, hm1, hm2, hP, hN, hN2, k⟩ := h
    obtain ⟨A0, B, c, i, hp, hB, hA, hc, hcN⟩ := id hP
    have nd := scDraw.nd
    refine ⟨_, PSs.nox (pss_cons (ps_if (pt_cmpR op_gt (pe_ix ix_list (pv 0) pe_int (fun _ _ => rfl)) pe_int (nomark _))
        (pss_cons (ps_set (i := 2) nd rfl (Or.inl rfl) (pe_op op_mod (pe_callTy call_int1 (by rfl) Z.int (by decide +kernel) (pa_cons (pe_ix ix_list (pv 0) pe_int (fun _ _ => rfl)) pa_nil)) (pv 1)))
        (pss_cons (ps_asg (pe_op op_fdivW (pe_ix ix_list (pv 0) pe_int (fun _ _ => rfl)) (pv 1)) (pg_sub (pv 0) pe_int set_list))
        (pss_one (ps_ret (pv 2))))) pss_nil)
      (pss_cons (ps_set (i := 3) nd rfl (Or.inl rfl) pe_int)
      (pss_cons (ps_for PassesOwn.never rfl (pi_range1 rfl Z.range (pa_cons (pe_op op_add pe_int (pe_op op_fdiv (pe_bits (pv 1)) pe_int)) pa_nil)) (pg_name (i := 4) nd rfl (Or.inl rfl))
        (pss_cons (ps_asg (pe_op op_add (pe_ix ix_list (pv 0) pe_int (fun _ _ => rfl)) pe_int) (pg_sub (pv 0) pe_int set_list))
        (pss_one (ps_set (i := 3) nd rfl (Or.inl rfl) (pe_op op_add (pe_op op_mul (pv 3) pe_int) (pe_call GM hr rfl gM FM.kp bM .nil pass0
          (pa_cons (pe_ix ix_list (pv 0) pe_int (fun _ _ => rfl)) (pa_cons (pe_ix ix_list (pv 0) pe_int (fun _ _ => rfl)) (pa_cons (pe_ix ix_list (pv 0) pe_int (fun _ _ => rfl)) pa_nil)))))))))
      (pss_one (ps_ret (pe_op op_mod (pe_callTy call_int1 (by rfl) Z.int (by decide +kernel) (pa_cons (pv 3) pa_nil)) (pv 1))))))), ?_⟩
    -- if purse[0] > 0
    refine ⟨_, rfl, p, _, 0, .int A0, rfl, rfl, SqL.of hp, rfl, ?_⟩
    refine ⟨_, _, rfl, rfl, _, rfl, ?_⟩
    refine ite2 (fun hpos => ?_) (fun hneg => ?_)
    · refine ⟨_, rfl, p, _, 0, .int A0, rfl, rfl, SqL.of hp, rfl, Or.inl ⟨_, rfl, ?_⟩⟩
      refine ⟨_, rfl, _, _, rfl, rfl, (by show (0 : Int) < m; omega), ?_⟩
      refine ⟨_, rfl, p, _, 0, .int A0, rfl, rfl, SqL.of hp, rfl, ?_⟩
      refine ⟨_, rfl, _, _, rfl, rfl, ⟨by omega, hm2⟩, ?_⟩
      refine ⟨_, rfl, p, _, 0, 0, rfl, rfl, hp, rfl, ?_⟩
      refine ⟨_, rfl, ?_⟩
      refine k _ _ (Int.emod_nonneg _ (by omega)) (Int.emod_lt_of_pos _ (by omega)) But.upd ⟨A0 / m, B, c, i, upd_same, hB, Int.ediv_nonneg hA (by omega), hc, by omega⟩
    · -- found = 0; for piece in range(..)
      have hb : (0 : Int) ≤ 1 + (Builtin.Int.intBits m : Int) / 28 := by omega
      have hM : ((mixes m : Nat) : Int) = 1 + (Builtin.Int.intBits m : Int) / 28 := by
        unfold mixes
        exact Int.toNat_of_nonneg hb
      refine ⟨_, rfl, _, rfl, _, _, rfl, rfl, ⟨by decide, by decide⟩, _, _, rfl, rfl, ?_⟩
      refine ⟨1 + (Builtin.Int.intBits m : Int) / 28, rfl, by omega, by omega, ?_⟩
      refine for_range (lo := 0) (n := (1 + (Builtin.Int.intBits m : Int) / 28).toNat) (fun j σ H2 => ∃ (g : Int) (v2 v4 : Option V), σ = [some (.ref p), some (.int m), v2, some (.int g), v4] ∧ But p H H2 ∧
          ∃ c' : Int, H2 p = some (.lst [.int A0, .int B, .int c', .int i]) ∧ 0 ≤ c' ∧ c' ≤ (N : Int) + (j : Int))
        ⟨0, none, none, rfl, But.refl _ _, c, hp, hc, by omega⟩ ?_ ?_
      · rintro j σ H2 hj ⟨g, v2, v4, rfl, kb, c', hp2, h0, h1⟩
        have hj2 : (j : Int) < 2 ^ 50 := by
          have : j < mixes m := hj
          omega
        refine ⟨_, rfl, p, _, 2, .int c', rfl, rfl, SqL.of hp2, rfl, ?_⟩
        refine ⟨_, _, rfl, rfl, ?_⟩
        refine ⟨_, rfl, p, _, 2, 2, rfl, rfl, hp2, rfl, ?_⟩
        have hp3 : (L2.upd H2 p (.lst (List.set [V.int A0, .int B, .int c', .int i] 2 (.int (c' + 1))))) p = some (.lst [.int A0, .int B, .int (c' + 1), .int i]) := upd_same
        refine ⟨_, rfl, _, _, rfl, rfl, Or.inr ⟨by decide, by decide⟩, ?_⟩
        refine ⟨_, rfl, p, _, 1, .int B, rfl, rfl, SqL.of hp3, rfl, ?_⟩
        refine ⟨_, rfl, p, _, 2, .int (c' + 1), rfl, rfl, SqL.of hp3, rfl, ?_⟩
        refine ⟨_, rfl, p, _, 3, .int i, rfl, rfl, SqL.of hp3, rfl, ?_⟩
        refine ⟨B, c' + 1, i, rfl, ⟨by omega, by omega⟩, fun r hr0 hr1 => ?_⟩
        refine ⟨_, _, rfl, rfl, ?_⟩
        exact ⟨_, v2, _, rfl, But.trans kb But.upd, c' + 1, hp3, by omega, by omega⟩
      · rintro σ H2 ⟨g, v2, v4, rfl, kb, c', hp2, h0, h1⟩
        refine ⟨_, rfl, Or.inl ⟨_, rfl, ?_⟩⟩
        refine ⟨_, rfl, _, _, rfl, rfl, (by show (0 : Int) < m; omega), ?_⟩
        refine k _ _ (Int.emod_nonneg _ (by omega)) (Int.emod_lt_of_pos _ (by omega)) kb ⟨A0, B, c', i, hp2, hB, hA, h0, ?_⟩
        have : ((N + mixes m : Nat) : Int) = (N : Int) + (mixes m : Int) := by omega
        rw [this]
        exact h1
end
abbrev s_purse := sPurse
abbrev s_mixed := sMixed
abbrev s_draw := sDraw
end K18
set_option linter.all false
/-! Stabbing stretches by moments: theory alone. -/
namespace K18
/-- a moment serves a stretch -/
def stab (p : Nat) (w : Nat × Nat) : Bool := decide (w.1 < p) && decide (p ≤ w.2)
theorem stab_iff {p : Nat} {w : Nat × Nat} : stab p w = true ↔ w.1 < p ∧ p ≤ w.2 := by
  unfold stab
  rw [Bool.and_eq_true, decide_eq_true_eq, decide_eq_true_eq]
def served (ws : List (Nat × Nat)) (P : List Nat) : Bool := ws.all fun w => P.any fun p => stab p w
theorem served_iff {ws : List (Nat × Nat)} {P : List Nat} : served ws P = true ↔ ∀ w ∈ ws, ∃ p ∈ P, w.1 < p ∧ p ≤ w.2 := by
  unfold served
  rw [List.all_eq_true]
  refine forall_congr' fun w => imp_congr_right fun _ => ?_
  rw [List.any_eq_true]
  exact ⟨fun ⟨p, h, s⟩ => ⟨p, h, stab_iff.mp s⟩, fun ⟨p, h, s⟩ => ⟨p, h, stab_iff.mpr s⟩⟩
/-- stretches apart, picked from those in the order of their ends -/
def greedy : Nat → List (Nat × Nat) → List (Nat × Nat)
  | _, [] => []
  | z, w :: r => if z ≤ w.1 then w :: greedy w.2 r else greedy z r
def byEnd (ws : List (Nat × Nat)) : List (Nat × Nat) := ws.mergeSort fun u v => decide (u.2 ≤ v.2)
def apart (ws : List (Nat × Nat)) : List (Nat × Nat) := greedy 0 (byEnd ws)
def ends (ws : List (Nat × Nat)) : List Nat := (apart ws).map (·.2)
theorem greedy_sub : ∀ (ws : List (Nat × Nat)) (z : Nat), (greedy z ws).Sublist ws
  | [], _ => List.Sublist.refl _
  | w :: r, z => by
    unfold greedy
    split
    · exact (greedy_sub r _).cons_cons w
    · exact (greedy_sub r z).cons w
theorem byEnd_sorted (ws : List (Nat × Nat)) : (byEnd ws).Pairwise fun u v => u.2 ≤ v.2 := by
  have h := List.pairwise_mergeSort (le := fun u v : Nat × Nat => decide (u.2 ≤ v.2)) (fun a b c h1 h2 => by
    simp only [decide_eq_true_eq] at *
    omega) (fun a b => by
    simp only [Bool.or_eq_true, decide_eq_true_eq]
    omega) ws
  exact h.imp fun h => of_decide_eq_true h
theorem byEnd_mem {ws : List (Nat × Nat)} {w : Nat × Nat} : w ∈ byEnd ws ↔ w ∈ ws := List.mem_mergeSort
theorem greedy_stabs : ∀ {ws : List (Nat × Nat)} {z : Nat}, (∀ w ∈ ws, w.1 < w.2) → ws.Pairwise (fun u v => u.2 ≤ v.2) → ∀ w ∈ ws, w.1 < z ∨ ∃ g ∈ greedy z ws, w.1 < g.2 ∧ g.2 ≤ w.2
  | [], _, _, _, w, h => nomatch h
  | x :: r, z, hl, hp, w, hw => by
    obtain ⟨h1, h2⟩ := List.pairwise_cons.mp hp
    have hl' : ∀ w ∈ r, w.1 < w.2 := fun w h => hl w (.tail _ h)
    unfold greedy
    by_cases hz : z ≤ x.1
    · rw [if_pos hz]
      rcases List.mem_cons.mp hw with rfl | hw
      · exact .inr ⟨w, .head _, hl w (.head _), Nat.le_refl _⟩
      · rcases greedy_stabs (z := x.2) hl' h2 w hw with h | ⟨g, hg, q⟩
        · exact .inr ⟨x, .head _, h, h1 w hw⟩
        · exact .inr ⟨g, .tail _ hg, q⟩
    · rw [if_neg hz]
      rcases List.mem_cons.mp hw with rfl | hw
      · exact .inl (by omega)
      · exact greedy_stabs hl' h2 w hw
/-- one behind the other -/
def Chain : Nat → List (Nat × Nat) → Prop
  | _, [] => True
  | z, w :: r => z ≤ w.1 ∧ w.1 < w.2 ∧ Chain w.2 r
theorem greedy_chain : ∀ {ws : List (Nat × Nat)} {z : Nat}, (∀ w ∈ ws, w.1 < w.2) → Chain z (greedy z ws)
  | [], _, _ => trivial
  | x :: r, z, hl => by
    have hl' : ∀ w ∈ r, w.1 < w.2 := fun w h => hl w (.tail _ h)
    unfold greedy
    by_cases hz : z ≤ x.1
    · rw [if_pos hz]
      exact ⟨hz, hl x (.head _), greedy_chain hl'⟩
    · rw [if_neg hz]
      exact greedy_chain hl'
theorem chain_mono : ∀ {G : List (Nat × Nat)} {z y : Nat}, y ≤ z → Chain z G → Chain y G
  | [], _, _, _, _ => trivial
  | w :: r, z, y, h, ⟨a, b, c⟩ => ⟨by omega, b, c⟩
theorem chain_lt : ∀ {G : List (Nat × Nat)} {z : Nat}, Chain z G → ∀ g ∈ G, z ≤ g.1 ∧ g.1 < g.2
  | [], _, _, g, h => nomatch h
  | w :: r, z, ⟨a, b, c⟩, g, h => by
    rcases List.mem_cons.mp h with rfl | h
    · exact ⟨a, b⟩
    · have := chain_lt c g h
      exact ⟨by omega, this.2⟩
theorem chain_ends : ∀ {G : List (Nat × Nat)} {z : Nat}, Chain z G → (G.map (·.2)).Pairwise (· < ·)
  | [], _, _ => .nil
  | w :: r, z, ⟨a, b, c⟩ => by
    rw [List.map_cons, List.pairwise_cons]
    refine ⟨fun q hq => ?_, chain_ends c⟩
    obtain ⟨g, hg, rfl⟩ := List.mem_map.mp hq
    have := chain_lt c g hg
    omega
/-- ascending moments that serve a chain: as many, and none behind the chain's ends -/
theorem chain_le : ∀ {G : List (Nat × Nat)} {P : List Nat} {z : Nat}, Chain z G → P.Pairwise (· < ·) → (∀ g ∈ G, ∃ p ∈ P, g.1 < p ∧ p ≤ g.2) →
    G.length ≤ P.length ∧ (P.length = G.length → ∀ (i p : Nat) (g : Nat × Nat), P[i]? = some p → G[i]? = some g → p ≤ g.2)
  | [], P, _, _, _, _ => ⟨Nat.zero_le _, fun _ i p g _ h => by simp at h⟩
  | g :: r, [], _, _, _, hs => by
    obtain ⟨p, h, _⟩ := hs g (.head _)
    cases h
  | g :: r, x :: P, z, hc, hp, hs => by
    obtain ⟨h1, h2⟩ := List.pairwise_cons.mp hp
    obtain ⟨c1, c2, c3⟩ := hc
    by_cases hx : g.1 < x
    · have hx2 : x ≤ g.2 := by
        obtain ⟨p, hp, q⟩ := hs g (.head _)
        rcases List.mem_cons.mp hp with rfl | hp
        · exact q.2
        · have := h1 p hp
          omega
      obtain ⟨a, b⟩ := chain_le (P := P) c3 h2 fun g' hg' => by
        obtain ⟨p, hp, q⟩ := hs g' (.tail _ hg')
        have := chain_lt c3 g' hg'
        rcases List.mem_cons.mp hp with rfl | hp
        · omega
        · exact ⟨p, hp, q⟩
      refine ⟨by rw [List.length_cons, List.length_cons]; omega, fun e i p g' e1 e2 => ?_⟩
      cases i with
      | zero => cases e1; cases e2; exact hx2
      | succ i => exact b (by rw [List.length_cons, List.length_cons] at e; omega) i p g' e1 e2
    · have hs' : ∀ g' ∈ g :: r, ∃ p ∈ P, g'.1 < p ∧ p ≤ g'.2 := fun g' hg' => by
        obtain ⟨p, hp, q⟩ := hs g' hg'
        rcases List.mem_cons.mp hp with rfl | hp
        · rcases List.mem_cons.mp hg' with rfl | hg'
          · omega
          · have := chain_lt c3 g' hg'
            omega
        · exact ⟨p, hp, q⟩
      obtain ⟨a, b⟩ := chain_le (G := g :: r) (P := P) (z := z) ⟨c1, c2, c3⟩ h2 hs'
      rw [List.length_cons] at a
      exact ⟨by rw [List.length_cons, List.length_cons]; omega, fun e => by rw [List.length_cons, List.length_cons] at e; omega⟩
termination_by G P => G.length + P.length
section
variable {ws : List (Nat × Nat)} (hl : ∀ w ∈ ws, w.1 < w.2)
include hl
theorem apart_chain : Chain 0 (apart ws) := greedy_chain fun w h => hl w (byEnd_mem.mp h)
theorem ends_serve : served ws (ends ws) = true := by
  rw [served_iff]
  intro w hw
  rcases greedy_stabs (z := 0) (fun w h => hl w (byEnd_mem.mp h)) (byEnd_sorted ws) w (byEnd_mem.mpr hw) with h | ⟨g, hg, q⟩
  · omega
  · exact ⟨g.2, List.mem_map.mpr ⟨g, hg, rfl⟩, q⟩
theorem apart_mem {g : Nat × Nat} (h : g ∈ apart ws) : g ∈ ws := byEnd_mem.mp ((greedy_sub _ 0).subset h)
theorem ends_asc : (ends ws).Pairwise (· < ·) := chain_ends (apart_chain hl)
theorem ends_least {P : List Nat} (hp : P.Pairwise (· < ·)) (hs : served ws P = true) : (ends ws).length ≤ P.length ∧ (P.length = (ends ws).length → ∀ (i p q : Nat), P[i]? = some p → (ends ws)[i]? = some q → p ≤ q) := by
  have h := chain_le (apart_chain hl) hp fun g hg => served_iff.mp hs g (apart_mem hl hg)
  unfold ends
  rw [List.length_map]
  refine ⟨h.1, fun e i p q e1 e2 => ?_⟩
  rw [List.getElem?_map] at e2
  cases hg : (apart ws)[i]? with
  | none => rw [hg] at e2; cases e2
  | some g =>
    rw [hg] at e2
    cases e2
    exact h.2 e i p g e1 hg
end
end K18
set_option linter.all false
/-! Runs: barriers put in and left out: theory alone. -/
namespace K18
/-- an event of a run -/
inductive Ev where
  | wr (c : Nat)
  | bar
  | tell
deriving DecidableEq
def isB (es : List Ev) (i : Nat) : Bool := decide (es[i]? = some .bar)
def bars (es : List Ev) : List Nat := (List.range es.length).filter (isB es)
/-- how many barriers stand ahead of a place -/
def ahead (es : List Ev) (i : Nat) : Nat := (es.take i).countP fun e => decide (e = .bar)
theorem ahead_zero (es : List Ev) : ahead es 0 = 0 := rfl
theorem ahead_succ (es : List Ev) (i : Nat) : ahead es (i + 1) = ahead es i + (if isB es i = true then 1 else 0) := by
  unfold ahead isB
  rw [List.take_succ, List.countP_append]
  congr 1
  cases es[i]? with
  | none => rfl
  | some e =>
    show List.countP _ [e] = _
    rw [List.countP_cons, List.countP_nil]
    by_cases h : e = .bar
    · subst h
      rfl
    · simp [h]
theorem ahead_mono (es : List Ev) {a b : Nat} (h : a ≤ b) : ahead es a ≤ ahead es b := by
  induction b with
  | zero =>
    obtain rfl : a = 0 := by omega
    exact Nat.le_refl _
  | succ b ih =>
    by_cases e : a = b + 1
    · rw [e]; exact Nat.le_refl _
    · rw [ahead_succ]
      have := ih (by omega)
      omega
theorem isB_lt {es : List Ev} {i : Nat} (h : isB es i = true) : i < es.length := by
  unfold isB at h
  have := of_decide_eq_true h
  rcases Nat.lt_or_ge i es.length with q | q
  · exact q
  · rw [List.getElem?_eq_none q] at this
    cases this
theorem ahead_lt {es : List Ev} {a b : Nat} : ahead es a < ahead es b ↔ ∃ i, a ≤ i ∧ i < b ∧ isB es i = true := by
  constructor
  · intro h
    induction b with
    | zero =>
      rw [ahead_zero] at h
      omega
    | succ b ih =>
      by_cases q : isB es b = true
      · by_cases hab : a ≤ b
        · exact ⟨b, hab, by omega, q⟩
        · have := ahead_mono es (show b + 1 ≤ a by omega)
          omega
      · rw [ahead_succ, if_neg q] at h
        obtain ⟨i, h1, h2, h3⟩ := ih h
        exact ⟨i, h1, by omega, h3⟩
  · rintro ⟨i, h1, h2, h3⟩
    have q1 := ahead_mono es h1
    have q2 := ahead_mono es (show i + 1 ≤ b by omega)
    rw [ahead_succ, if_pos h3] at q2
    omega
theorem range_filter_len (es : List Ev) : ∀ i, ((List.range i).filter (isB es)).length = ahead es i
  | 0 => rfl
  | i + 1 => by
    rw [List.range_succ, List.filter_append, List.length_append, range_filter_len es i, ahead_succ]
    by_cases q : isB es i = true
    · rw [if_pos q, List.filter_cons, if_pos q]
      rfl
    · rw [if_neg q, List.filter_cons, if_neg q]
      rfl
theorem bars_len (es : List Ev) : (bars es).length = ahead es es.length := range_filter_len es _
theorem bars_get {es : List Ev} {p : Nat} (h : isB es p = true) : (bars es)[ahead es p]? = some p := by
  have hl := isB_lt h
  unfold bars
  have e : List.range es.length = List.range p ++ (p :: (List.range (es.length - p - 1)).map (· + (p + 1))) := by
    apply List.ext_getElem
    · simp
      omega
    · intro i h1 h2
      rw [List.getElem_range]
      rcases Nat.lt_or_ge i p with q | q
      · rw [List.getElem_append_left (by simpa using q), List.getElem_range]
      · rw [List.getElem_append_right (by simpa using q)]
        simp only [List.length_range]
        rcases Nat.lt_or_ge p i with q2 | q2
        · obtain ⟨k, rfl⟩ : ∃ k, i = p + (k + 1) := ⟨i - p - 1, by omega⟩
          simp only [show p + (k + 1) - p = k + 1 by omega, List.getElem_cons_succ, List.getElem_map, List.getElem_range]
          omega
        · obtain rfl : i = p := by omega
          simp
  rw [e, List.filter_append, List.filter_cons, if_pos h, List.getElem?_append_right (by rw [range_filter_len]; exact Nat.le_refl _), range_filter_len, Nat.sub_self]
  rfl
theorem mem_bars {es : List Ev} {p : Nat} : p ∈ bars es ↔ isB es p = true := by
  unfold bars
  rw [List.mem_filter, List.mem_range]
  exact ⟨fun h => h.2, fun h => ⟨isB_lt h, h⟩⟩
theorem bars_asc (es : List Ev) : (bars es).Pairwise (· < ·) := List.Pairwise.filter _ List.pairwise_lt_range
/-- a wait of a run -/
structure WaitOk (es : List Ev) (w : Nat × Nat) : Prop where
  lt : w.1 < w.2
  len : w.2 < es.length
  ev : ∃ c, es[w.1]? = some (.wr c) ∧ (es[w.2]? = some .tell ∨ ∃ c', es[w.2]? = some (.wr c') ∧ c' ≠ c)
theorem WaitOk.fst {es : List Ev} {w : Nat × Nat} (h : WaitOk es w) : isB es w.1 = false := by
  obtain ⟨c, h, _⟩ := h.ev
  unfold isB
  rw [h]
  rfl
theorem WaitOk.snd {es : List Ev} {w : Nat × Nat} (h : WaitOk es w) : isB es w.2 = false := by
  obtain ⟨c, _, h | ⟨c', h, _⟩⟩ := h.ev <;> (unfold isB; rw [h]; rfl)
def lexP (u v : Nat × Nat) : Prop := u.1 < v.1 ∨ u.1 = v.1 ∧ u.2 < v.2
structure WaitsOk (es : List Ev) (ws : List (Nat × Nat)) : Prop where
  ok : ∀ w ∈ ws, WaitOk es w
  asc : ws.Pairwise lexP
def keptL (es : List Ev) (ws : List (Nat × Nat)) : List (Nat × Nat) := ws.filter fun w => decide (ahead es w.1 < ahead es w.2)
def brokenL (es : List Ev) (ws : List (Nat × Nat)) : List (Nat × Nat) := ws.filter fun w => decide (ahead es w.1 = ahead es w.2)
/-! barriers put in -/
def wr (es : List Ev) (P : List Nat) : Nat → List Ev
  | 0 => []
  | i + 1 => wr es P i ++ (if P.contains i then [Ev.bar] else []) ++ es[i]?.toList
def pre (es : List Ev) (P : List Nat) (i : Nat) : List Ev := wr es P i ++ (if P.contains i then [Ev.bar] else [])
theorem wr_succ (es : List Ev) (P : List Nat) (i : Nat) : wr es P (i + 1) = pre es P i ++ es[i]?.toList := rfl
/-- the new place -/
def sent (P : List Nat) (i : Nat) : Nat := i + (P.filter fun p => decide (p < i + 1)).length
theorem cnt_succ {P : List Nat} (nd : P.Nodup) (i : Nat) : (P.filter fun p => decide (p < i + 1)).length = (P.filter fun p => decide (p < i)).length + (if P.contains i then [Ev.bar] else []).length := by
  induction P with
  | nil => rfl
  | cons x r ih =>
    obtain ⟨h1, h2⟩ := List.nodup_cons.mp nd
    have ih := ih h2
    rw [List.filter_cons, List.filter_cons, List.contains_cons]
    by_cases e : x = i
    · subst e
      have hc : r.contains x = false := by
        rw [← Bool.not_eq_true, List.contains_iff_mem]
        exact h1
      rw [hc] at ih
      simp at ih ⊢
      omega
    · have e2 : (i == x) = false := by
        rw [beq_eq_false_iff_ne]
        exact fun z => e z.symm
      rw [e2, Bool.false_or]
      by_cases l : x < i
      · rw [if_pos (decide_eq_true (show x < i + 1 by omega)), if_pos (decide_eq_true l), List.length_cons, List.length_cons, ih]
        omega
      · rw [if_neg (by rw [decide_eq_true_eq]; omega), if_neg (by rw [decide_eq_true_eq]; omega), ih]
theorem wr_len {es : List Ev} {P : List Nat} (nd : P.Nodup) : ∀ i, i ≤ es.length → (wr es P i).length = i + (P.filter fun p => decide (p < i)).length
  | 0, _ => by
    show 0 = 0 + _
    rw [List.filter_eq_nil_iff.mpr (fun p _ => by rw [decide_eq_true_eq]; omega)]
    rfl
  | i + 1, h => by
    rw [wr_succ, List.length_append, List.getElem?_eq_getElem (by omega)]
    unfold pre
    rw [List.length_append, wr_len nd i (by omega), cnt_succ nd i]
    show _ + 1 = _
    omega
theorem pre_len {es : List Ev} {P : List Nat} (nd : P.Nodup) {i : Nat} (h : i ≤ es.length) : (pre es P i).length = sent P i := by
  unfold pre sent
  rw [List.length_append, wr_len nd i h, cnt_succ nd i]
  omega
theorem wr_pre {es : List Ev} {P : List Nat} {i : Nat} : ∀ {n : Nat}, i ≤ n → ∃ r, wr es P n = wr es P i ++ r
  | n, h => by
    induction n with
    | zero =>
      obtain rfl : i = 0 := by omega
      exact ⟨[], rfl⟩
    | succ n ih =>
      by_cases e : i = n + 1
      · subst e
        exact ⟨[], (List.append_nil _).symm⟩
      · obtain ⟨r, hr⟩ := ih (by omega)
        exact ⟨r ++ (if P.contains n then [Ev.bar] else []) ++ es[n]?.toList, by rw [wr_succ]; unfold pre; rw [hr]; simp [List.append_assoc]⟩
theorem pre_pre {es : List Ev} {P : List Nat} {i n : Nat} (h : i < n) : ∃ r, wr es P n = pre es P i ++ (es[i]?.toList ++ r) := by
  obtain ⟨r, hr⟩ := wr_pre (es := es) (P := P) (show i + 1 ≤ n from h)
  exact ⟨r, by rw [hr, wr_succ, List.append_assoc]⟩
theorem wr_get {es : List Ev} {P : List Nat} (nd : P.Nodup) {i : Nat} (h : i < es.length) : (wr es P es.length)[sent P i]? = es[i]? := by
  obtain ⟨r, hr⟩ := pre_pre (es := es) (P := P) h
  rw [hr, ← pre_len nd (Nat.le_of_lt h), List.getElem?_append_right (Nat.le_refl _), Nat.sub_self, List.getElem?_eq_getElem h]
  rfl
theorem count_wr {es : List Ev} {P : List Nat} (nd : P.Nodup) : ∀ i, (wr es P i).countP (fun e => decide (e = .bar)) = ahead es i + (P.filter fun p => decide (p < i)).length
  | 0 => by
    show 0 = 0 + _
    rw [List.filter_eq_nil_iff.mpr (fun p _ => by rw [decide_eq_true_eq]; omega)]
    rfl
  | i + 1 => by
    rw [wr_succ, List.countP_append]
    unfold pre
    rw [List.countP_append, count_wr nd i, cnt_succ nd i, ahead_succ]
    have e1 : (if P.contains i then [Ev.bar] else []).countP (fun e => decide (e = .bar)) = (if P.contains i then [Ev.bar] else []).length := by
      cases P.contains i <;> rfl
    have e2 : (es[i]?.toList).countP (fun e => decide (e = .bar)) = if isB es i = true then 1 else 0 := by
      unfold isB
      cases es[i]? with
      | none => rfl
      | some e => cases e <;> rfl
    rw [e1, e2]
    omega
theorem ahead_wr {es : List Ev} {P : List Nat} (nd : P.Nodup) {i : Nat} (h : i < es.length) : ahead (wr es P es.length) (sent P i) = ahead es i + (P.filter fun p => decide (p < i + 1)).length := by
  obtain ⟨r, hr⟩ := pre_pre (es := es) (P := P) h
  unfold ahead
  rw [hr, ← pre_len nd (Nat.le_of_lt h), List.take_left]
  unfold pre
  rw [List.countP_append, count_wr nd i, cnt_succ nd i]
  have e1 : (if P.contains i then [Ev.bar] else []).countP (fun e => decide (e = .bar)) = (if P.contains i then [Ev.bar] else []).length := by
    cases P.contains i <;> rfl
  rw [e1]
  show ahead es i + _ + _ = ahead es i + _
  omega
theorem cnt_mono {P : List Nat} {a b : Nat} (h : a ≤ b) : (P.filter fun p => decide (p < a)).length ≤ (P.filter fun p => decide (p < b)).length := by
  induction P with
  | nil => exact Nat.le_refl _
  | cons x r ih =>
    rw [List.filter_cons, List.filter_cons]
    by_cases l : x < a
    · rw [if_pos (decide_eq_true l), if_pos (decide_eq_true (show x < b by omega)), List.length_cons, List.length_cons]
      omega
    · rw [if_neg (by rw [decide_eq_true_eq]; omega)]
      split
      · rw [List.length_cons]
        omega
      · exact ih
theorem cnt_lt {P : List Nat} {a b p : Nat} (hp : p ∈ P) (h1 : a ≤ p) (h2 : p < b) : (P.filter fun p => decide (p < a)).length < (P.filter fun p => decide (p < b)).length := by
  induction P with
  | nil => cases hp
  | cons x r ih =>
    rw [List.filter_cons, List.filter_cons]
    rcases List.mem_cons.mp hp with rfl | m
    · rw [if_neg (by rw [decide_eq_true_eq]; omega), if_pos (decide_eq_true h2), List.length_cons]
      have := cnt_mono (P := r) (show a ≤ b by omega)
      omega
    · have := ih m
      by_cases l : x < a
      · rw [if_pos (decide_eq_true l), if_pos (decide_eq_true (show x < b by omega)), List.length_cons, List.length_cons]
        omega
      · rw [if_neg (by rw [decide_eq_true_eq]; omega)]
        split
        · rw [List.length_cons]
          omega
        · exact this
theorem sent_lt {P : List Nat} {a b : Nat} (h : a < b) : sent P a < sent P b := by
  unfold sent
  have := cnt_mono (P := P) (show a + 1 ≤ b + 1 by omega)
  omega
theorem sent_le_len {es : List Ev} {P : List Nat} (nd : P.Nodup) {i : Nat} (h : i < es.length) : sent P i < (wr es P es.length).length := by
  have e := wr_get nd h
  rcases Nat.lt_or_ge (sent P i) (wr es P es.length).length with q | q
  · exact q
  · rw [List.getElem?_eq_none q, List.getElem?_eq_getElem h] at e
    cases e
def movedL (P : List Nat) (ws : List (Nat × Nat)) : List (Nat × Nat) := ws.map fun w => (sent P w.1, sent P w.2)
theorem waits_wr {es : List Ev} {P : List Nat} {ws : List (Nat × Nat)} (nd : P.Nodup) (h : WaitsOk es ws) : WaitsOk (wr es P es.length) (movedL P ws) := by
  refine ⟨fun v hv => ?_, ?_⟩
  · obtain ⟨w, hw, rfl⟩ := List.mem_map.mp hv
    have ok := h.ok w hw
    have l1 := ok.lt
    have l2 := ok.len
    refine ⟨sent_lt l1, sent_le_len nd l2, ?_⟩
    show ∃ c, (wr es P es.length)[sent P w.1]? = _ ∧ ((wr es P es.length)[sent P w.2]? = _ ∨ ∃ c', (wr es P es.length)[sent P w.2]? = _ ∧ _)
    rw [wr_get nd (show w.1 < es.length by omega), wr_get nd l2]
    exact ok.ev
  · unfold movedL
    rw [List.pairwise_map]
    refine h.asc.imp fun {u v} q => ?_
    rcases q with q | ⟨q1, q2⟩
    · exact .inl (sent_lt q)
    · exact .inr ⟨by show sent P u.1 = sent P v.1; rw [q1], sent_lt q2⟩
/-- all are kept when each stretch of a broken one has a new barrier -/
theorem none_broken {es : List Ev} {P : List Nat} {ws : List (Nat × Nat)} (nd : P.Nodup) (h : WaitsOk es ws) (hs : ∀ w ∈ brokenL es ws, ∃ p ∈ P, w.1 < p ∧ p ≤ w.2) : brokenL (wr es P es.length) (movedL P ws) = [] := by
  unfold brokenL movedL
  rw [List.filter_eq_nil_iff]
  intro v hv
  obtain ⟨w, hw, rfl⟩ := List.mem_map.mp hv
  have ok := h.ok w hw
  have l1 := ok.lt
  have l2 := ok.len
  rw [decide_eq_true_eq]
  show ¬ ahead (wr es P es.length) (sent P w.1) = ahead (wr es P es.length) (sent P w.2)
  rw [ahead_wr nd (by omega), ahead_wr nd l2]
  have m1 := ahead_mono es (Nat.le_of_lt l1)
  have m2 := cnt_mono (P := P) (show w.1 + 1 ≤ w.2 + 1 by omega)
  by_cases e : ahead es w.1 = ahead es w.2
  · obtain ⟨p, hp, q1, q2⟩ := hs w (List.mem_filter.mpr ⟨hw, decide_eq_true e⟩)
    have := cnt_lt hp (show w.1 + 1 ≤ p from q1) (show p < w.2 + 1 by omega)
    omega
  · omega
/-! barriers left out -/
def exB' (es : List Ev) (w : Nat × Nat) (f : Nat → Bool) : Bool := (List.range (w.2 - w.1)).any fun k => isB es (w.1 + k) && f (w.1 + k)
theorem exB_iff {es : List Ev} {w : Nat × Nat} {f : Nat → Bool} : exB' es w f = true ↔ ∃ i, w.1 ≤ i ∧ i < w.2 ∧ isB es i = true ∧ f i = true := by
  unfold exB'
  rw [List.any_eq_true]
  constructor
  · rintro ⟨k, hk, h⟩
    have hk := List.mem_range.mp hk
    rw [Bool.and_eq_true] at h
    exact ⟨w.1 + k, by omega, by omega, h.1, h.2⟩
  · rintro ⟨i, h1, h2, h3, h4⟩
    refine ⟨i - w.1, List.mem_range.mpr (by omega), ?_⟩
    rw [show w.1 + (i - w.1) = i by omega, h3, h4]
    rfl
/-- what is kept stays kept when these are gone -/
def keptB (es : List Ev) (ws : List (Nat × Nat)) (gone : List Nat) : Bool := ws.all fun w => !exB' es w (fun _ => true) || exB' es w (fun i => !gone.contains i)
theorem keptB_iff {es : List Ev} {ws : List (Nat × Nat)} {gone : List Nat} : keptB es ws gone = true ↔ ∀ w ∈ ws, ahead es w.1 < ahead es w.2 → ∃ i, w.1 ≤ i ∧ i < w.2 ∧ isB es i = true ∧ i ∉ gone := by
  unfold keptB
  rw [List.all_eq_true]
  refine forall_congr' fun w => imp_congr_right fun _ => ?_
  rw [Bool.or_eq_true, Bool.not_eq_true', exB_iff]
  have e : exB' es w (fun _ => true) = true ↔ ahead es w.1 < ahead es w.2 := by
    rw [exB_iff, ahead_lt]
    simp
  have e2 : ∀ i, ((!gone.contains i) = true ↔ i ∉ gone) := fun i => by
    rw [Bool.not_eq_true', ← Bool.not_eq_true, List.contains_iff_mem]
  constructor
  · rintro (h | ⟨i, h1, h2, h3, h4⟩) hl
    · rw [e.mpr hl] at h
      cases h
    · exact ⟨i, h1, h2, h3, (e2 i).mp h4⟩
  · intro h
    cases q : exB' es w (fun _ => true) with
    | false => exact .inl rfl
    | true =>
      obtain ⟨i, h1, h2, h3, h4⟩ := h (e.mp q)
      exact .inr ⟨i, h1, h2, h3, (e2 i).mpr h4⟩
/-- as the program tells it -/
def wantedB (es : List Ev) (ws : List (Nat × Nat)) (p : Nat) : Bool := ws.any fun w => decide (ahead es w.2 - ahead es w.1 = 1) && decide ((bars es)[ahead es w.1]? = some p)
theorem alone_iff {es : List Ev} {ws : List (Nat × Nat)} {p : Nat} (hp : isB es p = true) : keptB es ws [p] = !wantedB es ws p := by
  rw [Bool.eq_iff_iff, keptB_iff, Bool.not_eq_true', ← Bool.not_eq_true]
  unfold wantedB
  rw [List.any_eq_true]
  constructor
  · rintro h ⟨w, hw, q⟩
    rw [Bool.and_eq_true, decide_eq_true_eq, decide_eq_true_eq] at q
    obtain ⟨q1, q2⟩ := q
    obtain ⟨i, h1, h2, h3, h4⟩ := h w hw (by omega)
    have hip : i ≠ p := fun z => h4 (by rw [z]; exact List.mem_singleton.mpr rfl)
    -- the first barrier behind w.1 is p
    have gi := bars_get h3
    have m1 := ahead_mono es h1
    have m2 := ahead_mono es (show i + 1 ≤ w.2 by omega)
    rw [ahead_succ, if_pos h3] at m2
    have : ahead es i = ahead es w.1 := by omega
    rw [this, q2] at gi
    exact hip (Option.some.inj gi).symm
  · intro h w hw hl
    obtain ⟨i, h1, h2, h3⟩ := ahead_lt.mp hl
    by_cases e : i = p
    · subst e
      by_cases e2 : ahead es w.2 - ahead es w.1 = 1
      · refine absurd ⟨w, hw, ?_⟩ h
        rw [Bool.and_eq_true, decide_eq_true_eq, decide_eq_true_eq]
        refine ⟨e2, ?_⟩
        have m1 := ahead_mono es h1
        have m2 := ahead_mono es (show i + 1 ≤ w.2 by omega)
        rw [ahead_succ, if_pos h3] at m2
        rw [show ahead es w.1 = ahead es i by omega]
        exact bars_get h3
      · by_cases c : ahead es w.1 < ahead es i
        · obtain ⟨j, j1, j2, j3⟩ := ahead_lt.mp c
          exact ⟨j, j1, by omega, j3, fun z => by have := List.mem_singleton.mp z; omega⟩
        · have m1 := ahead_mono es h1
          have : ahead es (i + 1) < ahead es w.2 := by
            rw [ahead_succ, if_pos h3]
            omega
          obtain ⟨j, j1, j2, j3⟩ := ahead_lt.mp this
          exact ⟨j, by omega, j2, j3, fun z => by have := List.mem_singleton.mp z; omega⟩
    · exact ⟨i, h1, h2, h3, fun z => e (List.mem_singleton.mp z)⟩
def aloneL (es : List Ev) (ws : List (Nat × Nat)) : List Nat := (bars es).filter fun p => keptB es ws [p]
theorem alone_eq (es : List Ev) (ws : List (Nat × Nat)) : (bars es).filter (fun p => !wantedB es ws p) = aloneL es ws := by
  unfold aloneL
  refine List.filter_congr fun p hp => ?_
  rw [alone_iff (mem_bars.mp hp)]
/-- as the law tells it -/
def goneL (es : List Ev) (ws : List (Nat × Nat)) : Nat → List Nat
  | 0 => []
  | i + 1 => match (bars es)[i]? with
    | some p => if keptB es ws (goneL es ws i ++ [p]) then goneL es ws i ++ [p] else goneL es ws i
    | none => goneL es ws i
/-- as the program tells it: what goes, and the last one that stays, counted from one -/
def stayB (es : List Ev) (ws : List (Nat × Nat)) (last p on : Nat) : Bool := (keptL es ws).any fun w => decide (last ≤ w.1) && (decide (w.1 < p) && (decide (p < w.2) && decide (w.2 < on)))
def spareL (es : List Ev) (ws : List (Nat × Nat)) : Nat → List Nat × Nat
  | 0 => ([], 0)
  | i + 1 => match (bars es)[i]? with
    | some p => if stayB es ws (spareL es ws i).2 p (((bars es)[i + 1]?).getD es.length) then ((spareL es ws i).1, p + 1) else ((spareL es ws i).1 ++ [p], (spareL es ws i).2)
    | none => spareL es ws i
theorem bars_ends {es : List Ev} {i p q : Nat} (h1 : (bars es)[i]? = some p) (h2 : isB es q = true) (h : p < q) : ((bars es)[i + 1]?).getD es.length ≤ q := by
  have hp : isB es p = true := mem_bars.mp (List.mem_of_getElem? h1)
  have gq := bars_get h2
  have gp := bars_get hp
  have asc := List.pairwise_iff_getElem.mp (bars_asc es)
  obtain ⟨b1, e1⟩ := List.getElem?_eq_some_iff.mp h1
  obtain ⟨b2, e2⟩ := List.getElem?_eq_some_iff.mp gq
  have li : i < ahead es q := by
    rcases Nat.lt_trichotomy i (ahead es q) with c | c | c
    · exact c
    · subst c
      rw [h1] at gq
      have := Option.some.inj gq
      omega
    · have := asc _ _ b2 b1 c
      omega
  rw [List.getElem?_eq_getElem (show i + 1 < (bars es).length by omega), Option.getD_some]
  rcases Nat.lt_or_ge (i + 1) (ahead es q) with c | c
  · have := asc _ _ (show i + 1 < _ by omega) b2 c
    omega
  · have : (bars es)[i + 1] = (bars es)[ahead es q] := by
      congr 1
      omega
    omega
theorem bars_lt {es : List Ev} {i j p q : Nat} (h1 : (bars es)[i]? = some p) (h2 : (bars es)[j]? = some q) : i < j ↔ p < q := by
  have asc := List.pairwise_iff_getElem.mp (bars_asc es)
  obtain ⟨b1, e1⟩ := List.getElem?_eq_some_iff.mp h1
  obtain ⟨b2, e2⟩ := List.getElem?_eq_some_iff.mp h2
  constructor
  · intro h
    have := asc _ _ b1 b2 h
    omega
  · intro h
    rcases Nat.lt_trichotomy i j with c | c | c
    · exact c
    · subst c
      omega
    · have := asc _ _ b2 b1 c
      omega
theorem next_bar {es : List Ev} {i p q : Nat} (h1 : (bars es)[i]? = some p) (h2 : (bars es)[i + 1]? = some q) : p < q ∧ isB es q = true := ⟨(bars_lt h1 h2).mp (by omega), mem_bars.mp (List.mem_of_getElem? h2)⟩
/-- both tell the same; the last that stays is the greatest of those that stay -/
theorem spare_gone {es : List Ev} {ws : List (Nat × Nat)} (hw : ∀ w ∈ ws, WaitOk es w) : ∀ i, i ≤ (bars es).length → (spareL es ws i).1 = goneL es ws i ∧ keptB es ws (goneL es ws i) = true ∧ (∀ x ∈ goneL es ws i, ∃ j, j < i ∧ (bars es)[j]? = some x) ∧
    (∀ j x, j < i → (bars es)[j]? = some x → x ∉ goneL es ws i → x < (spareL es ws i).2) ∧ ((spareL es ws i).2 = 0 ∨ ∃ j x, j < i ∧ (bars es)[j]? = some x ∧ x ∉ goneL es ws i ∧ (spareL es ws i).2 = x + 1)
  | 0, _ => ⟨rfl, keptB_iff.mpr fun w m h => by
      obtain ⟨i, a, b, c⟩ := ahead_lt.mp h
      exact ⟨i, a, b, c, fun z => by cases z⟩, fun x h => (nomatch h), fun j x h => absurd h (Nat.not_lt_zero _), .inl rfl⟩
  | i + 1, hi => by
    obtain ⟨e1, e2, e3, e4, e5⟩ := spare_gone hw i (by omega)
    obtain ⟨p, hp⟩ : ∃ p, (bars es)[i]? = some p := ⟨_, List.getElem?_eq_getElem (show i < (bars es).length by omega)⟩
    have bp : isB es p = true := mem_bars.mp (List.mem_of_getElem? hp)
    have npg : p ∉ goneL es ws i := fun z => by
      obtain ⟨j, j1, j2⟩ := e3 p z
      have := (bars_lt j2 hp).mp j1
      omega
    have key : keptB es ws (goneL es ws i ++ [p]) = !stayB es ws (spareL es ws i).2 p (((bars es)[i + 1]?).getD es.length) := by
      rw [Bool.eq_iff_iff, keptB_iff, Bool.not_eq_true', ← Bool.not_eq_true]
      unfold stayB keptL
      rw [List.any_eq_true]
      constructor
      · rintro h ⟨w, hw', q⟩
        obtain ⟨hw1, hw2⟩ := List.mem_filter.mp hw'
        rw [decide_eq_true_eq] at hw2
        simp only [Bool.and_eq_true, decide_eq_true_eq] at q
        obtain ⟨q1, q2, q3, q4⟩ := q
        obtain ⟨x, x1, x2, x3, x4⟩ := h w hw1 hw2
        rw [List.mem_append, List.mem_singleton, not_or] at x4
        rcases Nat.lt_trichotomy x p with c | c | c
        · have gx := bars_get x3
          have := e4 _ x ((bars_lt gx hp).mpr c) gx x4.1
          omega
        · exact x4.2 c
        · have := bars_ends hp x3 c
          omega
      · intro h w hw1 hl
        obtain ⟨x, x1, x2, x3, x4⟩ := keptB_iff.mp e2 w hw1 hl
        by_cases exp : x = p
        · subst exp
          have ok := hw w hw1
          have nf := ok.fst
          have ns := ok.snd
          by_cases c1 : (spareL es ws i).2 ≤ w.1
          · -- the next barrier lies within
            have nw : w.1 ≠ x := fun z => by rw [z, bp] at nf; cases nf
            by_cases c2 : w.2 < ((bars es)[i + 1]?).getD es.length
            · refine absurd ⟨w, List.mem_filter.mpr ⟨hw1, decide_eq_true hl⟩, ?_⟩ h
              simp only [Bool.and_eq_true, decide_eq_true_eq]
              exact ⟨c1, by omega, x2, c2⟩
            · cases hn : (bars es)[i + 1]? with
              | none =>
                rw [hn, Option.getD_none] at c2
                have := ok.len
                omega
              | some y =>
                rw [hn, Option.getD_some] at c2
                obtain ⟨y1, y2⟩ := next_bar hp hn
                have ny : w.2 ≠ y := fun z => by rw [z, y2] at ns; cases ns
                refine ⟨y, by omega, by omega, y2, fun z => ?_⟩
                rcases List.mem_append.mp z with m | m
                · obtain ⟨j, j1, j2⟩ := e3 y m
                  have := (bars_lt j2 hp).mp j1
                  omega
                · have := List.mem_singleton.mp m
                  omega
          · rcases e5 with z | ⟨j, y, j1, j2, j3, j4⟩
            · omega
            · have yb := mem_bars.mp (List.mem_of_getElem? j2)
              have ylt := (bars_lt j2 hp).mp j1
              refine ⟨y, by omega, by omega, yb, fun z => ?_⟩
              rcases List.mem_append.mp z with m | m
              · exact j3 m
              · have := List.mem_singleton.mp m
                omega
        · exact ⟨x, x1, x2, x3, fun z => by
            rcases List.mem_append.mp z with m | m
            · exact x4 m
            · exact exp (List.mem_singleton.mp m)⟩
    have eg : goneL es ws (i + 1) = if keptB es ws (goneL es ws i ++ [p]) then goneL es ws i ++ [p] else goneL es ws i := by
      show (match (bars es)[i]? with | some p => _ | none => _) = _
      rw [hp]
    have es' : spareL es ws (i + 1) = if stayB es ws (spareL es ws i).2 p (((bars es)[i + 1]?).getD es.length) then ((spareL es ws i).1, p + 1) else ((spareL es ws i).1 ++ [p], (spareL es ws i).2) := by
      show (match (bars es)[i]? with | some p => _ | none => _) = _
      rw [hp]
    rw [eg, es', key]
    cases q : stayB es ws (spareL es ws i).2 p (((bars es)[i + 1]?).getD es.length) with
    | true =>
      simp only [Bool.not_true, if_true, Bool.false_eq_true, if_false]
      refine ⟨e1, e2, fun x hx => ?_, fun j x hj hx hn => ?_, .inr ⟨i, p, by omega, hp, npg, rfl⟩⟩
      · obtain ⟨j, j1, j2⟩ := e3 x hx
        exact ⟨j, by omega, j2⟩
      · by_cases c : j = i
        · subst c
          rw [hp] at hx
          cases hx
          omega
        · have := (bars_lt hx hp).mp (by omega)
          omega
    | false =>
      simp only [Bool.not_false, if_true, Bool.false_eq_true, if_false]
      refine ⟨by rw [e1], by rw [key, q]; rfl, fun x hx => ?_, fun j x hj hx hn => ?_, ?_⟩
      · rcases List.mem_append.mp hx with m | m
        · obtain ⟨j, j1, j2⟩ := e3 x m
          exact ⟨j, by omega, j2⟩
        · rw [List.mem_singleton.mp m]
          exact ⟨i, by omega, hp⟩
      · rw [List.mem_append, not_or] at hn
        by_cases c : j = i
        · subst c
          rw [hp] at hx
          cases hx
          exact absurd (List.mem_singleton.mpr rfl) hn.2
        · exact e4 j x (by omega) hx hn.1
      · rcases e5 with z | ⟨j, y, j1, j2, j3, j4⟩
        · exact .inl z
        · refine .inr ⟨j, y, by omega, j2, fun z => ?_, j4⟩
          rcases List.mem_append.mp z with m | m
          · exact j3 m
          · have h1 := (bars_lt j2 hp).mp j1
            have := List.mem_singleton.mp m
            omega
/-! who is served first -/
/-- the first place of a moment that serves -/
def firstAt (ms : List Nat) (w : Nat × Nat) : List Nat := ((List.range ms.length).filter fun i => decide (w.1 < ms.getD i 0) && decide (ms.getD i 0 ≤ w.2)).take 1
def servedBy (due : List (Nat × Nat)) (ms : List Nat) (i : Nat) : List Nat := (List.range due.length).filter fun k => decide (firstAt ms (due.getD k (0, 0)) = [i])
/-- as the law tells it: those served at a place, those served ahead of it -/
def ownDone (due : List (Nat × Nat)) (ms : List Nat) : Nat → List Nat
  | 0 => []
  | i + 1 => ownDone due ms i ++ (List.range due.length).filter fun k => !(ownDone due ms i).contains k && (decide ((due.getD k (0, 0)).1 < ms.getD i 0) && decide (ms.getD i 0 < (due.getD k (0, 0)).2 + 1))
def ownAt (due : List (Nat × Nat)) (ms : List Nat) (i : Nat) : List Nat := (List.range due.length).filter fun k => !(ownDone due ms i).contains k && (decide ((due.getD k (0, 0)).1 < ms.getD i 0) && decide (ms.getD i 0 < (due.getD k (0, 0)).2 + 1))
theorem take1_filter {n i : Nat} {f : Nat → Bool} : ((List.range n).filter f).take 1 = [i] ↔ i < n ∧ f i = true ∧ ∀ j, j < i → f j = false := by
  induction n with
  | zero => simp
  | succ n ih =>
    rw [List.range_succ, List.filter_append]
    cases h : (List.range n).filter f with
    | nil =>
      have hn : ∀ j, j < n → f j = false := fun j hj => by
        have := List.filter_eq_nil_iff.mp h j (List.mem_range.mpr hj)
        simpa using this
      rw [List.nil_append, List.filter_cons, List.filter_nil]
      by_cases q : f n = true
      · rw [if_pos q]
        constructor
        · intro e
          have e : [n] = [i] := e
          have : n = i := (List.cons.inj e).1
          subst this
          exact ⟨by omega, q, hn⟩
        · rintro ⟨h1, h2, h3⟩
          by_cases c : i = n
          · rw [c]; rfl
          · rw [hn i (by omega)] at h2
            cases h2
      · rw [if_neg q]
        constructor
        · intro e
          cases e
        · rintro ⟨h1, h2, h3⟩
          by_cases c : i = n
          · rw [c] at h2
            exact absurd h2 q
          · rw [hn i (by omega)] at h2
            cases h2
    | cons x r =>
      rw [h] at ih
      rw [List.cons_append, List.take_succ_cons, List.take_zero]
      rw [List.take_succ_cons, List.take_zero] at ih
      rw [ih]
      have hx : x < n ∧ f x = true := by
        have := List.mem_filter.mp (show x ∈ (List.range n).filter f by rw [h]; exact List.mem_cons_self)
        exact ⟨List.mem_range.mp this.1, this.2⟩
      constructor
      · rintro ⟨a, b, c⟩
        exact ⟨by omega, b, c⟩
      · rintro ⟨a, b, c⟩
        refine ⟨?_, b, c⟩
        rcases Nat.lt_or_ge i n with q | q
        · exact q
        · have := c x (by omega)
          rw [hx.2] at this
          cases this
theorem firstAt_iff {ms : List Nat} {w : Nat × Nat} {i : Nat} : firstAt ms w = [i] ↔ i < ms.length ∧ (w.1 < ms.getD i 0 ∧ ms.getD i 0 ≤ w.2) ∧ ∀ j, j < i → ¬ (w.1 < ms.getD j 0 ∧ ms.getD j 0 ≤ w.2) := by
  unfold firstAt
  rw [take1_filter]
  refine and_congr_right fun _ => and_congr (by simp) (forall_congr' fun j => imp_congr_right fun _ => ?_)
  rw [← Bool.not_eq_true]
  simp
theorem own_done {due : List (Nat × Nat)} {ms : List Nat} : ∀ {i : Nat}, i ≤ ms.length → ∀ k, k ∈ ownDone due ms i ↔ k < due.length ∧ ∃ j, j < i ∧ ((due.getD k (0, 0)).1 < ms.getD j 0 ∧ ms.getD j 0 ≤ (due.getD k (0, 0)).2)
  | 0, _, k => by
    constructor
    · intro h; cases h
    · rintro ⟨_, j, h, _⟩; omega
  | i + 1, hi, k => by
    show k ∈ ownDone due ms i ++ _ ↔ _
    rw [List.mem_append, own_done (by omega), List.mem_filter, List.mem_range]
    simp only [Bool.and_eq_true, Bool.not_eq_true', decide_eq_true_eq, ← Bool.not_eq_true, List.contains_iff_mem, own_done (show i ≤ ms.length by omega)]
    constructor
    · rintro (⟨h1, j, h2, h3⟩ | ⟨h1, _, h3, h4⟩)
      · exact ⟨h1, j, by omega, h3⟩
      · exact ⟨h1, i, by omega, h3, by omega⟩
    · rintro ⟨h1, j, h2, h3, h4⟩
      by_cases c : ∃ j, j < i ∧ ((due.getD k (0, 0)).1 < ms.getD j 0 ∧ ms.getD j 0 ≤ (due.getD k (0, 0)).2)
      · exact .inl ⟨h1, c⟩
      · have : j = i := by
          rcases Nat.lt_or_ge j i with q | q
          · exact absurd ⟨j, q, h3, h4⟩ c
          · omega
        subst this
        exact .inr ⟨h1, fun z => c z.2, h3, by omega⟩
theorem own_served {due : List (Nat × Nat)} {ms : List Nat} {i : Nat} (hi : i < ms.length) : ownAt due ms i = servedBy due ms i := by
  unfold ownAt servedBy
  refine List.filter_congr fun k hk => ?_
  have hk := List.mem_range.mp hk
  rw [Bool.eq_iff_iff, decide_eq_true_eq, firstAt_iff]
  simp only [Bool.and_eq_true, Bool.not_eq_true', decide_eq_true_eq, ← Bool.not_eq_true, List.contains_iff_mem, own_done (show i ≤ ms.length by omega)]
  constructor
  · rintro ⟨h1, h2, h3⟩
    refine ⟨hi, ⟨h2, by omega⟩, fun j hj z => h1 ⟨hk, j, hj, z⟩⟩
  · rintro ⟨_, ⟨h2, h3⟩, h4⟩
    exact ⟨fun ⟨_, j, hj, z⟩ => h4 j hj z, h2, by omega⟩
end K18
set_option Elab.async false
set_option linter.all false
set_option maxRecDepth 100000
set_option maxHeartbeats 4000000
/-! Set comprehensions of any members, of one clause or two: the loop of a clause once and for all. -/
namespace KB
open PySem PySem.Spec PyProof.Rows L2
/-- no error leaves -/
abbrev F0 : Value → Shared → Prop := fun _ _ => False
/-- the tests of a clause -/
abbrev tests (ifs : List Expr) (env : Env) : Sem Bool := forIn ifs true fun q r => if r = true then (do let b ← isTrue q env (eval q env); pure (ForInStep.yield b)) else pure (ForInStep.yield r)
/-- the loop c of a clause over it, the rest of a turn being B -/
structure Cl (P : Program) (w : World) (A : Around) (c : Code) (it : Value) (tg : Expr) (env : Env) (ifs : List Expr) (B : (Shared → Prop) → Shared → Prop) : Prop where
  quiet : c.quiet = true
  mono : ∀ (N N' : Shared → Prop) (s : Shared), (∀ s', N s' → N' s') → B N s → B N' s
  den : ∀ (Q : PySem.Fin → Shared → Prop) (E : Value → Shared → Prop) (s : Shared), wpAny (model P w) A (pyNext it) (fun r s1 => match r with
      | none => Q (.done .next) s1
      | some v => wpAny (model P w) A (letOwnedTupleGo tg it v) (fun _ s2 => wpAny (model P w) A (assign tg env v) (fun _ s3 => wpAny (model P w) A (tests ifs env) (fun b s4 =>
          if b = true then B (fun s5 => Q (.again c) s5) s4 else Q (.again c) s4) F0 s3) F0 s2) F0 s1) F0 s → wpAny (model P w) (A.under c) ((model P w).den c) Q E s
/-- what of the slots is known stays known, but for those of vs -/
def Kp (vs : List Nat) (σ σ' : L2.St) : Prop := σ'.length = σ.length ∧ ∀ (j : Nat) (v : V), (wipe σ vs)[j]? = some (some v) → σ'[j]? = some (some v)
theorem Kp.refl (vs : List Nat) (σ : L2.St) : Kp vs σ σ := ⟨rfl, fun _ _ e => (wipe_some e).1⟩
theorem Kp.wipe {vs vs1 : List Nat} (h : ∀ i ∈ vs1, i ∈ vs) (σ : L2.St) : Kp vs σ (wipe σ vs1) := ⟨wipe_length _ _, fun j v e => by
  obtain ⟨e1, e2⟩ := wipe_some e
  rw [wipe_out fun z => e2 (h j z)]
  exact e1⟩
/-- the turns of a clause; tb: the rest of a turn, by what has to hold behind it -/
def tCl (g : TG) (tt : TT) (tb : L2.St → Hp → (Hp → Prop) → Prop) (vs : List Nat) (σ : L2.St) (Z : Hp → Prop) (J : It) (H : Hp) : Prop :=
  ∃ W : Nat → Nat → Hp → Prop, (∃ m, W 0 m H) ∧ ∀ i m G, W i m G → (J.stop i G ∧ Z G) ∨ (J.go i G ∧ ∃ N : Hp → Prop, (∀ G', N G' → ∃ m', m' < m ∧ W (i + 1) m' G') ∧
    ∀ x G', J.yld i G x G' → g x (wipe σ vs) G' fun σ2 H2 => wipe σ2 vs = wipe σ vs ∧ tt σ2 H2 fun b H3 => if b = true then tb σ2 H3 N else N H3)
section
variable {X : Cx} {c : Code} {it : Addr} {tg : Expr} {ifs : List Expr} {B : (Shared → Prop) → Shared → Prop} {J : It} {fp : List Addr} {tn : Nat → Heap → Prop} {g : TG} {tt : TT}
  {tb : L2.St → Hp → (Hp → Prop) → Prop} {vs : List Nat} {pins : List (Addr × Obj)} {σ : L2.St} {H : Hp} {s : Shared} {Z : Hp → Prop} {R : Result → Shared → Prop}
theorem cl_run (hc : X.calm = true) (hx : X.xe = F0) (L : Cl X.prog X.w X.A c (.ref it) tg X.env ifs B) (T : Turn X.prog X.w X.K tg J fp it tn) (pg : PG X tg g) (pt : PTs X ifs tt)
    (pb : ∀ (pl : List (Addr × Obj)) (s1 : Shared) (τ : L2.St) (G : Hp) (N : Hp → Prop), Inv X pl τ G s1 → (∀ b ∈ pl, b ∈ pins ∨ b.1 ∈ fp) → tb τ G N → B (fun s2 => ∃ τ' G', Inv X pl τ' G' s2 ∧ Kp vs τ τ' ∧ N G') s1)
    (I : Inv X pins (wipe σ vs) H s) (fr : ∀ b ∈ fp, FpOk X pins H b) (t0 : tn 0 s.heap) (q : tCl g tt tb vs σ Z J H) (k : ∀ s' G, Inv X pins (wipe σ vs) G s' → (∀ b ∈ fp, G b = none) → Z G → R (.ok .next) s') :
    codeAny (model X.prog X.w) X.A c R s := by
  obtain ⟨W, ⟨m0, w0⟩, turn⟩ := q
  refine codeAny_loop L.quiet (fun n u => ∃ i G, Inv X pins (wipe σ vs) G u ∧ tn i u.heap ∧ (∀ b ∈ fp, G b = none) ∧ W i n G) ?_ m0 ⟨0, H, I, t0, fun b hb => (fr b hb).1, w0⟩
  rintro n s1 ⟨i, G, I1, t1, n1, w1⟩
  refine L.den _ _ _ ?_
  have ok1 : ∀ b ∈ fp, FpOk X pins G b := fun b hb => ⟨n1 b hb, (fr b hb).2⟩
  rcases turn i n G w1 with ⟨stp, z⟩ | ⟨go, N, hN, step⟩
  · refine thnF (T.done X rfl rfl rfl hc i pins s1 _ G F0 I1 ok1 t1 stp) fun r s2 ⟨er, I2⟩ => ?_
    subst er
    exact k _ _ I2 n1 z
  · refine thnF (T.item X rfl rfl rfl hc i pins s1 _ G F0 I1 ok1 t1 go) fun r s2 ⟨u, er, h2⟩ => ?_
    subst er
    refine thnF h2 fun _ s3 ⟨x, G3, I3, r3, y3, t3, n3⟩ => ?_
    have J3 := I3.pinned (fun b hb => ⟨n3 b hb, (fr b hb).2⟩) (T.obj _ _ t3)
    have a1 := pg.run _ s3 _ G3 x u _ J3 r3 (step x G3 y3)
    rw [hx] at a1
    refine thnF a1 fun _ s4 ⟨τ, G4, I4, ew, q4⟩ => ?_
    have a2 := pt.run _ s4 τ G4 _ I4 q4
    rw [hx] at a2
    refine thnF a2 fun ok s5 ⟨G5, I5, q5⟩ => ?_
    have fin : ∀ (τ' : L2.St) (G' : Hp) (s' : Shared), Inv X (pins ++ pinsAt fp s3.heap) τ' G' s' → Kp vs τ τ' → N G' → ∃ m, m < n ∧ ∃ i G, Inv X pins (wipe σ vs) G s' ∧ tn i s'.heap ∧ (∀ b ∈ fp, G b = none) ∧ W i m G := fun τ' G' s' I' kp nx => by
      obtain ⟨m', hm, w'⟩ := hN G' nx
      have at_ : ∀ b ∈ fp, ∀ o, s3.heap.get? b = some o → s'.heap.get? b = some o ∧ G' b = none := fun b hb o e => by
        have z := I'.pin (b, o) (List.mem_append_right _ (List.mem_append_right _ (mem_pinsAt hb e)))
        exact ⟨z.1, z.2.1⟩
      refine ⟨m', hm, i + 1, G', I'.unpinned.weak ?_ (fun j v e => kp.2 j v (by rw [ew]; exact e)), T.keep _ _ _ t3 fun b hb o e => (at_ b hb o e).1, fun b hb => ?_, w'⟩
      · rw [kp.1, ← wipe_length τ vs, ew]
      · obtain ⟨o, e, _⟩ := T.obj _ _ t3 b hb
        exact (at_ b hb o e).2
    cases ok with
    | false => exact ⟨rfl, fin _ _ _ I5 (Kp.refl _ _) q5⟩
    | true =>
      have mem : ∀ b ∈ pins ++ pinsAt fp s3.heap, b ∈ pins ∨ b.1 ∈ fp := fun b hb => by
        rcases List.mem_append.mp hb with z | z
        · exact .inl z
        · refine .inr ?_
          obtain ⟨a, ha, e⟩ := List.mem_filterMap.mp z
          obtain ⟨o, _, rfl⟩ := Option.map_eq_some_iff.mp e
          exact ha
      refine L.mono _ _ _ (fun s6 ⟨τ', G6, I6, kp, nx⟩ => ?_) (pb _ s5 τ G5 N I5 mem q5)
      exact ⟨rfl, fin _ _ _ I6 kp nx⟩
end
end KB
set_option Elab.async false
set_option linter.all false
set_option maxRecDepth 100000
set_option maxHeartbeats 4000000
namespace KB
open PySem PySem.Spec PyProof.Rows L2
abbrev sc1 (elt t0 i0 : Expr) (if0 : List Expr) (scope : Scope) (pos : Pos) : Expr := .SetComp elt [⟨t0, i0, if0, 0⟩] scope pos
abbrev sc2 (elt t0 i0 t1 i1 : Expr) (if0 if1 : List Expr) (scope : Scope) (pos : Pos) : Expr := .SetComp elt [⟨t0, i0, if0, 0⟩, ⟨t1, i1, if1, 0⟩] scope pos
section
variable {P : Program} {w : World} {A : Around} {env : Env} {elt t0 i0 t1 i1 : Expr} {if0 if1 : List Expr} {scope : Scope} {pos : Pos} {it acc : Value}
theorem turn1 : compTurn (sc1 elt t0 i0 if0 scope pos) 0 it acc env = (do
      standAt i0.pos
      match ← pyNext it with
      | none => pure (.done .next)
      | some u =>
        letOwnedTupleGo t0 it u
        assign t0 env u
        let mut b := true
        for q in if0 do
          if b then b ← isTrue q env (eval q env)
        if b then
          (do let y ← eval elt env; standAt elt.pos; let _ ← call (.builtin "set.add") [acc, y])
        again (.compLoop (sc1 elt t0 i0 if0 scope pos) 0 it acc env)) := by rfl
theorem turn2i : compTurn (sc2 elt t0 i0 t1 i1 if0 if1 scope pos) 1 it acc env = (do
      standAt i1.pos
      match ← pyNext it with
      | none => pure (.done .next)
      | some u =>
        letOwnedTupleGo t1 it u
        assign t1 env u
        let mut b := true
        for q in if1 do
          if b then b ← isTrue q env (eval q env)
        if b then
          (do let y ← eval elt env; standAt elt.pos; let _ ← call (.builtin "set.add") [acc, y])
        again (.compLoop (sc2 elt t0 i0 t1 i1 if0 if1 scope pos) 1 it acc env)) := by rfl
theorem turn2o : compTurn (sc2 elt t0 i0 t1 i1 if0 if1 scope pos) 0 it acc env = (do
      standAt i0.pos
      match ← pyNext it with
      | none => pure (.done .next)
      | some u =>
        letOwnedTupleGo t0 it u
        assign t0 env u
        let mut b := true
        for q in if0 do
          if b then b ← isTrue q env (eval q env)
        if b then
          let y ← eval i1 env
          standAt i1.pos
          let y ← foldedSetIterable i1 env y
          let _ ← runOwn (.compStart (sc2 elt t0 i0 t1 i1 if0 if1 scope pos) 1 (← holding [y] (pyIter y)) acc env) env
        again (.compLoop (sc2 elt t0 i0 t1 i1 if0 if1 scope pos) 0 it acc env)) := by rfl
/-- a member is made and put in -/
def bAdd (P : Program) (w : World) (A : Around) (elt : Expr) (env : Env) (acc : Value) : (Shared → Prop) → Shared → Prop := fun N s =>
  wpAny (model P w) A (eval elt env) (fun y s1 => wpAny (model P w) A (call (.builtin "set.add") [acc, y]) (fun _ s2 => N s2) F0 s1) F0 s
theorem noF {α : Type} {t : Sem α} {Q : α → Shared → Prop} {M : Model} {E : Value → Shared → Prop} {s : Shared} (h : wpAny M A t Q F0 s) : wpAny M A t Q E s := wpAny_mono h (fun _ _ x => x) fun _ _ z => z.elim
theorem bAdd_mono (N N' : Shared → Prop) (s : Shared) (h : ∀ s', N s' → N' s') (b : bAdd P w A elt env acc N s) : bAdd P w A elt env acc N' s :=
  wpAny_mono b (fun _ _ x => wpAny_mono x (fun _ s' z => h s' z) fun _ _ z => z) fun _ _ z => z
theorem cl_add1 : Cl P w A (.compLoop (sc1 elt t0 i0 if0 scope pos) 0 it acc env) it t0 env if0 (bAdd P w A elt env acc) := by
  refine ⟨rfl, bAdd_mono, fun Q E s h => ?_⟩
  show wpAny _ A ((compTurn (sc1 elt t0 i0 if0 scope pos) 0 it acc env).onRaise _) _ _ s
  refine wpAny_noted ?_
  rw [turn1]
  refine wpAny_bind (wpAny_standAt (wpAny_bind (noF (wpAny_mono h (fun r s1 h1 => ?_) fun _ _ z => z))))
  cases r with
  | none => exact wpAny_pure h1
  | some u =>
    refine wpAny_bind (noF (wpAny_mono h1 (fun _ s2 h2 => wpAny_bind (noF (wpAny_mono h2 (fun _ s3 h3 => wpAny_bind (noF (wpAny_mono h3 (fun b s4 h4 => ?_) fun _ _ z => z))) fun _ _ z => z))) fun _ _ z => z))
    cases b with
    | false => exact wpAny_pure h4
    | true => exact wpAny_bind (wpAny_bind (noF (wpAny_mono h4 (fun y s5 h5 => wpAny_bind (wpAny_standAt (wpAny_bind (noF (wpAny_mono h5 (fun _ s6 h6 => wpAny_pure (wpAny_pure h6)) fun _ _ z => z))))) fun _ _ z => z)))
theorem cl_add2 : Cl P w A (.compLoop (sc2 elt t0 i0 t1 i1 if0 if1 scope pos) 1 it acc env) it t1 env if1 (bAdd P w A elt env acc) := by
  refine ⟨rfl, bAdd_mono, fun Q E s h => ?_⟩
  show wpAny _ A ((compTurn (sc2 elt t0 i0 t1 i1 if0 if1 scope pos) 1 it acc env).onRaise _) _ _ s
  refine wpAny_noted ?_
  rw [turn2i]
  refine wpAny_bind (wpAny_standAt (wpAny_bind (noF (wpAny_mono h (fun r s1 h1 => ?_) fun _ _ z => z))))
  cases r with
  | none => exact wpAny_pure h1
  | some u =>
    refine wpAny_bind (noF (wpAny_mono h1 (fun _ s2 h2 => wpAny_bind (noF (wpAny_mono h2 (fun _ s3 h3 => wpAny_bind (noF (wpAny_mono h3 (fun b s4 h4 => ?_) fun _ _ z => z))) fun _ _ z => z))) fun _ _ z => z))
    cases b with
    | false => exact wpAny_pure h4
    | true => exact wpAny_bind (wpAny_bind (noF (wpAny_mono h4 (fun y s5 h5 => wpAny_bind (wpAny_standAt (wpAny_bind (noF (wpAny_mono h5 (fun _ s6 h6 => wpAny_pure (wpAny_pure h6)) fun _ _ z => z))))) fun _ _ z => z)))
/-- the second clause is run -/
def bIn (P : Program) (w : World) (A : Around) (e i1 : Expr) (env : Env) (acc : Value) : (Shared → Prop) → Shared → Prop := fun N s =>
  wpAny (model P w) A (eval i1 env) (fun y s1 => wpAny (model P w) A (pyIter y) (fun j s2 => codeAny (model P w) A (.compStart e 1 j acc env) (fun r s' => match r with
    | .ok _ => N s'
    | .error _ => False) s2) F0 s1) F0 s
theorem bIn_mono {e : Expr} (N N' : Shared → Prop) (s : Shared) (h : ∀ s', N s' → N' s') (b : bIn P w A e i1 env acc N s) : bIn P w A e i1 env acc N' s :=
  wpAny_mono b (fun _ _ x => wpAny_mono x (fun _ _ y => codeAny_mono y fun r s' z => match r, z with
    | .ok _, z => h s' z
    | .error _, z => z) fun _ _ z => z) fun _ _ z => z
theorem cl_in (hs : ∀ x, foldedSetIterable i1 env x = pure x) : Cl P w A (.compLoop (sc2 elt t0 i0 t1 i1 if0 if1 scope pos) 0 it acc env) it t0 env if0 (bIn P w A (sc2 elt t0 i0 t1 i1 if0 if1 scope pos) i1 env acc) := by
  refine ⟨rfl, bIn_mono, fun Q E s h => ?_⟩
  show wpAny _ A ((compTurn (sc2 elt t0 i0 t1 i1 if0 if1 scope pos) 0 it acc env).onRaise _) _ _ s
  refine wpAny_noted ?_
  rw [turn2o]
  refine wpAny_bind (wpAny_standAt (wpAny_bind (noF (wpAny_mono h (fun r s1 h1 => ?_) fun _ _ z => z))))
  cases r with
  | none => exact wpAny_pure h1
  | some u =>
    refine wpAny_bind (noF (wpAny_mono h1 (fun _ s2 h2 => wpAny_bind (noF (wpAny_mono h2 (fun _ s3 h3 => wpAny_bind (noF (wpAny_mono h3 (fun b s4 h4 => ?_) fun _ _ z => z))) fun _ _ z => z))) fun _ _ z => z))
    cases b with
    | false => exact wpAny_pure h4
    | true =>
      refine wpAny_bind (noF (wpAny_mono h4 (fun y s5 h5 => ?_) fun _ _ z => z))
      refine wpAny_bind (wpAny_standAt (wpAny_bind (wpAny_of_eq (hs y) (wpAny_bind (wpAny_holding (noF (wpAny_mono h5 (fun j s6 h6 => ?_) fun _ _ z => z)))))))
      refine wpAny_bind (wpAny_runOwn ?_)
      rw [Around.mark_none]
      refine codeAny_mono h6 fun r s7 z => ?_
      cases r with
      | ok f => first
        | exact wpAny_pure z
        | exact wpAny_bind (wpAny_pure (wpAny_pure z))
      | error e => exact z.elim
theorem start2 {R : Result → Shared → Prop} {s : Shared} (h0 : codeAny (model P w) A (.compLoop (sc2 elt t0 i0 t1 i1 if0 if1 scope pos) 1 it acc env) R s)
    (h : wpAny (model P w) A (pyIter it) (fun j s' => codeAny (model P w) A (.compLoop (sc2 elt t0 i0 t1 i1 if0 if1 scope pos) 1 j acc env) R s') F0 s) :
    codeAny (model P w) A (.compStart (sc2 elt t0 i0 t1 i1 if0 if1 scope pos) 1 it acc env) R s := by
  refine codeAny_of_tree ?_
  show wpAny _ _ ((compStart (sc2 elt t0 i0 t1 i1 if0 if1 scope pos) 1 it acc env).onRaise _) _ _ s
  refine wpAny_notedAt ?_
  unfold compStart
  show wpAny _ _ (ask >>= _) _ _ s
  refine wpAny_bind (wpAny_askSetting (wpAny_ite ?_))
  split
  · first
      | exact wpAny_bind (wpAny_pure (wpAny_pure ⟨rfl, h0⟩))
      | exact wpAny_pure ⟨rfl, h0⟩
  · refine wpAny_bind (wpAny_rule ?_)
    show wpAny _ _ (standAt i1.pos >>= _) _ _ s
    exact wpAny_bind (wpAny_standAt (wpAny_bind (noF (wpAny_mono h (fun j s' h' => wpAny_pure ⟨rfl, h'⟩) fun _ _ z => z))))
end
end KB
set_option Elab.async false
set_option linter.all false
set_option maxRecDepth 100000
set_option maxHeartbeats 4000000
namespace KB
open PySem PySem.Spec PyProof.Rows L2
/-- the set's methods: what add asks and does -/
abbrev AddR := V → List V → Hp → VK → Prop
/-- a member is made, and put into the set at D -/
def tAdd (r : AddR) (te : TE) (D : Addr) : L2.St → Hp → (Hp → Prop) → Prop := fun τ G N => te τ G fun y G1 => r (.ref D) [y] G1 fun _ G2 => N G2
/-- the second clause -/
def tInn (r : AddR) (wi1 : TI) (g1 : TG) (tt1 : TT) (te : TE) (vs1 : List Nat) (D : Addr) : L2.St → Hp → (Hp → Prop) → Prop := fun τ G N => wi1 τ G fun J1 G1 => tCl g1 tt1 (tAdd r te D) vs1 τ N J1 G1
/-- {elt for t0 in i0 if ..}, D the new set -/
def tSc1 (O0 : Addr → HO) (r : AddR) (wi : TI) (g : TG) (tt : TT) (te : TE) (vs : List Nat) : TE := fun σ H Q => wi σ H fun J H1 => ∀ D, H1 D = none → tCl g tt (tAdd r te D) vs σ (fun G => Q (.ref D) G) J (upd H1 D (O0 D))
/-- {elt for t0 in i0 if .. for t1 in i1 if ..} -/
def tSc2 (O0 : Addr → HO) (r : AddR) (wi : TI) (g : TG) (tt : TT) (wi1 : TI) (g1 : TG) (tt1 : TT) (te : TE) (vs vs1 : List Nat) : TE := fun σ H Q =>
  wi σ H fun J H1 => ∀ D, H1 D = none → tCl g tt (tInn r wi1 g1 tt1 te vs1 D) vs σ (fun G => Q (.ref D) G) J (upd H1 D (O0 D))
abbrev freshSet (w : World) : Obj := { cls := .type "set", dict := none, data := .set #[] 0 (.fresh 0 0 (!w.params.followText "set-order")) }
theorem ev_sc (elt : Expr) (gs : List Comprehension) (scope : Scope) (pos : Pos) (env : Env) : eval (.SetComp elt gs scope pos) env = comprehension (.SetComp elt gs scope pos) scope env (firstIterPos gs pos) (newSet (.type "set")) (firstAsync gs) (firstIter gs env) := rfl
section
variable {X : Cx} {O0 : Addr → HO} {r : AddR} {elt t0 i0 t1 i1 : Expr} {if0 if1 : List Expr} {scope : Scope} {own : List (Str × Nat)} {vs1 : List Nat} {pos : Pos} {wi wi1 : TI} {g g1 : TG} {tt tt1 : TT} {te : TE}
/-- what stands in the block, in its context -/
abbrev InBlk (X : Cx) (scope : Scope) (p : Cx → Prop) : Prop := ∀ (s : Shared) (H : Hp) (C : Addr) (cl : List (Str × Addr)) (fp : List Addr), p (X.blk s H scope (compEnvC scope cl C X.env) fp)
/-- put in: the rest of a turn -/
theorem add_ok {Y : Cx} {D : Addr} {vs : List Nat} (hx : Y.xe = F0) (he : PE Y elt te) (ha : MtR Y "set.add" r) (pl : List (Addr × Obj)) (s : Shared) (τ : L2.St) (G : Hp) (N : Hp → Prop) (I : Inv Y pl τ G s) (q : tAdd r te D τ G N) :
    bAdd Y.prog Y.w Y.A elt Y.env (.ref D) (fun s2 => ∃ τ' G', Inv Y pl τ' G' s2 ∧ Kp vs τ τ' ∧ N G') s := by
  have a1 := he.run pl s τ G _ I q
  rw [hx] at a1
  refine wpAny_mono a1 (fun u s1 ⟨y, G1, I1, r1, q1⟩ => ?_) fun _ _ z => z
  have a2 := ha pl s1 τ G1 (.ref D) [y] (.ref D) [u] _ I1 rfl (.cons r1 .nil) q1
  rw [hx] at a2
  exact wpAny_mono a2 (fun _ s2 ⟨z, G2, I2, r2, q2⟩ => ⟨τ, G2, I2, Kp.refl _ _, q2⟩) fun _ _ z => z
/-- the second clause: the rest of a turn of the first -/
theorem inn_ok {Y : Cx} {D : Addr} {vs : List Nat} (hc : Y.calm = true) (hx : Y.xe = F0) (hv : ∀ i ∈ vs1, i ∈ vs) (hi1 : PI Y t1 i1 wi1) (hg1 : PG Y t1 g1) (ht1 : PTs Y if1 tt1) (he : PE Y elt te) (ha : MtR Y "set.add" r)
    (pl : List (Addr × Obj)) (s : Shared) (τ : L2.St) (G : Hp) (N : Hp → Prop) (I : Inv Y pl τ G s) (q : tInn r wi1 g1 tt1 te vs1 D τ G N) :
    bIn Y.prog Y.w Y.A (sc2 elt t0 i0 t1 i1 if0 if1 scope pos) i1 Y.env (.ref D) (fun s2 => ∃ τ' G', Inv Y pl τ' G' s2 ∧ Kp vs τ τ' ∧ N G') s := by
  have a1 := hi1.run pl s τ G _ I q
  rw [hx] at a1
  refine wpAny_mono a1 (fun u s1 a2 => wpAny_mono a2 (fun j s2 h2 => ?_) fun _ _ z => z) fun _ _ z => z
  obtain ⟨it, fp, tn, J, G1, e, I1, T, st, fr, q1⟩ := h2
  subst e
  have run := cl_run (R := fun rr s' => match rr with
      | .ok _ => ∃ τ' G', Inv Y pl τ' G' s' ∧ Kp vs τ τ' ∧ N G'
      | .error _ => False) hc hx (cl_add2 (elt := elt) (t0 := t0) (i0 := i0) (i1 := i1) (if0 := if0) (scope := scope) (pos := pos) (acc := .ref D)) T hg1 ht1
    (fun pl' s' τ' G' N' I' _ q' => add_ok (vs := vs1) hx he ha pl' s' τ' G' N' I' q') (I1.weak (wipe_length _ _) fun i v e => (wipe_some e).1) fr st q1
    fun s' G' I' _ z => ⟨_, G', I', Kp.wipe hv τ, z⟩
  exact start2 run (T.self Y.A 0 _ _ _ st run)
/-- from the block's loop to the def's context -/
theorem blk_ok {e : Expr} (hcl : ∃ gs, e = .SetComp elt (⟨t0, i0, if0, 0⟩ :: gs) scope pos) (hN : X.N.Nodup) (hi : PI X t0 i0 wi) (ok : BlkOk X.N X.env.scope scope own)
    (new : ∀ (H : Hp) (h : Heap), ObjOk X.prog X.w H (h.push (freshSet X.w)) h.objs.size (O0 h.objs.size)) {tb : Addr → L2.St → Hp → (Hp → Prop) → Prop}
    (loop : ∀ (s : Shared) (H : Hp) (C : Addr) (cl : List (Str × Addr)) (fp : List Addr) (it : Addr) (tn : Nat → Heap → Prop) (J : It) (D : Addr) (σ : L2.St) (s1 : Shared) (Z : Hp → Prop) (R : Result → Shared → Prop),
      Inv (X.blk s H scope (compEnvC scope cl C X.env) fp) [] (wipe σ (own.map (·.2))) H s1 → Turn X.prog X.w X.K t0 J fp it tn → (∀ b ∈ fp, FpOk (X.blk s H scope (compEnvC scope cl C X.env) fp) [] H b) → tn 0 s1.heap → tCl g tt (tb D) (own.map (·.2)) σ Z J H →
      (∀ s' G, Inv (X.blk s H scope (compEnvC scope cl C X.env) fp) [] (wipe σ (own.map (·.2))) G s' → Z G → R (.ok .next) s') → codeAny (model X.prog X.w) X.A (.compLoop e 0 (.ref it) (.ref D) (compEnvC scope cl C X.env)) R s1)
    (hs : ∀ x, foldedSetIterable i0 X.env x = pure x) : PE X e (fun σ H Q => wi σ H fun J H1 => ∀ D, H1 D = none → tCl g tt (tb D) (own.map (·.2)) σ (fun G => Q (.ref D) G) J (upd H1 D (O0 D))) := by
  obtain ⟨gs, rfl⟩ := hcl
  refine ⟨fun pins s σ H Q I h => ?_⟩
  rw [ev_sc]
  have hfree : ∀ y ∈ scope.names, y.2 = .free → ∃ c, X.env.cells.lookup y.1 = some c := fun y hy e => I.ok.has _ (ok.free y hy e)
  refine wpAny_comprehension_free (use := none) rfl hs (closure_ok hfree) ok.kind (fun y hy e => by rw [ok.uniq y hy, e]) (thn (hi.run pins s σ H _ I h) fun xv s1 hx => thn hx fun itv s2 h2 => ?_)
  obtain ⟨it, fp, tn, J, H2, e, I2, T, st, fr, q⟩ := h2
  subst e
  refine PpSet.newSet_ok (newEnv_comp ?_)
  have hDn : H2 s2.heap.objs.size = none := I2.hok.fresh (Nat.le_refl _)
  have q0 := q _ hDn
  generalize hD : s2.heap.objs.size = D at hDn q0
  have I3 : Inv X pins σ (upd H2 D (O0 D)) { s2 with heap := s2.heap.push (freshSet X.w) } :=
    I2.laid (t' := s2.toks) (fun b o e => Heap.get?_push_of_some _ e) (Nat.le_of_eq hD) (hD ▸ new _ _)
  generalize h3 : ({ s2 with heap := s2.heap.push (freshSet X.w) } : Shared) = s3 at I3
  have e3 : s3.heap = s2.heap.push (freshSet X.w) := by rw [← h3]
  have lt : ∀ b ∈ fp, b < s2.heap.objs.size := fun b hb => by
    obtain ⟨o, e, _⟩ := T.obj _ _ st b hb
    exact Heap.lt_size e
  have fr3 : ∀ b ∈ fp, FpOk X pins (upd H2 D (O0 D)) b ∧ b < s3.heap.objs.size := fun b hb => by
    have l := lt b hb
    refine ⟨⟨?_, (fr b hb).2⟩, by rw [e3, Heap.size_push]; exact Nat.lt_succ_of_lt l⟩
    rw [upd_ne (by rw [← hD]; exact Nat.ne_of_lt l)]
    exact (fr b hb).1
  have st3 : tn 0 s3.heap := T.keep _ _ _ st fun b _ o e => by rw [e3]; exact Heap.get?_push_of_some _ e
  have I4 := block_start I3 ok hN fr3
  have st4 : tn 0 (pushCells (s3.heap.push { cls := .type "dict", data := .dict #[] }) scope.names) := T.keep _ _ _ st3 fun b _ o e => pushCells_keeps _ _ _ _ (Heap.get?_push_of_some _ e)
  have fr4 : ∀ b ∈ fp, FpOk (X.blk s3 (upd H2 D (O0 D)) scope (compEnvC scope (cellsFrom (s3.heap.objs.size + 1) scope.names (cloFrom X.env.cells scope.names [])) s3.heap.objs.size X.env) fp) [] (upd H2 D (O0 D)) b := fun b hb =>
    ⟨(fr3 b hb).1.1, (I4.ok.exf b hb).1, I4.ok.exfs b hb, .inl hb, fun x c e => (I4.ok.exf b hb).2 x c e, fun p hp => absurd (show p ∈ ([] : List (Addr × Obj)) ++ [] from hp) (by simp)⟩
  have run := loop s3 (upd H2 D (O0 D)) _ _ fp it tn J D σ _ _ (compPost (model X.prog X.w) X.A X.xe none (EP X pins σ Q) (.ref D) s3.heap.objs.size) I4 T fr4 st4 q0 fun s' G I' z => by
    have I7 : Inv X pins σ G s' := I3.call' (ch := fp) I'.os I'.base I'.hok I'.bare fun b hb => ⟨(fr3 b hb).1.2.2.2.1, (fr3 b hb).1.2.1, (fr3 b hb).1.2.2.2.2.1, (fr3 b hb).1.2.2.2.2.2⟩
    have nC : G s3.heap.objs.size = none := I'.free
    obtain ⟨m, hm, _⟩ := I'.loc
    obtain ⟨f0, f1, f2, f3, f4, f5⟩ := I3.fpOk (Nat.le_refl _) nC
    exact ⟨m, hm, fun h' sb => ⟨.ref D, G, I7.turned (t' := s'.toks) (fun b o hb e => (sb.2 b hb).trans e) f0 f1 f3 f4 f5, rfl, z⟩⟩
  have fin := PpSet.codeAny_compStart_set run (T.self X.A 0 _ _ _ st4 run)
  subst h3
  subst hD
  exact fin
end
end KB
set_option Elab.async false
set_option linter.all false
set_option maxRecDepth 100000
set_option maxHeartbeats 4000000
namespace KB
open PySem PySem.Spec PyProof.Rows L2
section
variable {X : Cx} {O0 : Addr → HO} {r : AddR} {elt t0 i0 t1 i1 : Expr} {if0 if1 : List Expr} {scope : Scope} {own : List (Str × Nat)} {vs1 : List Nat} {pos : Pos} {wi wi1 : TI} {g g1 : TG} {tt tt1 : TT} {te : TE}
theorem pe_sc1R (hc : X.calm = true) (hN : X.N.Nodup) (hi : PI X t0 i0 wi) (ok : BlkOk X.N X.env.scope scope own) (hg : ∀ (s : Shared) (H : Hp) (C : Addr) (cl : List (Str × Addr)) (fp : List Addr), PG (X.blk s H scope (compEnvC scope cl C X.env) fp) t0 g) (ht : ∀ (s : Shared) (H : Hp) (C : Addr) (cl : List (Str × Addr)) (fp : List Addr), PTs (X.blk s H scope (compEnvC scope cl C X.env) fp) if0 tt) (he : ∀ (s : Shared) (H : Hp) (C : Addr) (cl : List (Str × Addr)) (fp : List Addr), PE (X.blk s H scope (compEnvC scope cl C X.env) fp) elt te)
    (new : ∀ (H : Hp) (h : Heap), ObjOk X.prog X.w H (h.push (freshSet X.w)) h.objs.size (O0 h.objs.size)) (ha : ∀ (s : Shared) (H : Hp) (C : Addr) (cl : List (Str × Addr)) (fp : List Addr), MtR (X.blk s H scope (compEnvC scope cl C X.env) fp) "set.add" r) (hs : ∀ x, foldedSetIterable i0 X.env x = pure x := by intro _; rfl) :
    PE X (sc1 elt t0 i0 if0 scope pos) (tSc1 O0 r wi g tt te (own.map (·.2))) :=
  blk_ok (tb := fun D => tAdd r te D) ⟨_, rfl⟩ hN hi ok new (fun s H C cl fp it tn J D σ s1 Z R I T fr st q k =>
    cl_run (X := X.blk s H scope (compEnvC scope cl C X.env) fp) hc rfl (cl_add1 (elt := elt) (i0 := i0) (scope := scope) (pos := pos) (acc := .ref D)) T (hg s H C cl fp) (ht s H C cl fp)
      (fun pl s' τ G N I' _ q' => add_ok (Y := X.blk s H scope (compEnvC scope cl C X.env) fp) rfl (he s H C cl fp) (ha s H C cl fp) pl s' τ G N I' q') I fr st q fun s' G I' _ z => k s' G I' z) hs
theorem pe_sc2R (hc : X.calm = true) (hN : X.N.Nodup) (hi : PI X t0 i0 wi) (ok : BlkOk X.N X.env.scope scope own) (hv : ∀ i ∈ vs1, i ∈ own.map (·.2)) (hg : ∀ (s : Shared) (H : Hp) (C : Addr) (cl : List (Str × Addr)) (fp : List Addr), PG (X.blk s H scope (compEnvC scope cl C X.env) fp) t0 g) (ht : ∀ (s : Shared) (H : Hp) (C : Addr) (cl : List (Str × Addr)) (fp : List Addr), PTs (X.blk s H scope (compEnvC scope cl C X.env) fp) if0 tt)
    (hi1 : ∀ (s : Shared) (H : Hp) (C : Addr) (cl : List (Str × Addr)) (fp : List Addr), PI (X.blk s H scope (compEnvC scope cl C X.env) fp) t1 i1 wi1) (hg1 : ∀ (s : Shared) (H : Hp) (C : Addr) (cl : List (Str × Addr)) (fp : List Addr), PG (X.blk s H scope (compEnvC scope cl C X.env) fp) t1 g1) (ht1 : ∀ (s : Shared) (H : Hp) (C : Addr) (cl : List (Str × Addr)) (fp : List Addr), PTs (X.blk s H scope (compEnvC scope cl C X.env) fp) if1 tt1) (he : ∀ (s : Shared) (H : Hp) (C : Addr) (cl : List (Str × Addr)) (fp : List Addr), PE (X.blk s H scope (compEnvC scope cl C X.env) fp) elt te)
    (new : ∀ (H : Hp) (h : Heap), ObjOk X.prog X.w H (h.push (freshSet X.w)) h.objs.size (O0 h.objs.size)) (ha : ∀ (s : Shared) (H : Hp) (C : Addr) (cl : List (Str × Addr)) (fp : List Addr), MtR (X.blk s H scope (compEnvC scope cl C X.env) fp) "set.add" r) (hs : ∀ x, foldedSetIterable i0 X.env x = pure x := by intro _; rfl) (hs1 : ∀ env x, foldedSetIterable i1 env x = pure x := by intro _ _; rfl) :
    PE X (sc2 elt t0 i0 t1 i1 if0 if1 scope pos) (tSc2 O0 r wi g tt wi1 g1 tt1 te (own.map (·.2)) vs1) :=
  blk_ok (tb := fun D => tInn r wi1 g1 tt1 te vs1 D) ⟨_, rfl⟩ hN hi ok new (fun s H C cl fp it tn J D σ s1 Z R I T fr st q k =>
    cl_run (X := X.blk s H scope (compEnvC scope cl C X.env) fp) hc rfl (cl_in (elt := elt) (t0 := t0) (i0 := i0) (t1 := t1) (if0 := if0) (if1 := if1) (scope := scope) (pos := pos) (acc := .ref D) (hs1 _)) T (hg s H C cl fp) (ht s H C cl fp)
      (fun pl s' τ G N I' _ q' => inn_ok (Y := X.blk s H scope (compEnvC scope cl C X.env) fp) hc rfl hv (hi1 s H C cl fp) (hg1 s H C cl fp) (ht1 s H C cl fp) (he s H C cl fp) (ha s H C cl fp) pl s' τ G N I' q') I fr st q fun s' G I' _ z => k s' G I' z) hs
/-- of ints -/
theorem pe_sc1I (hc : X.calm = true) (hN : X.N.Nodup) (hi : PI X t0 i0 wi) (ok : BlkOk X.N X.env.scope scope own) (hg : ∀ (s : Shared) (H : Hp) (C : Addr) (cl : List (Str × Addr)) (fp : List Addr), PG (X.blk s H scope (compEnvC scope cl C X.env) fp) t0 g) (ht : ∀ (s : Shared) (H : Hp) (C : Addr) (cl : List (Str × Addr)) (fp : List Addr), PTs (X.blk s H scope (compEnvC scope cl C X.env) fp) if0 tt) (he : ∀ (s : Shared) (H : Hp) (C : Addr) (cl : List (Str × Addr)) (fp : List Addr), PE (X.blk s H scope (compEnvC scope cl C X.env) fp) elt te) (hs : ∀ x, foldedSetIterable i0 X.env x = pure x := by intro _; rfl) :
    PE X (sc1 elt t0 i0 if0 scope pos) (tSc1 (fun D => SetO X.w D (fun _ => false) 0) (rSAdd X.w) wi g tt te (own.map (·.2))) :=
  pe_sc1R hc hN hi ok hg ht he (fun _ _ => setO_new (setR_fresh X.w)) (fun _ _ _ _ _ => mt_sadd) hs
theorem pe_sc2I (hc : X.calm = true) (hN : X.N.Nodup) (hi : PI X t0 i0 wi) (ok : BlkOk X.N X.env.scope scope own) (hv : ∀ i ∈ vs1, i ∈ own.map (·.2)) (hg : ∀ (s : Shared) (H : Hp) (C : Addr) (cl : List (Str × Addr)) (fp : List Addr), PG (X.blk s H scope (compEnvC scope cl C X.env) fp) t0 g) (ht : ∀ (s : Shared) (H : Hp) (C : Addr) (cl : List (Str × Addr)) (fp : List Addr), PTs (X.blk s H scope (compEnvC scope cl C X.env) fp) if0 tt)
    (hi1 : ∀ (s : Shared) (H : Hp) (C : Addr) (cl : List (Str × Addr)) (fp : List Addr), PI (X.blk s H scope (compEnvC scope cl C X.env) fp) t1 i1 wi1) (hg1 : ∀ (s : Shared) (H : Hp) (C : Addr) (cl : List (Str × Addr)) (fp : List Addr), PG (X.blk s H scope (compEnvC scope cl C X.env) fp) t1 g1) (ht1 : ∀ (s : Shared) (H : Hp) (C : Addr) (cl : List (Str × Addr)) (fp : List Addr), PTs (X.blk s H scope (compEnvC scope cl C X.env) fp) if1 tt1) (he : ∀ (s : Shared) (H : Hp) (C : Addr) (cl : List (Str × Addr)) (fp : List Addr), PE (X.blk s H scope (compEnvC scope cl C X.env) fp) elt te)
    (hs : ∀ x, foldedSetIterable i0 X.env x = pure x := by intro _; rfl) (hs1 : ∀ env x, foldedSetIterable i1 env x = pure x := by intro _ _; rfl) :
    PE X (sc2 elt t0 i0 t1 i1 if0 if1 scope pos) (tSc2 (fun D => SetO X.w D (fun _ => false) 0) (rSAdd X.w) wi g tt wi1 g1 tt1 te (own.map (·.2)) vs1) :=
  pe_sc2R hc hN hi ok hv hg ht hi1 hg1 ht1 he (fun _ _ => setO_new (setR_fresh X.w)) (fun _ _ _ _ _ => mt_sadd) hs hs1
end
/-- a clause over what a Walk tells: I holds ahead of each turn -/
theorem cl_walk {J : It} {n : Nat} {G0 : Hp → Prop} {Y : Nat → Hp → V → Hp → Prop} {g : TG} {tt : TT} {tb : L2.St → Hp → (Hp → Prop) → Prop} {vs : List Nat} {σ : L2.St} {Z : Hp → Prop} {H : Hp} (w : Walk J n G0 Y) (I : Nat → Hp → Prop) (h0 : I 0 H) (hp : ∀ i G, i ≤ n → I i G → G0 G)
    (turn : ∀ (i : Nat) (x : V) (G G' : Hp), i < n → I i G → Y i G x G' → g x (wipe σ vs) G' fun σ2 H2 => wipe σ2 vs = wipe σ vs ∧ tt σ2 H2 fun b H3 => if b = true then tb σ2 H3 (I (i + 1)) else I (i + 1) H3) (fin : ∀ G, I n G → Z G) :
    tCl g tt tb vs σ Z J H := by
  refine ⟨fun i m G => m = n - i ∧ i ≤ n ∧ I i G, ⟨n, by simp, Nat.zero_le _, h0⟩, ?_⟩
  rintro i m G ⟨rfl, hi, z⟩
  by_cases lt : i < n
  · exact .inr ⟨w.goes i G lt (hp i G hi z), I (i + 1), fun G' z' => ⟨n - (i + 1), by omega, rfl, lt, z'⟩, fun x G' y => turn i x G G' lt z (w.yields i G x G' lt (hp i G hi z) y)⟩
  · obtain rfl : i = n := by omega
    exact .inl ⟨w.stops G (hp i G hi z), fin G z⟩
end KB
set_option Elab.async false
set_option linter.all false
set_option maxRecDepth 100000
set_option maxHeartbeats 4000000
/-! max(xs, default=d), xs a list of ints. -/
namespace KB
open PySem PySem.Spec PyProof.Rows L2
def kwD (dv : Value) : List (Str × Value) := [(Str.ofString "default", dv)]
abbrev mxC (J S : Addr) (dv : Value) : Code := .builtin "max.loop" ⟨[.ref J, .none, .ref S], kwD dv⟩
section
variable {prog : Program} {w : World} {A : Around} {R : Result → Shared → Prop} {J S : Addr} {fq wq : List Addr} {N : Nat} {Iv : Nat → Value → Prop} {Sv : Nat → Heap → Prop} {dv : Value}
theorem mx_name : (toString "max" ++ toString ".loop" : String) = "max.loop" := by decide
/-- what is promised of the end -/
def MxEnd (R : Result → Shared → Prop) (S : Addr) (wq : List Addr) (G : Value → Prop) (s : Shared) : Prop :=
  ∀ (v : Value) (h' : Heap) (tk : Nat), G v → (∀ (b : Addr) (o : Obj), b ∉ wq → b ≠ S → s.heap.get? b = some o → h'.get? b = some o) → R (.ok (.ret v)) { s with heap := h', toks := tk }
theorem MxEnd.on {G : Value → Prop} {s : Shared} {h1 : Heap} {t1 : Nat} (m : MxEnd R S wq G s) (k : ∀ (b : Addr) (o : Obj), b ∉ wq → b ≠ S → s.heap.get? b = some o → h1.get? b = some o) : MxEnd R S wq G { s with heap := h1, toks := t1 } :=
  fun v h' tk g kk => m v h' tk g fun b o n1 n2 e => kk b o n1 n2 (k b o n1 n2 e)
theorem mx_turns (Wk : Walks prog w A.in1 J fq wq N Iv Sv) (bt : Nat → Nat → Bool) (C : CmpOf prog w A.in1 .Gt Iv bt) (nS : S ∉ fq) (d : Nat) : ∀ (i : Nat) (s : Shared) (u : Value) (cap : Nat), N = (i + 1) + d → Sv (i + 1) s.heap → Iv (argBest bt i) u →
    s.heap.get? S = some { cls := .type "list", dict := none, data := .seq #[u, u] cap, slots := #[] } → MxEnd R S wq (Iv (argBest bt (N - 1))) s → codeAny (model prog w) A (mxC J S dv) R s := by
  have nw : S ∉ wq := fun m => nS (Wk.sub _ m)
  induction d with
  | zero =>
    intro i s u cap hN hSt hI hS hE
    have eN : i + 1 = N := by omega
    refine codeAny_builtin PySem.F.entry_max_loop ?_
    rw [Around.under_plainId PySem.F.plain_max_loop _]
    show wpAny _ A.in1 (seqItems? (.ref S) >>= _) _ _ s
    refine wpAny_bind (wpAny_seqItems hS rfl ?_)
    show wpAny _ A.in1 (tryCatch (pyNext (.ref J)) _ >>= _) _ _ s
    refine wpAny_bind (wpAny_tryCatch (Wk.done s _ _ (by rw [← eN]; exact hSt) fun h1 t1 k1 => ?_))
    have hS1 := k1 S _ nw hS
    show wpAny _ A.in1 (updateSeq S (fun _ => #[]) >>= _) _ _ _
    refine wpAny_bind (wpAny_updateSeq hS1 rfl (wpAny_bind (wpAny_letGo (wpAny_pure ?_))))
    refine hE u _ t1 (by rw [← eN]; exact hI) fun b o n1 n2 e => ?_
    exact (Heap.get?_update_other _ _ (Ne.symm n2)).trans (k1 b o n1 e)
  | succ d ih =>
    intro i s u cap hN hSt hI hS hE
    have hi : i + 1 < N := by omega
    refine codeAny_builtin PySem.F.entry_max_loop ?_
    rw [Around.under_plainId PySem.F.plain_max_loop _]
    show wpAny _ A.in1 (seqItems? (.ref S) >>= _) _ _ s
    refine wpAny_bind (wpAny_seqItems hS rfl ?_)
    show wpAny _ A.in1 (tryCatch (pyNext (.ref J)) _ >>= _) _ _ s
    refine wpAny_bind (wpAny_tryCatch (Wk.item (i + 1) s _ _ hi hSt fun v h1 t1 hv hSt1 k1 => ?_))
    have hS1 := k1 S _ nw hS
    show wpAny _ A.in1 (tryCatch (holding [v, v] (richCompare .Gt v u >>= _)) _ >>= _) _ _ _
    refine wpAny_bind (wpAny_tryCatch (wpAny_holding (wpAny_bind (C (i + 1) (argBest bt i) v u _ _ _ hv hI ?_))))
    refine wpAny_bind (wpAny_holding (wpAny_truthy_bool (wpAny_bind (wpAny_letGo (wpAny_pure ?_)))))
    cases q : bt (i + 1) (argBest bt i) with
    | true =>
      have eB : argBest bt (i + 1) = i + 1 := by simp only [argBest, q, if_true]
      simp only [if_true]
      refine wpAny_bind (wpAny_updateSeq hS1 rfl (wpAny_bind (wpAny_letGo ?_)))
      rw [mx_name]
      refine wpAny_pure ⟨plainId_quiet PySem.F.plain_max_loop _, ih (i + 1) _ v _ (by omega) (Wk.frame _ _ _ hSt1 fun b hb o e => ?_) (by rw [eB]; exact hv) (Heap.get?_update_self _ hS1 rfl) (hE.on fun b o n1 n2 e => ?_)⟩
      · exact (Heap.get?_update_other _ _ (fun z : S = b => nS (z ▸ hb))).trans e
      · exact (Heap.get?_update_other _ _ (Ne.symm n2)).trans (k1 b o n1 e)
    | false =>
      have eB : argBest bt (i + 1) = argBest bt i := by simp only [argBest, q, Bool.false_eq_true, if_false]
      simp only [Bool.false_eq_true, if_false]
      refine wpAny_bind (wpAny_letGo ?_)
      rw [mx_name]
      exact wpAny_pure ⟨plainId_quiet PySem.F.plain_max_loop _, ih (i + 1) _ u cap (by omega) hSt1 (by rw [eB]; exact hI) hS1 (hE.on fun b o n1 n2 e => k1 b o n1 e)⟩
/-- from the first turn on -/
theorem mx_first (Wk : Walks prog w A.in1 J fq wq N Iv Sv) (bt : Nat → Nat → Bool) (C : CmpOf prog w A.in1 .Gt Iv bt) (nS : S ∉ fq) {s : Shared} {cap : Nat} (hSt : Sv 0 s.heap)
    (hS : s.heap.get? S = some { cls := .type "list", dict := none, data := .seq #[] cap, slots := #[] }) (h0 : N = 0 → MxEnd R S wq (fun v => v = dv) s) (h1 : 0 < N → MxEnd R S wq (Iv (argBest bt (N - 1))) s) : codeAny (model prog w) A (mxC J S dv) R s := by
  have nw : S ∉ wq := fun m => nS (Wk.sub _ m)
  refine codeAny_builtin PySem.F.entry_max_loop ?_
  rw [Around.under_plainId PySem.F.plain_max_loop _]
  show wpAny _ A.in1 (seqItems? (.ref S) >>= _) _ _ s
  refine wpAny_bind (wpAny_seqItems hS rfl ?_)
  show wpAny _ A.in1 (tryCatch (pyNext (.ref J)) _ >>= _) _ _ s
  rcases Nat.eq_zero_or_pos N with e | hN
  · refine wpAny_bind (wpAny_tryCatch (Wk.done s _ _ (by rw [e]; exact hSt) fun h' tk k' => ?_))
    show wpAny _ A.in1 (rule (toString "max" ++ toString ".default") >>= fun _ => ret dv) _ _ _
    refine wpAny_bind (wpAny_rule ?_)
    exact wpAny_pure (h0 e dv h' tk rfl fun b o n1 n2 ee => k' b o n1 ee)
  · refine wpAny_bind (wpAny_tryCatch (Wk.item 0 s _ _ hN hSt fun v h' tk hv hSt1 k' => ?_))
    have hS1 := k' S _ nw hS
    show wpAny _ A.in1 (updateSeq S (fun _ => #[v, v]) >>= _) _ _ _
    refine wpAny_bind (wpAny_updateSeq hS1 rfl ?_)
    rw [mx_name]
    refine wpAny_pure ⟨plainId_quiet PySem.F.plain_max_loop _, mx_turns Wk bt C nS (N - 1) 0 _ v _ (by omega) (Wk.frame _ _ _ hSt1 fun b hb o e => ?_) hv (Heap.get?_update_self _ hS1 rfl) ((h1 hN).on fun b o n1 n2 e => ?_)⟩
    · exact (Heap.get?_update_other _ _ (fun z : S = b => nS (z ▸ hb))).trans e
    · exact (Heap.get?_update_other _ _ (Ne.symm n2)).trans (k' b o n1 e)
end
section
variable {prog : Program} {w : World} {A : Around} {E : Value → Shared → Prop} {s : Shared} {l : Addr}
theorem mx_args (a v : Value) : argsOk "max" ⟨[a], kwD v⟩ := by unfold argsOk kwD; kernel_rfl
theorem max_dflt {xs : Array (Int × Tok)} {dv : Value} {Q : Value → Shared → Prop} (hh : A.handled = none) (hl : s.heap.IsList l (intItems xs))
    (k0 : xs.size = 0 → ∀ h' tk, (∀ b o, s.heap.get? b = some o → h'.get? b = some o) → Q dv { s with heap := h', toks := tk })
    (k1 : 0 < xs.size → ∀ v h' tk, (intItems xs)[argBest (fun i j => decide (numAt xs i > numAt xs j)) (xs.size - 1)]? = some v → (∀ b o, s.heap.get? b = some o → h'.get? b = some o) → Q v { s with heap := h', toks := tk }) :
    wpAny (model prog w) A (call (.builtin "max") [.ref l] (kwD dv)) Q E s := by
  have fin : wpAny (model prog w) A.in1 (Builtin.«max» ⟨[.ref l], kwD dv⟩) (fun z s' => match z with
      | .done f => (match (Except.ok f : Result) with | .ok (.ret v) => Q v s' | .ok _ => False | .error e => E e s')
      | .again c' => c'.quiet = true ∧ codeAny (model prog w) A c' (fun r s' => match r with | .ok (.ret v) => Q v s' | .ok _ => False | .error e => E e s') s') E s := by
    show wpAny _ A.in1 (Builtin.Builtins.bindParams "max" ["key", "default"] 0 ⟨[], kwD dv⟩ >>= _) _ _ s
    refine wpAny_bind (wpAny_of_eq (show Builtin.Builtins.bindParams "max" ["key", "default"] 0 ⟨[], kwD dv⟩ = pure [none, some dv] from rfl) ?_)
    refine wpAny_bind (wpAny_pure ?_)
    refine wpAny_bind (iter_intList hl fun s2 e hI hlt ne => ?_)
    subst e
    refine wpAny_bind (wpAny_newObj_type ?_)
    rw [mx_name]
    have nS : s.heap.objs.size + 1 ∉ [s.heap.objs.size, l] := fun m => by
      have hl' : l < s.heap.objs.size := by
        obtain ⟨_, e, _⟩ := hl
        exact Heap.lt_size e
      rcases List.mem_cons.mp m with e | m
      · exact absurd e (Nat.succ_ne_self _)
      · rw [List.mem_singleton] at m
        rw [← m] at hl'
        exact Nat.lt_irrefl _ (Nat.lt_of_succ_lt hl')
    have sz : (s.heap.push { cls := .type "list_iterator", data := .fields #[.ref l, .int 0 0] }).objs.size = s.heap.objs.size + 1 := Heap.size_push ..
    have Wk := Walks.list (prog := prog) (w := w) (A := A.in1) hh s.heap.objs.size l ne (intItems xs)
    have old : ∀ (b : Addr) (o : Obj), s.heap.get? b = some o → b ∉ [s.heap.objs.size] ∧ b ≠ s.heap.objs.size + 1 := fun b o e => by
      have := Heap.lt_size e
      refine ⟨fun m => ?_, Nat.ne_of_lt (Nat.lt_succ_of_lt this)⟩
      rw [List.mem_singleton] at m
      exact Nat.ne_of_lt this m
    refine wpAny_pure ⟨plainId_quiet PySem.F.plain_max_loop _, ?_⟩
    rw [sz]
    refine mx_first (S := s.heap.objs.size + 1) (dv := dv) Wk (fun i j => decide (numAt xs i > numAt xs j)) (CmpOf.ints_gt (numAt xs) fun _ _ => intItems_at) nS (Wk.frame _ _ _ hI fun b _ o e => Heap.get?_push_of_some _ e) (by rw [← sz]; exact Heap.get?_push_size _ rfl) (fun h0 v h' tk g k => ?_) (fun h1 v h' tk g k => ?_)
    · subst g
      exact k0 (by simpa [intItems] using h0) h' tk fun b o e => k b o (old b o e).1 (old b o e).2 (Heap.get?_push_of_some _ (Heap.get?_push_of_some _ e))
    · exact k1 (by simpa [intItems] using h1) v h' tk (by simpa [intItems] using g) fun b o e => k b o (old b o e).1 (old b o e).2 (Heap.get?_push_of_some _ (Heap.get?_push_of_some _ e))
  refine wpAny_call (codeAny_call_builtin PySem.F.plain_max PySem.F.entry_max ?_)
  simp only [checkBuiltinCall, PySem.F.kind_max]
  cases q : Manifest.signature? "max" with
  | none => exact wpAny_pure fin
  | some sig =>
    have ha := mx_args (.ref l) dv
    simp only [argsOk, q] at ha
    show wpAny _ A.in1 (Bind.checkArgs "max" sig ⟨[.ref l], kwD dv⟩) _ _ s
    rw [show Bind.checkArgs "max" sig ⟨[.ref l], kwD dv⟩ = pure () from ha]
    exact wpAny_pure fin
end
section
variable {X : Cx}
/-- max(xs, default=d) -/
def rMaxDf (K : PySem.W.Frag) : List V → List V → Hp → VK → Prop := fun vs zs H Q => ∃ (a : Addr) (ns : List Int) (d : Int), vs = [.ref a] ∧ zs = [.int d] ∧ SqL K H a (ns.map V.int) ∧ ∀ m : Int, (ns = [] → m = d) → (ns ≠ [] → m ∈ ns ∧ ∀ y ∈ ns, y ≤ m) → Q (.int m) H
theorem cr_maxDf (hc : X.calm = true) : CallRK X (.builtin "max") [Str.ofString "default"] (rMaxDf X.K) := by
  intro pins s σ H vs zs us ws Q I r rz h
  obtain ⟨a, ns, d, rfl, rfl, hs, q⟩ := h
  obtain ⟨dv, rfl, rd⟩ := rz.one
  obtain ⟨its, rv, hl, _⟩ := I.list hs
  rw [Vals.ref1 r]
  obtain ⟨xs, e⟩ := rv.ints.allInts.items
  have hn : numsOf (intItems xs).toList = ns := by
    rw [← e]
    exact rv.ints.numsOf
  rw [nums_intItems] at hn
  have hl' := hl.isList
  rw [e] at hl'
  have ln : ns.length = xs.size := by rw [← hn, List.length_map, Array.length_toList]
  refine max_dflt (I.ok.hd hc) hl' (fun h0 h' tk k => ?_) (fun h1 v h' tk hv k => ?_)
  · have e0 : ns = [] := List.eq_nil_of_length_eq_zero (by omega)
    exact ⟨.int d, H, I.kept k, rd, q d (fun _ => rfl) fun z => absurd e0 z⟩
  · obtain ⟨t, rfl⟩ := intItems_at hv
    obtain ⟨b1, b2⟩ := argBest_gt (numAt xs) (xs.size - 1)
    have ne : ns ≠ [] := fun z => by
      rw [z] at ln
      simp at ln
      omega
    refine ⟨.int _, H, I.kept k, ⟨_, rfl⟩, q _ (fun z => absurd z ne) fun _ => ⟨?_, fun y hy => ?_⟩⟩
    · rw [numAt_eq, hn]
      exact PySem.getD_mem (by omega)
    · obtain ⟨j, hj, rfl⟩ := mem_getD hy
      rw [← hn, ← numAt_eq]
      exact b2 j (by omega)
end
end KB
set_option Elab.async false
set_option linter.all false
set_option maxRecDepth 100000
set_option maxHeartbeats 4000000
/-! Lives as data; dictionaries from numbers to things. -/
namespace K18
open PySem PySem.Spec PyProof.Rows L2 KB
structure FreeS (mg : Str → Option Value) : Prop extends Free mg where
  tstr : mg "str" = none
  sorted : mg "sorted" = none
theorem SqT_up {K : PySem.W.Frag} {H H' : Hp} {a : Addr} {xs : List V} (k : Same H H') (h : SqT K H a xs) : SqT K H' a xs := by
  rcases h with (h | ⟨o, h⟩) | h
  · exact .inl (.inl (k _ _ h))
  · exact .inl (.inr ⟨o, k _ _ h⟩)
  · exact .inr h
theorem SqT_but {K : PySem.W.Frag} {H H' : Hp} {a pu : Addr} {xs : List V} (k : But pu H H') (h : SqT K H a xs) (q : ∃ ys, H pu = some (.lst ys)) : SqT K H' a xs := by
  obtain ⟨ys, q⟩ := q
  rcases h with (h | ⟨o, h⟩) | h
  · refine .inl (.inl (k _ _ (fun z => ?_) h))
    rw [z, q] at h
    cases h
  · refine .inl (.inr ⟨o, k _ _ (fun z => ?_) h⟩)
    rw [z, q] at h
    cases h
  · exact .inr h
theorem sqT_ty {K : PySem.W.Frag} {H : Hp} {a : Addr} {xs : List V} (h : SqT K H a xs) : TyX K H (.ref a) (.type "tuple") := by
  rcases h with (h | ⟨o, h⟩) | ⟨o, its, n, e1, e2, _⟩
  · exact .base (.tup h)
  · exact .fTuple h
  · exact .kTuple e1 e2
def Ev.v : Ev → List V
  | .wr c => [.str "write", .int (c : Int)]
  | .bar => [.str "barrier"]
  | .tell => [.str "tell"]
def Ev.d : Ev → PyData
  | .wr c => .tuple [.str "write", .int (c : Int)]
  | .bar => .tuple [.str "barrier"]
  | .tell => .tuple [.str "tell"]
def numsV (l : List Nat) : List V := l.map fun x : Nat => V.int (x : Int)
/-- a dictionary made over what a Walk tells -/
theorem dc_walk {J : It} {n : Nat} {G0 : Hp → Prop} {Y : Nat → Hp → V → Hp → Prop} {g : TG} {tt : TT} {tk tv : TE} {vs : List Nat} {σ : L2.St} {H1 : Hp} {D : Addr} {Z : Hp → Prop} (w : Walk J n G0 Y) (I : Nat → Hp → Prop) (h0 : I 0 (upd H1 D (.dK []))) (hp : ∀ i G, i ≤ n → I i G → G0 G)
    (turn : ∀ (i : Nat) (x : V) (G G' : Hp), i < n → I i G → Y i G x G' → g x (wipe σ vs) G' fun σ2 H2 => wipe σ2 vs = wipe σ vs ∧ tt σ2 H2 fun b H3 =>
      if b = true then tk σ2 H3 fun y H4 => tv σ2 H4 fun z H5 => ∃ kvs k, y = kV k ∧ H5 D = some (.dK kvs) ∧ kvs.length < sizeLine ∧ I (i + 1) (upd H5 D (.dK (putK kvs k z))) else I (i + 1) H3) (fin : ∀ G, I n G → Z G) :
    ∃ W : Nat → Nat → Hp → Prop, (∃ m, W 0 m (upd H1 D (.dK []))) ∧ ∀ i m H, W i m H → (J.stop i H ∧ Z H) ∨ (J.go i H ∧ ∃ Nx : Hp → Prop, (∀ H', Nx H' → ∃ m', m' < m ∧ W (i + 1) m' H') ∧ ∀ x H', J.yld i H x H' → g x (wipe σ vs) H' fun σ2 H2 => wipe σ2 vs = wipe σ vs ∧ tt σ2 H2 fun b H3 =>
      if b = true then tk σ2 H3 fun y H4 => tv σ2 H4 fun z H5 => ∃ kvs k, y = kV k ∧ H5 D = some (.dK kvs) ∧ kvs.length < sizeLine ∧ Nx (upd H5 D (.dK (putK kvs k z))) else Nx H3) := by
  refine ⟨fun i m G => m = n - i ∧ i ≤ n ∧ I i G, ⟨n, by simp, Nat.zero_le _, h0⟩, ?_⟩
  rintro i m G ⟨rfl, hi, z⟩
  by_cases lt : i < n
  · exact .inr ⟨w.goes i G lt (hp i G hi z), I (i + 1), fun G' z' => ⟨n - (i + 1), by omega, rfl, lt, z'⟩, fun x G' y => turn i x G G' lt z (w.yields i G x G' lt (hp i G hi z) y)⟩
  · obtain rfl : i = n := by omega
    exact .inl ⟨w.stops G (hp i G hi z), fin G z⟩
abbrev ky (p : Nat) : Key := Sum.inl (p : Int)
def dV (ps : List Nat) (f : Nat → V) : List (Key × V) := ps.map fun p => (ky p, f p)
theorem ky_inj {p q : Nat} : ky p = ky q ↔ p = q := by
  constructor
  · intro h
    have := Sum.inl.inj h
    omega
  · exact fun h => h ▸ rfl
theorem dV_len (ps : List Nat) (f : Nat → V) : (dV ps f).length = ps.length := List.length_map _
theorem dV_val {ps : List Nat} {f : Nat → V} {p : Nat} (h : p ∈ ps) : valV (dV ps f) (ky p) = some (f p) := by
  induction ps with
  | nil => cases h
  | cons q ps ih =>
    by_cases e : q = p
    · subst e
      exact valV_pos rfl
    · have h' : p ∈ ps := by
        rcases List.mem_cons.mp h with h | h
        · exact absurd h.symm e
        · exact h
      unfold valV at ih ⊢
      have ne : ¬ (ky q = ky p) := fun z => e (ky_inj.mp z)
      show ((dV (q :: ps) f).find? _).map _ = _
      unfold dV
      rw [List.map_cons, List.find?_cons_of_neg (by simpa using ne)]
      exact ih h'
theorem dV_none {ps : List Nat} {f : Nat → V} {p : Nat} (h : p ∉ ps) : valV (dV ps f) (ky p) = none := by
  unfold valV dV
  rw [Option.map_eq_none_iff, List.find?_eq_none]
  intro kv hkv
  obtain ⟨q, hq, rfl⟩ := List.mem_map.mp hkv
  intro z
  exact h (ky_inj.mp (of_decide_eq_true z) ▸ hq)
def put (f : Nat → V) (p : Nat) (v : V) : Nat → V := fun q => if q = p then v else f q
theorem dV_any {ps : List Nat} {f : Nat → V} {p : Nat} : ((dV ps f).any fun kv => decide (kv.1 = ky p)) = decide (p ∈ ps) := by
  unfold dV
  rw [List.any_map]
  by_cases h : p ∈ ps
  · rw [decide_eq_true h, List.any_eq_true]
    exact ⟨p, h, decide_eq_true rfl⟩
  · rw [decide_eq_false h, List.any_eq_false]
    intro q hq z
    exact h (ky_inj.mp (of_decide_eq_true z) ▸ hq)
theorem dV_put {ps : List Nat} {f : Nat → V} {p : Nat} {v : V} (h : p ∈ ps) : putK (dV ps f) (ky p) v = dV ps (put f p v) := by
  unfold putK
  rw [dV_any, decide_eq_true h, if_pos rfl]
  unfold dV
  rw [List.map_map]
  refine List.map_congr_left fun q hq => ?_
  show (if ky q = ky p then (ky q, v) else (ky q, f q)) = (ky q, put f p v q)
  unfold put
  by_cases e : q = p
  · rw [if_pos e, if_pos (ky_inj.mpr e)]
  · rw [if_neg e, if_neg fun z => e (ky_inj.mp z)]
theorem dV_new {ps : List Nat} {f : Nat → V} {p : Nat} {v : V} (h : p ∉ ps) : putK (dV ps f) (ky p) v = dV (ps ++ [p]) (put f p v) := by
  unfold putK
  rw [dV_any, decide_eq_false h, if_neg Bool.false_ne_true]
  unfold dV
  rw [List.map_append]
  refine congr (congrArg _ (List.map_congr_left fun q hq => ?_)) ?_
  · unfold put
    rw [if_neg (fun e : q = p => h (e ▸ hq))]
  · simp [put]
theorem dV_congr {ps : List Nat} {f g : Nat → V} (h : ∀ p ∈ ps, f p = g p) : dV ps f = dV ps g := List.map_congr_left fun p hp => by rw [h p hp]
/-- marks: a number for each page -/
abbrev mV (ps : List Nat) (m : Nat → Nat) : List (Key × V) := dV ps fun p => .int (m p : Int)
def putN (m : Nat → Nat) (p n : Nat) : Nat → Nat := fun q => if q = p then n else m q
theorem mV_put {ps : List Nat} {m : Nat → Nat} {p n : Nat} (h : p ∈ ps) : putK (mV ps m) (ky p) (.int (n : Int)) = mV ps (putN m p n) := by
  rw [dV_put h]
  refine dV_congr fun q _ => ?_
  unfold put putN
  by_cases e : q = p
  · rw [if_pos e, if_pos e]
  · rw [if_neg e, if_neg e]
theorem merge_dV : ∀ {qs ps : List Nat} {f : Nat → V}, (ps ++ qs).Nodup → mergeK (dV ps f) (dV qs f) = dV (ps ++ qs) f
  | [], ps, f, _ => by
    rw [List.append_nil]
    rfl
  | q :: qs, ps, f, h => by
    have nq : q ∉ ps := fun m => by
      have := List.nodup_append.mp h
      exact this.2.2 q m q List.mem_cons_self rfl
    have e : mergeK (dV ps f) (dV (q :: qs) f) = mergeK (putK (dV ps f) (ky q) (f q)) (dV qs f) := rfl
    have e2 : dV (ps ++ [q]) (put f q (f q)) = dV (ps ++ [q]) f := dV_congr fun p _ => by
      unfold put
      split
      · next z => rw [z]
      · rfl
    rw [e, dV_new nq, e2, merge_dV (by rw [List.append_assoc]; exact h), List.append_assoc]
    rfl
theorem merge_dV0 {qs : List Nat} {f : Nat → V} (h : qs.Nodup) : mergeK [] (dV qs f) = dV qs f := merge_dV (ps := []) h
end K18
set_option Elab.async false
set_option linter.all false
namespace KB
open PySem PySem.Spec PyProof.Rows L2
/-- all but what stands at D -/
def off (H : Hp) (D : Addr) : Hp := fun b => if b = D then none else H b
theorem off_at {H : Hp} {D b : Addr} (n : b ≠ D) : off H D b = H b := if_neg n
theorem off_same {H H' : Hp} (D : Addr) (k : Same H H') : Same (off H D) (off H' D) := fun b o e => by
  by_cases n : b = D
  · unfold off at e
    rw [if_pos n] at e
    cases e
  · rw [off_at n] at e ⊢
    exact k _ _ e
theorem off_le (H : Hp) (D : Addr) : Same (off H D) H := fun b o e => by
  by_cases n : b = D
  · unfold off at e
    rw [if_pos n] at e
    cases e
  · rw [off_at n] at e
    exact e
theorem off_upd (H : Hp) (D : Addr) (o : HO) : off (upd H D o) D = off H D := by
  funext b
  unfold off
  by_cases n : b = D
  · rw [if_pos n, if_pos n]
  · rw [if_neg n, if_neg n, upd_ne n]
theorem off_in {H G : Hp} {D : Addr} (k : Same H G) (n : H D = none) : Same H (off G D) := fun b o e => by
  rw [off_at (ne_of_none e n)]
  exact k b o e
end KB
set_option Elab.async false
set_option linter.all false
set_option maxRecDepth 100000
set_option maxHeartbeats 8000000
namespace K18
open PySem PySem.Spec PyProof.Rows L2 KB RZ
abbrev s_exact : Stmt := top 45
abbrev N_exact : List Str := ["_law_mine", "_law_theirs", "_law_alike", "_law_a", "_law_b", "_law_key"]
theorem sc_exact : FnScope N_exact ["_law_mine", "_law_theirs"] (defScope s_exact) := ⟨rfl, rfl, rfl, by decide +kernel, rfl, by decide +kernel, by decide +kernel⟩
/-- as Tr, with dictionaries of marks -/
def TD (K : PySem.W.Frag) (H : Hp) : Nat → V → PyData → Prop
  | 0, x, d => FlatD x d
  | n + 1, x, d => FlatD x d ∨ (∃ (a : Addr) (xs : List V) (ds : List PyData), x = .ref a ∧ xs.length = ds.length ∧ ds.length ≤ 1000 ∧ ((H a = some (.lst xs) ∧ d = .list ds) ∨ (SqT K H a xs ∧ d = .tuple ds)) ∧
      ∀ (i : Nat) (u : V) (e : PyData), xs[i]? = some u → ds[i]? = some e → TD K H n u e) ∨ ∃ (a : Addr) (ps : List Nat) (m : Nat → Nat), x = .ref a ∧ (1 ≤ n ∧ ps.length ≤ 1000 ∧ ps.Nodup) ∧ H a = some (.dK (mV ps m)) ∧ d = .dict (ps.map fun p : Nat => (.int (p : Int), .int (m p : Int)))
theorem TD.same {K : PySem.W.Frag} {H H' : Hp} (k : Same H H') : ∀ {n : Nat} {x : V} {d : PyData}, TD K H n x d → TD K H' n x d
  | 0, _, _, h => h
  | n + 1, _, _, h => by
    rcases h with h | ⟨a, xs, ds, e, l, l1, t, c⟩ | ⟨a, ps, m, e, n1, ha, ed⟩
    · exact .inl h
    · refine .inr (.inl ⟨a, xs, ds, e, l, l1, ?_, fun i u v e1 e2 => TD.same k (c i u v e1 e2)⟩)
      rcases t with ⟨t1, t2⟩ | ⟨t1, t2⟩
      · exact .inl ⟨k _ _ t1, t2⟩
      · exact .inr ⟨SqT_up k t1, t2⟩
    · exact .inr (.inr ⟨a, ps, m, e, n1, k _ _ ha, ed⟩)
theorem TD.of {K : PySem.W.Frag} {H : Hp} : ∀ {n : Nat} {x : V} {d : PyData}, Tr H n x d → TD K H n x d
  | 0, _, _, h => h
  | n + 1, _, _, h => by
    rcases h with h | ⟨a, xs, ds, e, l, l1, t, c⟩
    · exact .inl h
    · exact .inr (.inl ⟨a, xs, ds, e, l, l1, t.imp id (fun z => ⟨SqT.of z.1, z.2⟩), fun i u v e1 e2 => TD.of (c i u v e1 e2)⟩)
theorem TD.up {K : PySem.W.Frag} {H : Hp} : ∀ {n : Nat} {x : V} {d : PyData}, TD K H n x d → TD K H (n + 1) x d
  | 0, _, _, h => .inl h
  | n + 1, _, _, h => by
    rcases h with h | ⟨a, xs, ds, e, l, l1, t, c⟩ | h
    · exact .inl h
    · exact .inr (.inl ⟨a, xs, ds, e, l, l1, t, fun i u v e1 e2 => TD.up (c i u v e1 e2)⟩)
    · obtain ⟨a, ps, m, e, n1, r⟩ := h
      exact .inr (.inr ⟨a, ps, m, e, ⟨by omega, n1.2⟩, r⟩)
theorem TD.lst {K : PySem.W.Frag} {H : Hp} {n : Nat} {a : Addr} {xs : List V} {ds : List PyData} (h : H a = some (.lst xs)) (l : xs.length = ds.length) (s : ds.length ≤ 1000) (k : ∀ (i : Nat) (u : V) (e : PyData), xs[i]? = some u → ds[i]? = some e → TD K H n u e) : TD K H (n + 1) (.ref a) (.list ds) :=
  .inr (.inl ⟨a, xs, ds, rfl, l, s, .inl ⟨h, rfl⟩, k⟩)
theorem TD.dct {K : PySem.W.Frag} {H : Hp} {n : Nat} {a : Addr} {ps : List Nat} {m : Nat → Nat} (h : H a = some (.dK (mV ps m))) (l : ps.length ≤ 1000) (nd : ps.Nodup) : TD K H (n + 2) (.ref a) (.dict (ps.map fun p : Nat => (.int (p : Int), .int (m p : Int)))) := .inr (.inr ⟨a, ps, m, rfl, ⟨by omega, l, nd⟩, h, rfl⟩)
theorem TD.flat {K : PySem.W.Frag} {H : Hp} {n : Nat} {x : V} {d : PyData} (h : FlatD x d) : TD K H n x d := by
  cases n with
  | zero => exact h
  | succ n => exact .inl h
theorem td_cons {K : PySem.W.Frag} {H : Hp} {n : Nat} {x : V} {xs : List V} {d : PyData} {ds : List PyData} (h : TD K H n x d) (k : ∀ (i : Nat) (u : V) (e : PyData), xs[i]? = some u → ds[i]? = some e → TD K H n u e) : ∀ (i : Nat) (u : V) (e : PyData), (x :: xs)[i]? = some u → (d :: ds)[i]? = some e → TD K H n u e := fun i u e h1 h2 => by
  cases i with
  | zero =>
    cases h1
    cases h2
    exact h
  | succ i => exact k i u e h1 h2
theorem td_nil {K : PySem.W.Frag} {H : Hp} {n : Nat} : ∀ (i : Nat) (u : V) (e : PyData), ([] : List V)[i]? = some u → ([] : List PyData)[i]? = some e → TD K H n u e := fun i u e h1 h2 => by simp at h1
theorem dict_inj : ∀ {ps qs : List Nat} {m m' : Nat → Nat}, (ps.map fun p : Nat => (PyData.int (p : Int), PyData.int (m p : Int))) = (qs.map fun p : Nat => (PyData.int (p : Int), PyData.int (m' p : Int))) → ps = qs ∧ ∀ p ∈ ps, m p = m' p
  | [], [], _, _, _ => ⟨rfl, fun p h => nomatch h⟩
  | [], q :: qs, _, _, e => by cases e
  | p :: ps, [], _, _, e => by cases e
  | p :: ps, q :: qs, m, m', e => by
    rw [List.map_cons, List.map_cons] at e
    obtain ⟨e1, e2⟩ := List.cons.inj e
    have h1 := PyData.int.inj (congrArg Prod.fst e1)
    have h2 := PyData.int.inj (congrArg Prod.snd e1)
    have hp : p = q := by omega
    subst hp
    obtain ⟨h3, h4⟩ := dict_inj e2
    refine ⟨by rw [h3], fun r hr => ?_⟩
    rcases List.mem_cons.mp hr with rfl | hr
    · omega
    · exact h4 r hr
theorem mV_val {ps : List Nat} {m : Nat → Nat} {p : Nat} (h : p ∈ ps) : valV (mV ps m) (ky p) = some (.int (m p : Int)) := dV_val h
def spExactD (K : PySem.W.Frag) (n : Nat) : Sp := fun vs H Q _ => ∃ (x y : V) (d : PyData), vs = [x, y] ∧ TD K H n x d ∧ TD K H n y d ∧ ∀ H', Same H H' → Q (.bl true) H'
section
variable {P : Program} {w : World} {K : PySem.W.Frag} {mg : Str → Option Value} {base : Heap} {f : Addr} {fd : FuncData}
theorem ok_exact (F : FnP K "_law_exact" s_exact f fd) (Z : FreeS mg) (gE : mg "_law_exact" = some (.ref f)) : ∀ n : Nat, FnOk P w K mg base CX0 (n + 1) f fd ["_law_mine", "_law_theirs"] (spExactD K n) := by
  have bE : Binds K fd ["_law_mine", "_law_theirs"] [] := F.bindsN fun _ _ _ _ _ _ us hl => match us, hl with | [_, _], _ => rfl
  have kitF : ∀ {t : String}, kitB t "list" = some false → kitB t "tuple" = some false → PySem.W.kitAny K (.type t) [.type "list", .type "tuple"] = some false := fun h1 h2 =>
    kitAny_cons (kit_ty h1) (fun _ => kitAny_cons (kit_ty h2) (fun _ => kitAny_nil) (fun z => nomatch z)) (fun z => nomatch z)
  have la : kitB "list" "list" = some true := by decide +kernel
  have lt : kitB "list" "tuple" = some false := by decide +kernel
  have ta : kitB "tuple" "tuple" = some true := by decide +kernel
  have tl : kitB "tuple" "list" = some false := by decide +kernel
  intro n
  induction n with
  | zero =>
    refine F.ok sc_exact (fun vs H Q E h => ?_) (fun cdv A outer s H vs Q E hr h => ?_)
    · obtain ⟨x, y, d, rfl, _⟩ := h
      rfl
    · obtain ⟨x, y, d, rfl, hx, hy, k⟩ := h
      have hx : FlatD x d := hx
      obtain rfl : y = x := FlatD.eq hy hx
      have nd := sc_exact.nd
      refine ⟨_, PSs.nox (pss_cons (ps_if (pt_val (pe_callB call_isiT (by rfl) Z.isi (by decide +kernel) (pa_cons (pv 0) (pa_cons (pe_tup (pa_cons (pe_bltn (v := .ty "list") (by rfl) Z.tlist (by decide +kernel) rfl) (pa_cons (pe_bltn (v := .ty "tuple") (by rfl) Z.ttuple (by decide +kernel) rfl) (pa_nil)))) pa_nil)))) (pss_cons ps_dead (pss_one ps_dead)) (pss_nil))
      (pss_cons (ps_if (pt_val (pe_callB call_isi (by rfl) Z.isi (by decide +kernel) (pa_cons (pv 0) (pa_cons (pe_bltn (v := .ty "dict") (by rfl) Z.tdict (by decide +kernel) rfl) pa_nil)))) (pss_cons ps_dead (pss_one ps_dead)) (pss_nil))
      (pss_cons (ps_set (i := 2) nd rfl (Or.inl rfl) (pe_cmpR op_eq (pe_callB call_isi (by rfl) Z.isi (by decide +kernel) (pa_cons (pv 0) (pa_cons (pe_bltn (v := .ty "int") (by rfl) Z.int (by decide +kernel) rfl) pa_nil))) (pe_callB call_isi (by rfl) Z.isi (by decide +kernel) (pa_cons (pv 1) (pa_cons (pe_bltn (v := .ty "int") (by rfl) Z.int (by decide +kernel) rfl) pa_nil))) (nomark _)))
      (pss_one (ps_ret (pe_and (pv 2) (pe_and (pe_cmpR op_eq (pe_callB call_isi (by rfl) Z.isi (by decide +kernel) (pa_cons (pv 0) (pa_cons (pe_bltn (v := .ty "bool") (by rfl) Z.tbool (by decide +kernel) rfl) pa_nil))) (pe_callB call_isi (by rfl) Z.isi (by decide +kernel) (pa_cons (pv 1) (pa_cons (pe_bltn (v := .ty "bool") (by rfl) Z.tbool (by decide +kernel) rfl) pa_nil))) (nomark _)) (pe_one (pe_cmpR op_eq (pv 0) (pv 1) (nomark _)))))))))), ?_⟩
      refine ⟨_, rfl, (by show 2 ≤ sizeLine; decide), fun T hT => ?_⟩
      have s1 : Same H (upd H T (.tup [.ty "list", .ty "tuple"])) := Same.updf hT
      obtain ⟨t', ty', k1', k2', k3', i', b', k4', k5'⟩ := FlatD.ty (K := K) (H := upd H T (.tup [.ty "list", .ty "tuple"])) hx
      refine ⟨y, T, [.ty "list", .ty "tuple"], .type t', [.type "list", .type "tuple"], false, rfl, upd_same, .cons (.ty _) (.cons (.ty _) .nil), ty', kitF k1' k2', false, rfl, iteF ?_⟩
      refine ⟨_, rfl, y, .ty "dict", .type t', .type "dict", false, rfl, .ty _, ty', kit_ty k3', false, rfl, iteF ?_⟩
      refine ⟨_, rfl, y, .ty "int", .type t', .type "int", i', rfl, .ty _, ty', kit_ty k4', _, rfl, y, .ty "int", .type t', .type "int", i', rfl, .ty _, ty', kit_ty k4', rfl, ?_⟩
      rw [decide_eq_true (rfl : V.bl i' = V.bl i')]
      refine ⟨_, rfl, true, rfl, iteT ?_⟩
      refine ⟨_, rfl, y, .ty "bool", .type t', .type "bool", b', rfl, .ty _, ty', kit_ty k5', _, rfl, y, .ty "bool", .type t', .type "bool", b', rfl, .ty _, ty', kit_ty k5', rfl, ?_⟩
      rw [decide_eq_true (rfl : V.bl b' = V.bl b')]
      refine ⟨true, rfl, iteT ?_⟩
      refine ⟨_, rfl, _, rfl, FlatD.scal hx, ?_⟩
      rw [decide_eq_true (rfl : y = y)]
      exact k _ s1
  | succ n ih =>
    refine F.ok sc_exact (fun vs H Q E h => ?_) (fun cdv A outer s H vs Q E hr h => ?_)
    · obtain ⟨x, y, d, rfl, _⟩ := h
      rfl
    · obtain ⟨x, y, d, rfl, hx, hy, k⟩ := h
      have hu : (A.deeper (envOfC "_law_exact" (defScope s_exact) s.heap.objs.size f cdv)).units + 1 < cLine := by
        have := hr.units
        omega
      have nd := sc_exact.nd
      refine ⟨_, PSs.nox (pss_cons (ps_if (pt_val (pe_callB call_isiT (by rfl) Z.isi (by decide +kernel) (pa_cons (pv 0) (pa_cons (pe_tup (pa_cons (pe_bltn (v := .ty "list") (by rfl) Z.tlist (by decide +kernel) rfl) (pa_cons (pe_bltn (v := .ty "tuple") (by rfl) Z.ttuple (by decide +kernel) rfl) (pa_nil)))) pa_nil)))) (pss_cons (ps_set (i := 2) nd rfl (Or.inl rfl) (pe_and (pe_cmpR op_eq (pe_callB call_isi (by rfl) Z.isi (by decide +kernel) (pa_cons (pv 1) (pa_cons (pe_bltn (v := .ty "list") (by rfl) Z.tlist (by decide +kernel) rfl) pa_nil))) (pe_callB call_isi (by rfl) Z.isi (by decide +kernel) (pa_cons (pv 0) (pa_cons (pe_bltn (v := .ty "list") (by rfl) Z.tlist (by decide +kernel) rfl) pa_nil))) (nomark _)) (pe_one (pe_cmpR op_eq (pe_callB call_isi (by rfl) Z.isi (by decide +kernel) (pa_cons (pv 1) (pa_cons (pe_bltn (v := .ty "tuple") (by rfl) Z.ttuple (by decide +kernel) rfl) pa_nil))) (pe_callB call_isi (by rfl) Z.isi (by decide +kernel) (pa_cons (pv 0) (pa_cons (pe_bltn (v := .ty "tuple") (by rfl) Z.ttuple (by decide +kernel) rfl) pa_nil))) (nomark _)))))
      (pss_one (ps_ret (pe_and (pv 2) (pe_and (pe_cmpR op_eq (pe_callB call_len_seq (by rfl) Z.len (by decide +kernel) (pa_cons (pv 0) (pa_nil))) (pe_callB call_len_seq (by rfl) Z.len (by decide +kernel) (pa_cons (pv 1) (pa_nil))) (nomark _)) (pe_one (pe_callB (cr_all rfl) (by rfl) Z.all (by decide +kernel) (pa_cons (pe_lc (own := [("_law_a", 3), ("_law_b", 4)]) (g := gTup K 2 (gCons (gName 3) (gCons (gName 4) (gNil)))) (tt := tYes) (te := tCall (spExactD K n) [] E0 (tCons (tVar 3) (tCons (tVar 4) tNil))) (by rfl) nd (pi_zipA (by rfl) Z.zip (pa_cons (pv 0) (pa_cons (pv 1) pa_nil)))
          (blkOk_by (own := [("_law_a", 3), ("_law_b", 4)]) (N := N_exact) (sc := defScope s_exact) (by decide +kernel)) (fun _ _ _ _ _ => pg_tup rfl (pgs_cons (pg_name (i := 3) nd rfl (Or.inl rfl)) (pgs_cons (pg_name (i := 4) nd rfl (Or.inl rfl)) (pgs_nil)))) (fun _ _ _ _ _ => pts_nil)
          (fun _ _ _ _ _ => pe_call ih hr rfl gE F.kp bE .nil pass0 (pa_cons (pv 3) (pa_cons (pv 4) pa_nil)))) (pa_nil))))))))) (pss_nil))
      (pss_cons (ps_if (pt_val (pe_callB call_isi (by rfl) Z.isi (by decide +kernel) (pa_cons (pv 0) (pa_cons (pe_bltn (v := .ty "dict") (by rfl) Z.tdict (by decide +kernel) rfl) pa_nil)))) (pss_cons (ps_set (i := 2) nd rfl (Or.inl rfl) (pe_and (pe_callB call_isi (by rfl) Z.isi (by decide +kernel) (pa_cons (pv 1) (pa_cons (pe_bltn (v := .ty "dict") (by rfl) Z.tdict (by decide +kernel) rfl) pa_nil))) (pe_one (pe_call ih hr rfl gE F.kp bE .nil pass0 (pa_cons (pe_callTy (call_list_dK rfl) (by rfl) Z.tlist (by decide +kernel) (pa_cons (pv 0) pa_nil)) (pa_cons (pe_callTy (call_list_dK rfl) (by rfl) Z.tlist (by decide +kernel) (pa_cons (pv 1) pa_nil)) pa_nil))))))
      (pss_one (ps_ret (pe_and (pv 2) (pe_one (pe_callB (cr_all rfl) (by rfl) Z.all (by decide +kernel) (pa_cons (pe_lock (pe_lc (own := [("_law_key", 5)]) (g := gName 5) (tt := tYes) (te := tCall (spExactD K n) [] E0 (tCons (tDGet (tVar 0) (tVar 5)) (tCons (tDGet (tVar 1) (tVar 5)) tNil))) (by rfl) nd (pi_keys (pv 0))
          (blkOk_by (own := [("_law_key", 5)]) (N := N_exact) (sc := defScope s_exact) (by decide +kernel)) (fun _ _ _ _ _ => pg_name (i := 5) nd rfl (Or.inl rfl)) (fun _ _ _ _ _ => pts_nil)
          (fun _ _ _ _ _ => pe_call ih hr rfl gE F.kp bE .nil pass0 (pa_cons (pe_dget hu (pv 0) (pv 5) (fun _ _ => rfl)) (pa_cons (pe_dget hu (pv 1) (pv 5) (fun _ _ => rfl)) pa_nil))))) (pa_nil)))))))) (pss_nil))
      (pss_cons (ps_set (i := 2) nd rfl (Or.inl rfl) (pe_cmpR op_eq (pe_callB call_isi (by rfl) Z.isi (by decide +kernel) (pa_cons (pv 0) (pa_cons (pe_bltn (v := .ty "int") (by rfl) Z.int (by decide +kernel) rfl) pa_nil))) (pe_callB call_isi (by rfl) Z.isi (by decide +kernel) (pa_cons (pv 1) (pa_cons (pe_bltn (v := .ty "int") (by rfl) Z.int (by decide +kernel) rfl) pa_nil))) (nomark _)))
      (pss_one (ps_ret (pe_and (pv 2) (pe_and (pe_cmpR op_eq (pe_callB call_isi (by rfl) Z.isi (by decide +kernel) (pa_cons (pv 0) (pa_cons (pe_bltn (v := .ty "bool") (by rfl) Z.tbool (by decide +kernel) rfl) pa_nil))) (pe_callB call_isi (by rfl) Z.isi (by decide +kernel) (pa_cons (pv 1) (pa_cons (pe_bltn (v := .ty "bool") (by rfl) Z.tbool (by decide +kernel) rfl) pa_nil))) (nomark _)) (pe_one (pe_cmpR op_eq (pv 0) (pv 1) (nomark _)))))))))), ?_⟩
      rcases hx with hx | ⟨a, xs, ds, rfl, lx, l1, tx, kx⟩ | ⟨a, ps, m, rfl, n1, ha, rfl⟩
      · have hy : FlatD y d := by
          rcases hy with hy | ⟨b, ys, es, rfl, ly, l2, ty, ky⟩ | ⟨b, qs, m', rfl, _, hb, rfl⟩
          · exact hy
          · rcases ty with ⟨_, rfl⟩ | ⟨_, rfl⟩
            · exact (FlatD.noL hx).elim
            · exact (FlatD.noT hx).elim
          · cases hx
        obtain rfl : y = x := FlatD.eq hy hx
        refine ⟨_, rfl, (by show 2 ≤ sizeLine; decide), fun T hT => ?_⟩
        have s1 : Same H (upd H T (.tup [.ty "list", .ty "tuple"])) := Same.updf hT
        obtain ⟨t', ty', k1', k2', k3', i', b', k4', k5'⟩ := FlatD.ty (K := K) (H := upd H T (.tup [.ty "list", .ty "tuple"])) hx
        refine ⟨y, T, [.ty "list", .ty "tuple"], .type t', [.type "list", .type "tuple"], false, rfl, upd_same, .cons (.ty _) (.cons (.ty _) .nil), ty', kitF k1' k2', false, rfl, iteF ?_⟩
        refine ⟨_, rfl, y, .ty "dict", .type t', .type "dict", false, rfl, .ty _, ty', kit_ty k3', false, rfl, iteF ?_⟩
        refine ⟨_, rfl, y, .ty "int", .type t', .type "int", i', rfl, .ty _, ty', kit_ty k4', _, rfl, y, .ty "int", .type t', .type "int", i', rfl, .ty _, ty', kit_ty k4', rfl, ?_⟩
        rw [decide_eq_true (rfl : V.bl i' = V.bl i')]
        refine ⟨_, rfl, true, rfl, iteT ?_⟩
        refine ⟨_, rfl, y, .ty "bool", .type t', .type "bool", b', rfl, .ty _, ty', kit_ty k5', _, rfl, y, .ty "bool", .type t', .type "bool", b', rfl, .ty _, ty', kit_ty k5', rfl, ?_⟩
        rw [decide_eq_true (rfl : V.bl b' = V.bl b')]
        refine ⟨true, rfl, iteT ?_⟩
        refine ⟨_, rfl, _, rfl, FlatD.scal hx, ?_⟩
        rw [decide_eq_true (rfl : y = y)]
        exact k _ s1
      · rcases hy with hy | ⟨b, ys, es, rfl, ly, l2, ty, ky⟩ | ⟨b, qs, m', rfl, _, hb, e⟩
        · rcases tx with ⟨_, rfl⟩ | ⟨_, rfl⟩
          · exact (FlatD.noL hy).elim
          · exact (FlatD.noT hy).elim
        rotate_left
        · rcases tx with ⟨_, rfl⟩ | ⟨_, rfl⟩ <;> cases e
        refine ⟨_, rfl, (by show 2 ≤ sizeLine; decide), fun T hT => ?_⟩
        have s1 : Same H (upd H T (.tup [.ty "list", .ty "tuple"])) := Same.updf hT
        have ll : (1000 : Nat) ≤ 100000 := by decide
        have fin : ∀ (H2 : Hp), Same H H2 → ∀ (D : Addr), H2 D = some (.lst ((List.range xs.length).filterMap fun _ => some (V.bl true))) → ∃ (a : Addr) (bs : List Bool), [V.ref D] = [V.ref a] ∧ SqL K H2 a (bs.map V.bl) ∧ Q (.bl (bs.all id)) H2 := fun H2 s2 D hR => by
          obtain ⟨bs, hB, hb'⟩ := all_bits (K := K) hR
          refine ⟨D, bs, rfl, hB, ?_⟩
          rw [hb']
          exact k H2 s2
        rcases tx with ⟨ha, rfl⟩ | ⟨ha, rfl⟩
        · rcases ty with ⟨hb, e⟩ | ⟨hb, e⟩
          · cases e
            have ha1 := s1 _ _ ha
            have hb1 := s1 _ _ hb
            refine ⟨.ref a, T, [.ty "list", .ty "tuple"], .type "list", [.type "list", .type "tuple"], true, rfl, upd_same, .cons (.ty _) (.cons (.ty _) .nil), .base (.lst ha1), kitAny_cons (kit_ty la) (fun z => nomatch z) (fun _ => rfl), true, rfl, iteT ?_⟩
            refine ⟨_, rfl, .ref b, .ty "list", .type "list", .type "list", true, rfl, .ty _, .base (.lst hb1), kit_ty la, _, rfl, .ref a, .ty "list", .type "list", .type "list", true, rfl, .ty _, .base (.lst ha1), kit_ty la, rfl, true, rfl, iteT ?_⟩
            refine ⟨_, rfl, .ref b, .ty "tuple", .type "list", .type "tuple", false, rfl, .ty _, .base (.lst hb1), kit_ty lt, _, rfl, .ref a, .ty "tuple", .type "list", .type "tuple", false, rfl, .ty _, .base (.lst ha1), kit_ty lt, rfl, ?_⟩
            refine ⟨_, rfl, true, rfl, iteT ?_⟩
            refine ⟨_, rfl, a, xs, rfl, Or.inl (SqL.of ha1), _, rfl, b, ys, rfl, Or.inl (SqL.of hb1), rfl, ?_⟩
            rw [decide_eq_true (show V.int (xs.length : Int) = V.int (ys.length : Int) by rw [lx, ly])]
            refine ⟨true, rfl, iteT ?_⟩
            refine ⟨_, rfl, _, rfl, a, b, xs, ys, rfl, Or.inl ⟨SqL.of ha1, SqL.of hb1, fun D hD => ?_⟩⟩
            refine lc_sel (n := xs.length) (walk_zip (K := K) (a := a) (b := b) (xs := xs) (ys := ys) (by omega)) (fun _ => some (.bl true)) (by omega) hD (fun H2 s2 => ⟨SqL.of (s2 _ _ ha1), SqL.of (s2 _ _ hb1)⟩) ?_ ?_
            · rintro i v H2 H3 Qy Qn hi sH ⟨T2, x1, x2, rfl, nT, rfl, g1, g2⟩ ky' kn
              dsimp only at g1 g2
              refine ⟨T2, [_, _], rfl, .inl (.inl upd_same), rfl, _, [_], rfl, _, [], rfl, rfl, ?_⟩
              have sT : Same H2 (upd H2 T2 (.tup [x1, x2])) := Same.updf nT
              have gd : ds[i]? = some (ds[i]'(by omega)) := List.getElem?_eq_getElem _
              exact ⟨rfl, _, rfl, _, rfl, x1, x2, _, rfl, (kx i x1 _ g1 gd).same (s1.trans (sH.trans sT)), (ky i x2 _ g2 gd).same (s1.trans (sH.trans sT)), fun H5 s5 => ky' _ _ (sT.trans s5) rfl⟩
            · intro H2 s2 hR
              exact fin H2 (s1.trans s2) D hR
          · cases e
        · rcases ty with ⟨hb, e⟩ | ⟨hb, e⟩
          · cases e
          · cases e
            have ha1 := SqT_up s1 ha
            have hb1 := SqT_up s1 hb
            refine ⟨.ref a, T, [.ty "list", .ty "tuple"], .type "tuple", [.type "list", .type "tuple"], true, rfl, upd_same, .cons (.ty _) (.cons (.ty _) .nil), sqT_ty ha1, kitAny_cons (kit_ty tl) (fun _ => kitAny_cons (kit_ty ta) (fun z => nomatch z) (fun _ => rfl)) (fun z => nomatch z), true, rfl, iteT ?_⟩
            refine ⟨_, rfl, .ref b, .ty "list", .type "tuple", .type "list", false, rfl, .ty _, sqT_ty hb1, kit_ty tl, _, rfl, .ref a, .ty "list", .type "tuple", .type "list", false, rfl, .ty _, sqT_ty ha1, kit_ty tl, rfl, true, rfl, iteT ?_⟩
            refine ⟨_, rfl, .ref b, .ty "tuple", .type "tuple", .type "tuple", true, rfl, .ty _, sqT_ty hb1, kit_ty ta, _, rfl, .ref a, .ty "tuple", .type "tuple", .type "tuple", true, rfl, .ty _, sqT_ty ha1, kit_ty ta, rfl, ?_⟩
            refine ⟨_, rfl, true, rfl, iteT ?_⟩
            refine ⟨_, rfl, a, xs, rfl, Or.inr ha1, _, rfl, b, ys, rfl, Or.inr hb1, rfl, ?_⟩
            rw [decide_eq_true (show V.int (xs.length : Int) = V.int (ys.length : Int) by rw [lx, ly])]
            refine ⟨true, rfl, iteT ?_⟩
            refine ⟨_, rfl, _, rfl, a, b, xs, ys, rfl, Or.inr ⟨ha1, hb1, fun D hD => ?_⟩⟩
            refine lc_sel (n := xs.length) (walk_zipT (K := K) (a := a) (b := b) (xs := xs) (ys := ys) (by omega)) (fun _ => some (.bl true)) (by omega) hD (fun H2 s2 => ⟨SqT_up s2 ha1, SqT_up s2 hb1⟩) ?_ ?_
            · rintro i v H2 H3 Qy Qn hi sH ⟨T2, x1, x2, rfl, nT, rfl, g1, g2⟩ ky' kn
              dsimp only at g1 g2
              refine ⟨T2, [_, _], rfl, .inl (.inl upd_same), rfl, _, [_], rfl, _, [], rfl, rfl, ?_⟩
              have sT : Same H2 (upd H2 T2 (.tup [x1, x2])) := Same.updf nT
              have gd : ds[i]? = some (ds[i]'(by omega)) := List.getElem?_eq_getElem _
              exact ⟨rfl, _, rfl, _, rfl, x1, x2, _, rfl, (kx i x1 _ g1 gd).same (s1.trans (sH.trans sT)), (ky i x2 _ g2 gd).same (s1.trans (sH.trans sT)), fun H5 s5 => ky' _ _ (sT.trans s5) rfl⟩
            · intro H2 s2 hR
              exact fin H2 (s1.trans s2) D hR
      · rcases hy with hy | ⟨b, ys, es, rfl, ly, l2, ty, ky⟩ | ⟨b, qs, m', rfl, _, hb, e⟩
        · cases hy
        · rcases ty with ⟨_, e⟩ | ⟨_, e⟩ <;> cases e
        obtain ⟨rfl, em⟩ := dict_inj (PyData.dict.inj e)
        refine ⟨_, rfl, (by show 2 ≤ sizeLine; decide), fun T hT => ?_⟩
        have s1 : Same H (upd H T (.tup [.ty "list", .ty "tuple"])) := Same.updf hT
        have ha1 := s1 _ _ ha
        have hb1 := s1 _ _ hb
        have dl : kitB "dict" "list" = some false := by decide +kernel
        have dt : kitB "dict" "tuple" = some false := by decide +kernel
        refine ⟨.ref a, T, [.ty "list", .ty "tuple"], .type "dict", [.type "list", .type "tuple"], false, rfl, upd_same, .cons (.ty _) (.cons (.ty _) .nil), .base (.dK ha1), kitF dl dt, false, rfl, iteF ?_⟩
        refine ⟨_, rfl, .ref a, .ty "dict", .type "dict", .type "dict", true, rfl, .ty _, .base (.dK ha1), kit_ty (by decide +kernel), true, rfl, iteT ?_⟩
        refine ⟨_, rfl, .ref b, .ty "dict", .type "dict", .type "dict", true, rfl, .ty _, .base (.dK hb1), kit_ty (by decide +kernel), true, rfl, iteT ?_⟩
        have kl : ∀ f : Nat → Nat, ((mV ps f).map fun kv => kV kv.1) = numsV ps := fun f => by
          unfold mV dV numsV
          rw [List.map_map]
          rfl
        refine ⟨_, rfl, a, _, rfl, ha1, fun l1 hl1 => ?_⟩
        rw [kl]
        have s2 := Same.updf (o := .lst (numsV ps)) hl1
        refine ⟨_, rfl, b, _, rfl, s2 _ _ hb1, fun l2 hl2 => ?_⟩
        rw [kl]
        have s3 := Same.updf (o := .lst (numsV ps)) hl2
        have tdl : ∀ (G : Hp) (l : Addr), G l = some (.lst (numsV ps)) → TD K G n (.ref l) (.list (ps.map fun p : Nat => .int (p : Int))) := fun G l e => by
          obtain ⟨n', rfl⟩ : ∃ n', n = n' + 1 := ⟨n - 1, by omega⟩
          refine TD.lst e (by unfold numsV; rw [List.length_map, List.length_map]) (by rw [List.length_map]; exact n1.2.1) fun i u v e1 e2 => ?_
          unfold numsV at e1
          rw [List.getElem?_map] at e1 e2
          obtain ⟨p, q1, rfl⟩ := Option.map_eq_some_iff.mp e1
          rw [q1] at e2
          cases e2
          exact TD.flat (.int _)
        refine ⟨.ref l1, .ref l2, _, rfl, tdl _ _ (s3 _ _ upd_same), tdl _ _ upd_same, fun G s4 => ?_⟩
        have s14 := s1.trans ((s2.trans s3).trans s4)
        have haG := s14 _ _ ha
        have hbG := s14 _ _ hb
        refine ⟨_, rfl, true, rfl, iteT ?_⟩
        refine ⟨a, _, haG, trivial, fun od => ?_⟩
        refine ⟨_, rfl, a, od, rfl, .inl ⟨_, upd_same, fun D hD => ?_⟩⟩
        have nDa : D ≠ a := fun z => by
          rw [z, upd_same] at hD
          cases hD
        have hDG : G D = none := by
          rw [upd_ne nDa] at hD
          exact hD
        refine lc_sel (n := ps.length) (by have := walk_keys (d := a) (o := od) (kvs := mV ps m); rw [dV_len] at this; exact this) (fun _ => some (.bl true)) (by have := n1.2.1; omega) hD (fun H2 q2 => q2 _ _ upd_same) ?_ ?_
        · rintro i v H2 H3 Qy Qn hi sH ⟨rfl, k', v', ek, rfl⟩ ky' kn
          have ei : (mV ps m)[i]? = some (ky ps[i], .int (m ps[i] : Int)) := by
            unfold mV dV
            rw [List.getElem?_map, List.getElem?_eq_getElem hi]
            rfl
          rw [ei] at ek
          cases ek
          have mp := List.getElem_mem hi
          have fa := sH _ _ upd_same
          have da : DGet H3 a (.int (ps[i] : Int)) (some (.int (m ps[i] : Int))) := .inl ⟨_, ky ps[i], .inr ⟨od, fa⟩, rfl, (mV_val mp).symm⟩
          have db : DGet H3 b (.int (ps[i] : Int)) (some (.int (m' ps[i] : Int))) := by
            by_cases z : b = a
            · have e1 : mV ps m = mV ps m' := dV_congr fun p hp => by rw [em p hp]
              rw [z]
              exact .inl ⟨_, ky ps[i], .inr ⟨od, by rw [← e1]; exact fa⟩, rfl, (mV_val mp).symm⟩
            · exact .inl ⟨_, ky ps[i], .inl (sH _ _ (by rw [upd_ne z]; exact hbG)), rfl, (mV_val mp).symm⟩
          refine ⟨rfl, _, rfl, _, rfl, a, _, rfl, da, _, rfl, _, rfl, b, _, rfl, db, ?_⟩
          rw [← em _ mp]
          exact ⟨_, _, _, rfl, TD.flat (.int _), TD.flat (.int _), fun H5 s5 => ky' _ _ s5 rfl⟩
        · intro H2 q2 hR
          refine ⟨q2 _ _ upd_same, ?_⟩
          obtain ⟨bs, hB, hb'⟩ := all_bits (K := K) hR
          have hR2 : (upd H2 a (.dK (mV ps m))) D = some (.lst ((List.range ps.length).filterMap fun _ => some (V.bl true))) := by
            rw [upd_ne nDa]
            exact hR
          obtain ⟨bs, hB, hb'⟩ := all_bits (K := K) hR2
          refine ⟨D, bs, rfl, hB, ?_⟩
          rw [hb']
          refine k _ fun c o e => ?_
          by_cases z : c = a
          · rw [z, ha] at e
            cases e
            rw [z, upd_same]
          · rw [upd_ne z]
            exact q2 _ _ (by rw [upd_ne z]; exact s14 _ _ e)
end
end K18
set_option Elab.async false
set_option linter.all false
set_option maxRecDepth 100000
set_option maxHeartbeats 4000000
/-! x in l, l a list of dictionaries from keys to ints, x such a one. -/
namespace PySem.SeqAt
open AutoSeq1 (wpAny_loadPart')
open MeetsSeq MeetsSeq2 MeetsSeq3 SeqRoads2
section
variable {prog : Program} {w : World}
theorem kim_loop (l : Addr) (items : Array Value) (n : Nat) (dd : Option Addr) (sl : Array (Option Value)) (x : Value) (e : Nat → Bool) (k : Nat) :
    ∀ i : Nat, items.size - i = k → MeetsIn prog w (Builtin.«list.__contains__.loop» ⟨[.ref l, x, rawInt i], []⟩)
      (fun A R s => s.heap.get? l = some { cls := .type "list", dict := dd, data := .seq items n, slots := sl } ∧ (∀ j (h : j < items.size), EqP prog w A.in1 s items[j] x (e j)) ∧ R (.ok (.ret (.bool (((List.range items.size).drop i).any e)))) s) := by
  induction k with
  | zero =>
    intro i hk A R s h
    obtain ⟨hp, g, d, tk, os⟩ := s; obtain ⟨hl, he, h⟩ := h
    wp_walk using wpAny_loadPart' hl
    have hi : items[((i : Nat) : Int).toNat]? = none := by simp; omega
    have hd : (List.range items.size).drop i = [] := by simp; omega
    rw [hd] at h
    rw [hi]
    wp_walk
    exact h
  | succ k ih =>
    intro i hk A R s h
    obtain ⟨hp, g, d, tk, os⟩ := s; obtain ⟨hl, he, h⟩ := h
    wp_walk using wpAny_loadPart' hl
    have hlt : i < items.size := by omega
    have hi : items[((i : Nat) : Int).toNat]? = some items[i] := by simp [hlt]
    have hd : (List.range items.size).drop i = i :: (List.range items.size).drop (i + 1) := by simp [List.drop_eq_getElem_cons, hlt]
    rw [hd, List.any_cons] at h
    rw [hi]
    refine wpAny_bind (he i hlt _ _ ?_)
    cases hb : e i with
    | true =>
      rw [hb] at h
      wp_walk
      exact h
    | false =>
      rw [hb] at h
      have hc : ((i : Int) + 1) = ((i + 1 : Nat) : Int) := by push_cast; rfl
      wp_walk
      rw [hc]
      exact ⟨plainId_quiet plain_contains_loop _, codeAny_builtin entry_contains_loop (by
        rw [Around.under_plainId plain_contains_loop _]
        exact ih (i + 1) (by omega) A R _ ⟨hl, he, by simpa using h⟩)⟩
theorem kim_contains (l : Addr) (items : Array Value) (n : Nat) (dd : Option Addr) (sl : Array (Option Value)) (x : Value) (e : Nat → Bool) :
    MeetsIn prog w (Builtin.«list.__contains__» ⟨[.ref l, x], []⟩)
      (fun A R s => s.heap.get? l = some { cls := .type "list", dict := dd, data := .seq items n, slots := sl } ∧ (∀ j (h : j < items.size), EqP prog w A.in1 s items[j] x (e j)) ∧ R (.ok (.ret (.bool ((List.range items.size).any e)))) s) := by
  intro A R s h
  obtain ⟨hp, g, d, tk, os⟩ := s; obtain ⟨hl, he, h⟩ := h
  wp_walk using wpAny_loadPart' hl
  exact ⟨plainId_quiet plain_contains_loop _, codeAny_builtin entry_contains_loop (by
    rw [Around.under_plainId plain_contains_loop _]
    exact kim_loop l items n dd sl x e _ 0 rfl A R _ ⟨hl, he, by simpa using h⟩)⟩
theorem kim_in {A : Around} {E : Value → Shared → Prop} {s : Shared} {l : Addr} {items : Array Value} {x : Value} {Q : Value → Shared → Prop} (e : Nat → Bool) (hl : s.heap.IsList l items) (he : ∀ j (h : j < items.size), EqP prog w A.in1 s items[j] x (e j))
    (h : Q (.bool ((List.range items.size).any e)) s) : wpAny (model prog w) A (compareOp .In x (.ref l)) Q E s := by
  obtain ⟨⟨cls, dd, data, sl⟩, ho, hc, n, hd⟩ := id hl
  simp only at hc hd
  subst hc hd
  have hT : s.TypeIs (.ref l) "list" := ⟨_, ho, rfl⟩
  show wpAny _ A (do return .bool (← contains (.ref l) x)) Q E s
  refine wpAny_bind (wpAny_contains_slot hT F.slot_list_contains (wpAny_mono (call_meetsIn F.slot_list_contains hT F.entry_list_contains (F.args_list_contains_2 _ _) (kim_contains l items n dd sl x e) ⟨ho, he, (show wants (fun v s' => ∃ b, v = .bool b ∧ Q (.bool b) s') E _ s from ⟨_, rfl, h⟩)⟩) (fun v s' hv => ?_) fun _ _ e => e))
  obtain ⟨b, rfl, hq⟩ := hv
  exact wpAny_truthy_bool (wpAny_pure hq)
theorem kim_notIn {A : Around} {E : Value → Shared → Prop} {s : Shared} {l : Addr} {items : Array Value} {x : Value} {Q : Value → Shared → Prop} (e : Nat → Bool) (hl : s.heap.IsList l items) (he : ∀ j (h : j < items.size), EqP prog w A.in1 s items[j] x (e j))
    (h : Q (.bool (!(List.range items.size).any e)) s) : wpAny (model prog w) A (compareOp .NotIn x (.ref l)) Q E s := by
  obtain ⟨⟨cls, dd, data, sl⟩, ho, hc, n, hd⟩ := id hl
  simp only at hc hd
  subst hc hd
  have hT : s.TypeIs (.ref l) "list" := ⟨_, ho, rfl⟩
  show wpAny _ A (do return .bool (!(← contains (.ref l) x))) Q E s
  refine wpAny_bind (wpAny_contains_slot hT F.slot_list_contains (wpAny_mono (call_meetsIn F.slot_list_contains hT F.entry_list_contains (F.args_list_contains_2 _ _) (kim_contains l items n dd sl x e) ⟨ho, he, (show wants (fun v s' => ∃ b, v = .bool b ∧ Q (.bool (!b)) s') E _ s from ⟨_, rfl, h⟩)⟩) (fun v s' hv => ?_) fun _ _ e => e))
  obtain ⟨b, rfl, hq⟩ := hv
  exact wpAny_truthy_bool (wpAny_pure hq)
end
end PySem.SeqAt
namespace L2
open PySem PySem.Spec PyProof.Rows
theorem kim_hits {A : Around} {s : Shared} {kvs : List (Key × V)} {vb : List (Key × Value)} (rb : KV kvs vb) {ks : List (Key × V)} {va : List (Key × Value)} (ra : KV ks va) {P : Program} {w : World} :
    (∀ p ∈ ks, ∃ i j : Int, p.2 = .int i ∧ valV kvs p.1 = some (.int j)) → PySem.W.KeqHitsP P w A s vb va (ks.all fun p => decide (valV kvs p.1 = some p.2)) := by
  unfold KV at ra
  induction ra with
  | nil => intro _; exact .nil
  | @cons p q ps qs h t ih =>
    intro hp
    obtain ⟨h1, h2⟩ := h
    obtain ⟨i, j, e1, e2⟩ := hp p List.mem_cons_self
    have rr : RelO (some (V.int j)) (valueAt vb p.1) := by rw [← e2]; exact rb.val p.1
    obtain ⟨y, hy, ry⟩ := rr.some_of
    obtain ⟨k, v⟩ := q
    have h1' : p.1 = k := h1
    rw [h1'] at hy
    rw [List.all_cons]
    have h2' : RelV p.2 v := h2
    rw [e1] at h2'
    obtain ⟨t1, rfl⟩ := h2'
    obtain ⟨t2, rfl⟩ := ry
    have eb : decide (valV kvs p.1 = some p.2) = (i == j) := by
      rw [e1, e2, Bool.eq_iff_iff]
      simp
      exact eq_comm
    rw [eb]
    exact .hit hy ((MeetsSeq.EqGives.int i j t1 t2).at A s).eqP (ih fun p' hm => hp p' (List.mem_cons_of_mem _ hm))
/-- e i: whether the i-th of xs is equal to the dictionary ls -/
def EqMs (H : Hp) (a : Addr) (ls : List (Key × V)) (xs : List V) (e : Nat → Bool) : Prop :=
  ∀ (i : Nat) (v : V), xs[i]? = some v → ∃ (c : Addr) (ks : List (Key × V)), v = .ref c ∧ c ≠ a ∧ H c = some (.dK ks) ∧ ks.length = ls.length ∧ (∀ p ∈ ks, ∃ i j : Int, p.2 = .int i ∧ valV ls p.1 = some (.int j)) ∧ e i = ks.all fun p => decide (valV ls p.1 = some p.2)
section
variable {X : Cx} {pins : List (Addr × Obj)} {σ : St} {H : Hp} {s : Shared}
theorem kim_eqs (I : Inv X pins σ H s) {A : Around} (hu : A.units < cLine) {a : Addr} {ls : List (Key × V)} {xs : List V} {its : List Value} (ea : H a = some (.dK ls)) (hx : Vals xs its) {e : Nat → Bool} (h : EqMs H a ls xs e) :
    ∀ j (hj : j < its.toArray.size), SeqAt.EqP X.prog X.w A s its.toArray[j] (.ref a) (e j) := by
  intro j hj
  have lj : j < its.length := by simpa using hj
  have lx : j < xs.length := by
    have := hx.length
    omega
  obtain ⟨c, ks, ev, ne, ec, len, hp, eb⟩ := h j _ (List.getElem?_eq_getElem lx)
  obtain ⟨u0, eu, rj⟩ := hx.get (List.getElem?_eq_getElem lx)
  rw [List.getElem?_eq_getElem lj] at eu
  cases eu
  rw [ev] at rj
  have rj' : its[j] = Value.ref c := rj
  have e0 : its.toArray[j] = Value.ref c := by simpa using rj'
  rw [e0]
  obtain ⟨_, ya, va, ra, da⟩ := (show ObjOk X.prog X.w H s.heap a (.dK ls) from I.hok a _ ea)
  obtain ⟨_, yc, vc, rc, dc⟩ := (show ObjOk X.prog X.w H s.heap c (.dK ks) from I.hok c _ ec)
  have hl : vc.length = va.length := by rw [← ra.length, ← rc.length]; exact len
  refine SeqAt.eqP_refs ne fun E Q q => PySem.W.rcP_dicts (knd := mixKind X.prog X.w) (r := e j) yc ya dc da hu (fun _ => by rw [eb]; exact kim_hits ra rc hp) E Q ?_
  rw [show (vc.length == va.length) = true by simpa using hl, Bool.true_and]
  exact q
def rInM (K : PySem.W.Frag) (neg : Bool) : R2 := fun x y H Q => ∃ (a L : Addr) (ls : List (Key × V)) (xs : List V) (e : Nat → Bool), x = .ref a ∧ y = .ref L ∧ H a = some (.dK ls) ∧ SqL K H L xs ∧ EqMs H a ls xs e ∧ Q (.bl (((List.range xs.length).any e) != neg)) H
theorem op_notInM (hu : X.A.units + 1 < cLine) : OpR X (compareOp .NotIn) (rInM X.K true) := by
  intro pins s σ H x y v u Q I rx ry h
  obtain ⟨a, L, ls, xs, e, rfl, rfl, ea, hs, he, q⟩ := h
  obtain rfl : v = Value.ref a := rx
  obtain rfl : u = Value.ref L := ry
  obtain ⟨its, rv, ho, hlen⟩ := I.list hs
  obtain ⟨⟨cls, dd, data, sls⟩, n, ho, hc, hdn, hdt⟩ := ho
  have hL : s.heap.IsList L its.toArray := ⟨_, ho, hc, n, hdt⟩
  refine SeqAt.kim_notIn e hL (kim_eqs I (show X.A.in1.units < cLine from hu) ea rv he) ⟨.bl _, H, I, rfl, ?_⟩
  have l := rv.length
  have es : its.toArray.size = xs.length := by simp [l]
  rw [es]
  have z : ∀ b : Bool, (b != true) = !b := by decide
  rw [z] at q
  exact q
theorem op_inM (hu : X.A.units + 1 < cLine) : OpR X (compareOp .In) (rInM X.K false) := by
  intro pins s σ H x y v u Q I rx ry h
  obtain ⟨a, L, ls, xs, e, rfl, rfl, ea, hs, he, q⟩ := h
  obtain rfl : v = Value.ref a := rx
  obtain rfl : u = Value.ref L := ry
  obtain ⟨its, rv, ho, hlen⟩ := I.list hs
  obtain ⟨⟨cls, dd, data, sls⟩, n, ho, hc, hdn, hdt⟩ := ho
  have hL : s.heap.IsList L its.toArray := ⟨_, ho, hc, n, hdt⟩
  refine SeqAt.kim_in e hL (kim_eqs I (show X.A.in1.units < cLine from hu) ea rv he) ⟨.bl _, H, I, rfl, ?_⟩
  have l := rv.length
  have es : its.toArray.size = xs.length := by simp [l]
  rw [es]
  have z : ∀ b : Bool, (b != false) = b := by decide
  rw [z] at q
  exact q
end
end L2
set_option Elab.async false
set_option linter.all false
set_option maxRecDepth 100000
set_option maxHeartbeats 4000000
/-! Comprehensions whose items are new objects: a relation for each turn. -/
namespace L2
open PySem PySem.Spec PyProof.Rows KB
theorem paired_snoc {α β : Type} {F : α → β → Prop} : ∀ {xs : List α} {ys : List β} {x : α} {y : β}, Paired F xs ys → F x y → Paired F (xs ++ [x]) (ys ++ [y])
  | _, _, _, _, .nil, h => .cons h .nil
  | _, _, _, _, .cons r t, h => .cons r (paired_snoc t h)
theorem paired_mono {α β : Type} {F G : α → β → Prop} : ∀ {xs : List α} {ys : List β}, (∀ x y, F x y → G x y) → Paired F xs ys → Paired G xs ys
  | _, _, _, .nil => .nil
  | _, _, k, .cons r t => .cons (k _ _ r) (paired_mono k t)
theorem off_upd_le {H : Hp} {D : Addr} {o : HO} : Same (KB.off H D) (upd H D o) := fun b u e => by
  by_cases n : b = D
  · unfold KB.off at e
    rw [if_pos n] at e
    cases e
  · rw [off_at n] at e
    rw [upd_ne n]
    exact e
/-- turn i gives, if c i, an item y with R i y; what stood stays -/
theorem lc_rel {J : It} {n : Nat} {G : Hp → Prop} {Y : Nat → Hp → V → Hp → Prop} (w : Walk J n G Y) {g : TG} {tt : TT} {te : TE} {vs : List Nat} {σ : St} {H1 : Hp} {D : Addr} {Qd : Hp → Prop} (c : Nat → Bool) (R : Nat → V → Hp → Prop)
    (hR : ∀ i y H H', Same H H' → R i y H → R i y H') (hn : n ≤ 100000) (hD : H1 D = none) (hG : ∀ H, Same H1 H → G H)
    (hs : ∀ i x H H' (Qy : V → Hp → Prop) (Qn : Hp → Prop), i < n → Same H1 H → (∃ acc, H D = some (.lst acc)) → Y i H x H' → (∀ y H4, c i = true → Same H H4 → R i y (KB.off H4 D) → Qy y H4) → (∀ H4, c i = false → Same H H4 → Qn H4) →
      g x (wipe σ vs) H' fun σ2 H2 => wipe σ2 vs = wipe σ vs ∧ tt σ2 H2 fun b H3 => if b = true then te σ2 H3 Qy else Qn H3)
    (hd : ∀ H ys, Same H1 H → H D = some (.lst ys) → Paired (fun i y => R i y (KB.off H D)) ((List.range n).filter c) ys → Qd H) :
    ∃ W : Nat → Nat → Hp → Prop, (∃ m, W 0 m (upd H1 D (.lst []))) ∧ ∀ i m H, W i m H →
      (J.stop i H ∧ Qd H) ∨ (J.go i H ∧ ∃ Nx : Hp → Prop, (∀ H', Nx H' → ∃ m', m' < m ∧ W (i + 1) m' H') ∧ ∀ x H', J.yld i H x H' → g x (wipe σ vs) H' fun σ2 H2 => wipe σ2 vs = wipe σ vs ∧ tt σ2 H2 fun b H3 =>
        if b = true then te σ2 H3 fun y H4 => ∃ acc, H4 D = some (.lst acc) ∧ acc.length < sizeLine ∧ Nx (upd H4 D (.lst (acc ++ [y]))) else Nx H3) := by
  refine lc_it w (fun i H => Same H1 H ∧ ∃ ys, H D = some (.lst ys) ∧ ys.length ≤ i ∧ Paired (fun i y => R i y (KB.off H D)) ((List.range i).filter c) ys) ⟨Same.updf hD, [], upd_same, Nat.le_refl _, .nil⟩ (fun i H _ h => hG H h.1) (fun i x H H' hi hP hy => ?_) (fun H h => ?_)
  · obtain ⟨s1, ys, hD', ly, py⟩ := hP
    refine hs i x H H' _ _ hi s1 ⟨ys, hD'⟩ hy (fun y H4 e s4 r => ?_) (fun H4 e s4 => ?_)
    · have l2 : (100000 : Nat) < sizeLine := by decide
      refine ⟨ys, s4 _ _ hD', by omega, fun b o eb => ?_, ys ++ [y], upd_same, by rw [List.length_append]; exact Nat.succ_le_succ ly, ?_⟩
      · rw [upd_ne (ne_of_none eb hD)]
        exact s4 _ _ (s1 _ _ eb)
      · rw [List.range_succ, List.filter_append, List.filter_cons, if_pos e, List.filter_nil, off_upd]
        exact paired_snoc (paired_mono (fun i y h => hR i y _ _ (off_same D s4) h) py) r
    · refine ⟨s1.trans s4, ys, s4 _ _ hD', by omega, ?_⟩
      rw [List.range_succ, List.filter_append, List.filter_cons, if_neg (by rw [e]; exact Bool.false_ne_true), List.filter_nil, List.append_nil]
      exact paired_mono (fun i y h => hR i y _ _ (off_same D s4) h) py
  · obtain ⟨s1, ys, hD', ly, py⟩ := h
    exact hd H ys s1 hD' py
/-- pairs on the heap, taken for a dictionary's -/
theorem pairs_addr {K : PySem.W.Frag} {H : Hp} : ∀ {is : List Nat} {ys : List V} {f : Nat → Key × V}, Paired (fun i y => ∃ T, y = .ref T ∧ H T = some (.tup [kV (f i).1, (f i).2])) is ys →
    ∃ ps : List Addr, ys = ps.map V.ref ∧ Paired (fun p kv => SqT K H p [kV kv.1, kv.2]) ps (is.map f)
  | _, _, _, .nil => ⟨[], rfl, .nil⟩
  | _, _, _, .cons r t => by
    obtain ⟨T, rfl, h⟩ := r
    obtain ⟨ps, rfl, p⟩ := pairs_addr t
    exact ⟨T :: ps, rfl, .cons (SqT.of h) p⟩
end L2
namespace KB
open PySem PySem.Spec PyProof.Rows L2
def rDictP (K : PySem.W.Frag) : List V → Hp → VK → Prop := fun xs H Q => ∃ (a : Addr) (ps : List Addr) (kvs : List (Key × V)), xs = [.ref a] ∧ SqL K H a (ps.map V.ref) ∧ Paired (fun p kv => SqT K H p [kV kv.1, kv.2]) ps kvs ∧
    ∀ p, H p = none → Q (.ref p) (upd H p (.dK (mergeK [] kvs)))
theorem call_dictPR {X : Cx} (hc : X.calm = true) : CallR X (.type "dict") (rDictP X.K) := call_dictP hc
def rDictD : List V → Hp → VK → Prop := fun xs H Q => ∃ (a : Addr) (kvs : List (Key × V)), xs = [V.ref a] ∧ Rd H a (.dK kvs) ∧ ∀ p, H p = none → Q (.ref p) (upd H p (.dK kvs))
theorem call_dictDR {X : Cx} : CallR X (.type "dict") rDictD := call_dictD
end KB
namespace KB
open PySem PySem.Spec PyProof.Rows L2
def rSortDI : List V → Hp → VK → Prop := fun xs H Q => ∃ (a : Addr) (kvs : List (Key × V)) (ks : List Int), xs = [V.ref a] ∧ Rd H a (.dK kvs) ∧ kvs.map (·.1) = ks.map Sum.inl ∧ ks.length < 64 ∧
    ∀ (ys : List Int) (p : Addr), ys.Perm ks → ys.Pairwise (· ≤ ·) → H p = none → Q (.ref p) (upd H p (.lst (ys.map V.int)))
theorem cr_sortedDI {X : Cx} (hc : X.calm = true) : CallR X (.builtin "sorted") rSortDI := call_sortedDI hc
end KB
set_option Elab.async false
set_option linter.all false
set_option maxRecDepth 100000
set_option maxHeartbeats 4000000
/-! An own exception class over ValueError called with keywords: the same object comes as without. -/
namespace PySem
namespace KwX
open PySem.W PySem.Calls PyProof.Rows PySem.HandSPX
section
variable {M : Model} {A : Around} {E : Value → Shared → Prop} {h : Heap} {g : Array GenState} {d : Drawn} {t : Nat} {os : OsState}
variable {nm q : Str} {C N : Addr} {bs bm bmB : List Value} {hdct : Bool} {sn : List Str} {sub : List Value} {ab : Bool} {col : Option Bool} {dd : Option Addr}
variable {k0 k1 k2 k3 k5 : Option Value} {B newId initId : String} {kw : List (Str × Value)}

theorem chk (F : ExcBaseFacts B newId initId bmB) (hT : ∀ X : String, bm.contains (.type X) = bmB.contains (.type X))
    {rest : List Value} {Q : Unit → Shared → Prop}
    (hC : h.get? C = some (excClassObj nm q C N bs bm hdct sn sub ab col dd k0 k1 k2 k3 k5 newId))
    (hq : Q () ⟨h, g, d, t, os⟩) :
    wpAny M A (checkBuiltinCall newId ⟨.ref C :: rest, kw⟩) Q E ⟨h, g, d, t, os⟩ := by
  have hB : (Value.ref C :: bm).contains (.type B) = true := by
    rw [List.contains_cons, hT, F.hasB, Bool.or_true]
  have hs := F.noStar
  simp only [checkBuiltinCall, F.newKind, F.newSplit, F.newRow]
  repeat (first
    | refine wpAny_loadPart_at hC ?_
    | (refine wpAny_isSubtype_exc hC ?_; rw [hB])
    | refine wpAny_staticBase_exc hC ?_
    | refine wpAny_madeBy_exc hC ?_
    | simp only [bne_self_eq_false, Bool.false_eq_true, if_false]
    | wp_step)
  exact hq
end

section
variable {prog : Program} {w : World} {A : Around} {E : Value → Shared → Prop} {R : Result → Shared → Prop} {h : Heap} {g : Array GenState} {d : Drawn} {t : Nat} {os : OsState}
variable {nm q : Str} {C N : Addr} {bs bm bmB : List Value} {hdct : Bool} {sn : List Str} {sub : List Value} {ab : Bool} {col : Option Bool} {dd : Option Addr}
variable {k0 k1 k2 k3 k5 : Option Value} {B newId initId : String} {kw : List (Str × Value)}

theorem made (F : ExcBaseFacts B newId initId bmB) (hT : ∀ X : String, bm.contains (.type X) = bmB.contains (.type X)) {rest : List Value}
    (hC : h.get? C = some (excClassObj nm q C N bs bm hdct sn sub ab col dd k0 k1 k2 k3 k5 newId))
    (hq : R (.ok (.ret (.ref (h.objs.size + 1)))) ⟨(h.push (W.kdv_tup rest)).push (excO C h.objs.size), g, d, t, os⟩)
    (hrest : rest.length ≤ sizeLine) : codeAny (model prog w) A (.builtin newId ⟨.ref C :: rest, kw⟩) R ⟨h, g, d, t, os⟩ := by
  have he := F.ends
  have hB : (Value.ref C :: bm).contains (.type B) = true := by
    rw [List.contains_cons, hT, F.hasB, Bool.or_true]
  have hA : (Value.ref C :: bm).contains (.type "AttributeError") = false := by
    rw [List.contains_cons, hT, F.noAttr]
    rfl
  have hN : (Value.ref C :: bm).contains (.type "NameError") = false := by
    rw [List.contains_cons, hT, F.noName]
    rfl
  refine codeAny_builtinAt F.entry ?_
  unfold Builtin.«BaseException.__new__»
  refine wpAt_bind ?_
  show wpAt _ _ _ (stack >>= _) _ _ _
  refine wpAt_bind (wpAt_stack fun p below => wpAt_of_wpAny ?_)
  wp_walk
  refine wpAt_of_wpAny ?_
  rw [F.owner]
  repeat (first
    | with_reducible refine wpAny_madeHere_exc F.canon hC ?_
    | with_reducible refine wpAny_loadPart_at hC ?_
    | (with_reducible refine wpAny_isSubtype_exc hC ?_; first | rw [hB] | rw [hA] | rw [hN])
    | wp_step)
  show R _ _
  rw [Heap.size_push]
  exact hq

theorem tcall (F : ExcBaseFacts B newId initId bmB) (hT : ∀ X : String, bm.contains (.type X) = bmB.contains (.type X)) {rest : List Value} {fI : Addr} {Q : Fin → Shared → Prop}
    (hC : h.get? C = some (excClassObj nm q C N bs bm hdct sn sub ab col dd k0 k1 k2 k3 k5 newId))
    (hi : W.Looks (model prog w) h (typeLookup (.ref C) "__init__") (some (.ref fI)))
    (hb : ∀ self, W.Looks (model prog w) h (bindSpecial (.ref fI) self) (.ref fI, [self])) (hrest : rest.length ≤ sizeLine)
    (hq : codeAny (model prog w) A (.call (.ref fI) ⟨.ref (h.objs.size + 1) :: rest, kw⟩)
      (fun r s' => match r with
        | .ok (.ret v) => v = .none ∧ Q (.done (.ret (.ref (h.objs.size + 1)))) s'
        | .ok _ => False
        | .error e => E e s') ⟨(h.push (W.kdv_tup rest)).push (excO C h.objs.size), g, d, t, os⟩) :
    wpAny (model prog w) A (Builtin.«type.__call__» ⟨.ref C :: rest, kw⟩) Q E ⟨h, g, d, t, os⟩ := by
  repeat (first
    | with_reducible refine wpAny_loadPart_at hC ?_
    | with_reducible refine wpAny_madeBy_exc hC ?_
    | wp_step)
  refine codeAny_call_builtin_code (Code.quiet_builtin _ F.quiet) (chk F hT hC ?_)
  refine made F hT hC ?_ hrest
  show wpAny _ _ _ _ _ _
  have k : ∀ b o, h.get? b = some o → ((h.push (W.kdv_tup rest)).push (excO C h.objs.size)).get? b = some o :=
    fun b o e => Heap.get?_push_of_some _ (Heap.get?_push_of_some _ e)
  have c1 := k _ _ hC
  have hg : ((h.push (W.kdv_tup rest)).push (excO C h.objs.size)).get? (h.objs.size + 1) = some (excO C h.objs.size) := by heap_get
  have cc : (Value.ref C :: bm).contains (.ref C) = true := by simp
  have i1 := hi.keeps k
  have b1 := (hb (.ref (h.objs.size + 1))).keeps k
  unfold isInstance
  repeat (first
    | with_reducible refine wpAny_loadPart_at hg ?_
    | (with_reducible refine wpAny_isSubtype_exc c1 ?_; rw [cc])
    | wp_step)
  show wpAny _ _ (typeLookup (.ref C) _) _ _ _
  refine i1.at (wpAny_holding (wpAny_bind (b1.at ?_)))
  refine wpAny_bind (wpAny_call (codeAny_mono hq fun r s' z => ?_))
  rcases r with e | (v | _ | _ | _) <;> first | exact z | exact z.elim | skip
  obtain ⟨rfl, z⟩ := z
  first
    | exact wpAny_pure (wpAny_pure z)
    | (wp_walk; exact z)

/-- C(.., k = v): the object, then __init__ with the same arguments -/
theorem callk (F : ExcBaseFacts B newId initId bmB) (hT : ∀ X : String, bm.contains (.type X) = bmB.contains (.type X)) {rest : List Value} {fI : Addr}
    (hC : h.get? C = some (excClassObj nm q C N bs bm hdct sn sub ab col dd k0 k1 k2 k3 k5 newId))
    (hi : W.Looks (model prog w) h (typeLookup (.ref C) "__init__") (some (.ref fI)))
    (hb : ∀ self, W.Looks (model prog w) h (bindSpecial (.ref fI) self) (.ref fI, [self])) (hrest : rest.length ≤ sizeLine)
    (hq : codeAny (model prog w) (A.under (.builtin "type.__call__" ⟨.ref C :: rest, kw⟩)) (.call (.ref fI) ⟨.ref (h.objs.size + 1) :: rest, kw⟩)
      (W.InitBack (h.objs.size + 1) R) ⟨(h.push (W.kdv_tup rest)).push (excO C h.objs.size), g, d, t, os⟩) :
    codeAny (model prog w) A (.call (.ref C) ⟨rest, kw⟩) R ⟨h, g, d, t, os⟩ := by
  have f1 := tc_lookup
  have f2 := tc_bind (.ref C)
  have hTy : (⟨h, g, d, t, os⟩ : Shared).TypeIs (.ref C) "type" := ⟨_, hC, rfl⟩
  refine codeAny_of_tree ?_
  show wpAny _ _ (callAny (.ref C) _) _ _ _
  repeat (any_goals (first
    | assumption
    | with_reducible refine wpAny_loadPart_at hC ?_
    | wp_step))
  refine ⟨rfl, ?_⟩
  refine codeAny_call_builtin_at (Code.quiet_builtin _ (by decide +kernel)) entry_typeCall (wpAny_check_type_call_sub hC (tcall F hT hC hi hb hrest ?_))
  refine codeAny_mono hq fun r s' z => ?_
  rcases r with e | (v | _ | _ | _) <;> exact z
end
end KwX
end PySem
set_option Elab.async false
set_option linter.all false
set_option maxRecDepth 100000
set_option maxHeartbeats 4000000
/-! Errors of the program's own as values: made, asked for their class, read. -/
namespace PySem.W
open PySem PySem.Spec PySem.Calls PyProof.Rows
section
variable {prog : Program} {w : World} {A : Around} {E : Value → Shared → Prop} {s : Shared} {K : Frag} {x D : Addr} {ox : Obj} {od : Option Obj}
theorem err_find (hc : (clsIn K D).isSome = true) (ha : findIn K (.ref D) "__class__" = some (some (.builtin "object.__class__")))
    (hg : specialIn K (.builtin "object.__class__") "__get__" = some (some (.builtin "getset_descriptor.__get__"))) (ht : takesIn K (.builtin "object.__class__") = some true) :
    findObj K D od "__class__" = some (.bind (.builtin "getset_descriptor.__get__") (.builtin "object.__class__")) := by
  cases od with
  | none => exact findObj_dataN hc ha hg ht
  | some o => exact findObj_data hc ha hg ht
/-- x.__class__ of an error, with a dict of its own or without one -/
theorem err_class {Q : Option Value → Shared → Prop} (T : L2.ExcC K D) (X : K.In s.heap) (I : InstAt s.heap x ox D od)
    (h : Q (some (.ref D)) { s with toks := s.toks + 1 }) : wpAny (model prog w) A (getAttr? (.ref x) "__class__") Q E s := by
  have hf := err_find (od := od) (K := K) (D := D) (by obtain ⟨cd, hc, _⟩ := any_some T.hd; rw [hc]; rfl) T.ha T.hn T.ht
  obtain ⟨hp, g, d, t, os⟩ := s
  have A0 := I.type (M := model prog w)
  have A1 := looks_findIn (M := model prog w) X T.hg
  have A2 := looks_findIn (M := model prog w) X T.hk
  have A3 := looks_find (M := model prog w) X I hf
  have A4 : Looks (model prog w) hp (isInstance (.ref x) (.type "BaseException")) true := A0.andThen (looks_subIn X T.hs)
  have n0 : (false && onTheHeap (Value.builtin "BaseException.__getattribute__")) = false := rfl
  have n2 : (Value.builtin "BaseException.__getattribute__" == Value.builtin "object.__getattribute__") = false := by decide +kernel
  have n1 : (onTheHeap (Value.ref D) && Value.builtin "BaseException.__getattribute__" == Value.builtin "object.__getattribute__") = false := by
    rw [n2]
    rfl
  unfold getAttr? getAttrBy? getAttrBy
  refine wpAny_bind (wpAny_mkText (wpAny_bind (wpAny_attempt (wpAny_holding (wpAny_bind (A0.at (wpAny_bind (A1.at ?_))))))))
  show wpAny _ _ (if (onTheHeap (Value.ref D) && Value.builtin "BaseException.__getattribute__" == Value.builtin "object.__getattribute__") = true then _ else _) _ _ _
  rw [n1, if_neg Bool.false_ne_true]
  unfold getAttrByItsOwn hookBefore
  refine wpAny_bind ?_
  rw [if_pos (show onTheHeap (Value.ref D) = true from rfl)]
  refine A2.at (wpAny_bind (wpAny_attempt (wpAny_holding ?_)))
  unfold callGetattribute
  rw [n0, if_neg Bool.false_ne_true]
  unfold boundAndCalled
  rw [PySem.F.excAttr_ValueError.ga.bind (.ref x)]
  refine wpAny_bind (wpAny_pure ?_)
  show wpAny _ _ (call (.builtin "BaseException.__getattribute__") [.ref x, .str "__class__" t]) _ _ _
  refine wpAny_call (codeAny_call_builtin PySem.F.excAttr_ValueError.ga.plain PySem.F.entry_bexc_ga ?_)
  refine @check_slot (model prog w) _ _ ⟨hp, g, d, t + 1, os⟩ "BaseException.__getattribute__" "BaseException" "__getattribute__" (.ref x) [.str "__class__" t] [] _
    (by decide +kernel) (by decide +kernel) A4 (PySem.F.args_bexc_ga (.ref x) (.str "__class__" t)) ?_
  unfold Builtin.«object.__getattribute__»
  refine wpAny_bind (wpAny_of_eq (a := ((Value.ref x : Value), [Value.str "__class__" t])) (by first | rfl | (simp only [slotArgs]; rfl)) ?_)
  refine wpAny_bind (wpAny_pure (wpAny_bind (A0.at (wpAny_bind (A3.at ?_)))))
  show wpAny _ _ (holding [Value.builtin "object.__class__"] (call (.builtin "getset_descriptor.__get__") [.builtin "object.__class__", .ref x, .ref D]) >>= ret) _ _ _
  refine wpAny_bind (wpAny_holding (wpAny_call (class_get (s := ⟨hp, g, d, t + 1, os⟩) (ox := ox) (od := od) X I T.hm ?_)))
  refine wpAny_pure ?_
  show wpAny _ _ (handedOut (.ref D)) _ _ _
  rw [handedOut_of (v := .ref D) rfl]
  first
    | exact wpAny_pure (wpAny_pure h)
    | exact wpAny_pure h
    | exact wpAny_pure (wpAny_bind (wpAny_pure (wpAny_pure h)))
theorem err_kit (T : L2.ExcC K D) : KitX K (.ref x) (.ref D) (fun h => ∃ ox od, InstAt h x ox D od) where
  ty := fun _ _ _ ⟨_, _, I⟩ => I.type
  it := fun _ _ X _ => by
    obtain ⟨cd, hc, _⟩ := any_some T.hd
    unfold clsIn at hc
    split at hc
    · rename_i c1 d1 cd1 sl1 ho
      intro A' Q' E' s' k q
      unfold isType loadHead
      exact wpAny_bind (wpAny_loadPart (k _ _ (X _ _ ho)) (wpAny_pure q))
    · cases hc
  ne := fun h tp dd its n sl X htp => by
    obtain ⟨cd, hc, _⟩ := any_some T.hd
    refine Bool.eq_false_iff.mpr fun q => ?_
    have e : D = tp := Value.ref.inj (beq_iff_eq.mp q)
    subst e
    unfold clsIn at hc
    split at hc
    · rename_i c1 d1 cd1 sl1 ho
      have z := (X _ _ ho).symm.trans htp
      cases z
    · cases hc
  ca := fun X ⟨_, _, I⟩ k => err_class T X I k
end
end PySem.W
set_option Elab.async false
set_option linter.all false
set_option maxRecDepth 100000
set_option maxHeartbeats 4000000
namespace L2
open PySem PySem.Spec PyProof.Rows
/-- what the written part says of a class of errors at C whose __init__ stands at fI -/
structure ErrC (K : PySem.W.Frag) (C fI : Addr) : Prop where
  ox : OexC K C
  xf : XfC K C
  xc : ExcC K C
  iC : PySem.W.findIn K (.ref C) "__init__" = some (some (.ref fI))
  tI : PySem.W.typeIn K (.ref fI) = some (.type "function")
  nv : PySem.W.findIn K (.ref C) "value" = some none
/-- x is an error of the class at C whose field holds v -/
def ErrAt (H : Hp) (C : Addr) (v x : V) : Prop := ∃ e d, x = .ref e ∧ H e = some (exo e C (some d)) ∧ H d = some (exd d [("value", v)])
theorem ErrAt.same {H H' : Hp} {C : Addr} {v x : V} (k : Same H H') (h : ErrAt H C v x) : ErrAt H' C v x := by
  obtain ⟨e, d, e1, e2, e3⟩ := h
  exact ⟨e, d, e1, k _ _ e2, k _ _ e3⟩
/-- its __init__ -/
def spErr (C : Addr) : Sp := fun vs H Q _ => ∃ (e : Addr) (v : V), vs = [.ref e, v] ∧ H e = some (exo e C none) ∧
  ∀ d, H d = none → d ≠ e → Q .non (upd (upd H d (exd d [("value", v)])) e (exo e C (some d)))
def errScope : Scope := { kind := .function, names := [("self", .local), ("value", .local)], isGenerator := false, isCoroutine := false, more := [] }
def errBody (p1 p2 p3 p4 : Pos) : List Stmt := [.Assign [.Attribute (.Name "self" p1) "value" p2] (.Name "value" p3) p4]
theorem errSc : FnScope ["self", "value"] ["self", "value"] errScope := ⟨rfl, rfl, rfl, by decide +kernel, rfl, by decide +kernel, by decide +kernel⟩
section
variable {P : Program} {w : World} {K : PySem.W.Frag} {mg : Str → Option Value} {base : Heap}
theorem ok_err {qual : Str} {params : Arguments} {C fI : Addr} {fd : FuncData} {p1 p2 p3 p4 : Pos} (F : FunD K "__init__" qual params (errBody p1 p2 p3 p4) errScope [.non] [] fI fd) (T : ErrC K C fI) :
    FnOk P w K mg base CX0 1 fI fd ["self", "value"] (spErr C) := by
  refine F.ok errSc (fun vs H Q E h => ?_) (fun cdv A outer s H vs Q E hr h => ?_)
  · obtain ⟨e, v, rfl, _⟩ := h
    rfl
  · obtain ⟨e, v, rfl, he, k⟩ := h
    refine ⟨_, PSs.nox (pss_one (ps_ost (pv 0) (pv 1))), ?_⟩
    exact ⟨_, rfl, _, rfl, e, C, rfl, T.ox, T.nv, Or.inl ⟨he, fun d h1 h2 => k d h1 h2⟩⟩
end
section
variable {X : Cx} {pins : List (Addr × Obj)} {σ : St} {H : Hp} {s : Shared} {C fI : Addr} {fd : FuncData} {k : Nat}
/-- C(..), however the value comes to its parameter -/
theorem run_err {Q : VK} {us : List Value} {kw : List (Str × Value)} {u : Value} {v : V} (T : ErrC X.K C fI) (F1 : FnOk X.prog X.w X.K X.mg X.base CX0 k fI fd ["self", "value"] (spErr C)) (hr : Room (k + 1) X.A)
    (hus : us.length ≤ sizeLine) (hb : ∀ (s' : Shared) (e : Addr), X.K.In s'.heap → BindsTo s' fd ⟨.ref e :: us, kw⟩ ((["self", "value"] : List Str).zip [.ref e, u])) (rv : RelV v u)
    (I : Inv X pins σ H s) (h : ∀ e H', Same H H' → ErrAt H' C v (.ref e) → Q (.ref e) H') :
    wpAny (model X.prog X.w) X.A (call (.ref C) us kw) (EP X pins σ Q) X.xe s := by
  obtain ⟨nm, q, N, bs, bm, sn, sub, ab, col, dd, k0, k1, k2, k3, k5, hC, hbm⟩ := T.ox.cls
  obtain ⟨hp, g, dr, tk, os⟩ := s
  have hsz : hp.objs.size ≤ hp.objs.size + 1 := Nat.le_succ _
  have hn : H (hp.objs.size + 1) = none := I.hok.fresh hsz
  have kk : ∀ b o, hp.get? b = some o → ((hp.push (PySem.W.kdv_tup us)).push (PySem.HandSPX.excO C hp.objs.size)).get? b = some o :=
    fun b o e => Heap.get?_push_of_some _ (Heap.get?_push_of_some _ e)
  have hget : ((hp.push (PySem.W.kdv_tup us)).push (PySem.HandSPX.excO C hp.objs.size)).get? (hp.objs.size + 1) = some (PySem.HandSPX.excO C hp.objs.size) := by heap_get
  have I2 : Inv X pins σ (upd H (hp.objs.size + 1) (exo (hp.objs.size + 1) C none)) ⟨(hp.push (PySem.W.kdv_tup us)).push (PySem.HandSPX.excO C hp.objs.size), g, dr, tk, os⟩ :=
    I.laid (t' := tk) (a := hp.objs.size + 1) (o := exo (hp.objs.size + 1) C none) (h' := (hp.push (PySem.W.kdv_tup us)).push (PySem.HandSPX.excO C hp.objs.size)) kk hsz (exo_ok hget)
  have hq : spErr C [.ref (hp.objs.size + 1), v] (upd H (hp.objs.size + 1) (exo (hp.objs.size + 1) C none))
      (fun v' H3 => v' = .non ∧ Q (.ref (hp.objs.size + 1)) H3) (fun _ _ _ => False) := by
    refine ⟨_, v, rfl, upd_same, fun d hd hne => ⟨rfl, ?_⟩⟩
    rw [upd_ne hne] at hd
    refine h _ _ (fun b o e => ?_) ⟨_, d, rfl, upd_same, ?_⟩
    · rw [upd_ne (ne_of_none e hn), upd_ne (ne_of_none e hd), upd_ne (ne_of_none e hn)]
      exact e
    · rw [upd_ne hne, upd_same]
  refine wpAny_call (PySem.KwX.callk F.excBase_ValueError (fun Y => PySem.HandSPX.refsVE_contains Y bm hbm) (I.kIn _ _ hC) (PySem.W.looks_findIn I.kIn T.iC) (fun self => PySem.W.bind_fn I.kIn self T.tI) hus
    (codeAny_mono (F1.run _ X.stack _ _ ⟨Value.ref (hp.objs.size + 1) :: us, kw⟩ [Value.ref (hp.objs.size + 1), u] [V.ref (hp.objs.size + 1), v] _ (fun _ _ _ => False) (hr.make C us kw) (I2.env0.make C us kw) (hb _ _ I2.kIn)
      (.cons rfl (.cons rv .nil)) hq) fun r s' hq' => ?_))
  cases r with
  | error er => exact absurd hq' id
  | ok fl =>
    cases fl with
    | ret u' =>
      obtain ⟨v', H', I3, rv', ev, q3⟩ := I2.after hq'
      subst ev
      have e1 : ∀ b o, hp.get? b = some o → H b = none → upd H (hp.objs.size + 1) (exo (hp.objs.size + 1) C none) b = none := fun b o e n => by
        rw [upd_ne (Nat.ne_of_lt (Nat.lt_of_lt_of_le (Heap.lt_size e) hsz))]
        exact n
      exact ⟨rv', V.ref (hp.objs.size + 1), H', I3, rfl, q3⟩
    | next => exact False.elim hq'
    | brk => exact False.elim hq'
    | cont => exact False.elim hq'
end
/-! ### the rules: C(), C(e), C(value=e) -/
section
variable {X : Cx} {C fI : Addr} {fd : FuncData} {k : Nat} {x : Str} {p pos : Pos} {e : Expr} {te : TE}
/-- how an argument comes to the parameter: none, by place, by name -/
structure ErrB (K : PySem.W.Frag) (fd : FuncData) : Prop where
  b0 : ∀ (s : Shared) (a : Value), K.In s.heap → BindsTo s fd ⟨[a], []⟩ ((["self", "value"] : List Str).zip [a, .none])
  b1 : ∀ (s : Shared) (a u : Value), K.In s.heap → BindsTo s fd ⟨[a, u], []⟩ ((["self", "value"] : List Str).zip [a, u])
  bk : ∀ (s : Shared) (a u : Value), K.In s.heap → BindsTo s fd ⟨[a], [("value", u)]⟩ ((["self", "value"] : List Str).zip [a, u])
/-- what a call of the class leaves -/
def newErr (C : Addr) (v : V) (H : Hp) (Q : VK) : Prop := ∀ e H', Same H H' → ErrAt H' C v (.ref e) → Q (.ref e) H'
def tErr (C : Addr) (te : TE) : TE := fun σ H Q => te σ H fun v H1 => newErr C v H1 Q
theorem pe_err0 (T : ErrC X.K C fI) (F1 : FnOk X.prog X.w X.K X.mg X.base CX0 k fI fd ["self", "value"] (spErr C)) (B : ErrB X.K fd) (hr : Room (k + 1) X.A) (hm : X.mg x = some (.ref C)) (hg : Gl X x := by rfl)
    (hdb : (x == ("__debug__" : Str)) = false := by decide) : PE X (.Call (.Name x p) [] [] pos) (fun _ H Q => newErr C .non H Q) := by
  refine ⟨fun pins s σ H Q I h => ?_⟩
  refine wpAny_Call_Name_kw (ld_glob I hg hm ?_ hdb)
  refine PySem.W.callWith_K0 I.kIn T.ox.kC ?_
  exact run_err (us := []) (kw := []) T F1 hr (Nat.zero_le _) (fun s' a X' => B.b0 s' _ X') (v := .non) rfl I h
theorem pe_err1 (T : ErrC X.K C fI) (F1 : FnOk X.prog X.w X.K X.mg X.base CX0 k fI fd ["self", "value"] (spErr C)) (B : ErrB X.K fd) (hr : Room (k + 1) X.A) (hm : X.mg x = some (.ref C)) (he : PE X e te) (hg : Gl X x := by rfl)
    (hdb : (x == ("__debug__" : Str)) = false := by decide) (hs : starEach [e] X.env = (false, eval e X.env) :: starEach [] X.env := by rfl) (hpl : (backTo pos (starEach [] X.env)).any (·.1) = false := by rfl) :
    PE X (.Call (.Name x p) [e] [] pos) (tErr C te) := by
  refine ⟨fun pins s σ H Q I h => ?_⟩
  refine wpAny_Call_Name_kw (ld_glob I hg hm ?_ hdb)
  refine PySem.W.callWith_K (h₀ := X.base) I.ok.mod.kin T.ox.kC ?_ hs hpl
  rw [hs]
  show wpAny _ _ (spliced ((false, eval e X.env) :: backTo pos (starEach [] X.env))) _ _ s
  refine Calls.spliced_cons (thn (he.run pins s σ H _ I h) fun u s1 ⟨v, H1, I1, r1, q1⟩ => ?_)
  refine Calls.spliced_nil ⟨I1.kIn, ?_⟩
  exact run_err (us := [u]) (kw := []) T F1 hr (by show 1 ≤ sizeLine; decide) (fun s' a X' => B.b1 s' _ u X') r1 I1 q1
theorem pe_errk {pk : Pos} (T : ErrC X.K C fI) (F1 : FnOk X.prog X.w X.K X.mg X.base CX0 k fI fd ["self", "value"] (spErr C)) (B : ErrB X.K fd) (hr : Room (k + 1) X.A) (hm : X.mg x = some (.ref C))
    {ta : TA} (hkw : PK X [⟨some "value", e, pk⟩] ta) (hg : Gl X x := by rfl) (hdb : (x == ("__debug__" : Str)) = false := by decide)
    (hall : (backToKw pos (keywordEach [⟨some "value", e, pk⟩] X.env)).all (·.1.isSome) = true := by rfl) (hks : (backToKw pos (keywordEach [⟨some "value", e, pk⟩] X.env)).filterMap (·.1) = (["value"] : List Str) := by rfl)
    (hpl : ((backTo pos (starEach [] X.env)).any (·.1) || (backToKw pos (keywordEach [⟨some "value", e, pk⟩] X.env)).any (·.1.isNone)) = false := by rfl) :
    PE X (.Call (.Name x p) [] [⟨some "value", e, pk⟩] pos) (fun σ H Q => ta σ H fun vs H1 => ∃ v, vs = [v] ∧ newErr C v H1 Q) := by
  refine ⟨fun pins s σ H Q I h => ?_⟩
  refine wpAny_Call_Name_kw (ld_glob I hg hm ?_ hdb)
  refine PySem.W.callWith_KW0 (h₀ := X.base) I.ok.mod.kin T.ox.kC hall ?_ hpl
  refine thn (hkw.run pos pins s σ H _ I h) fun us s1 ⟨vs, H1, I1, r1, v, ev, q1⟩ => ?_
  subst ev
  rw [hks]
  cases r1 with
  | @cons _ u _ _ ru rn =>
    cases rn
    exact ⟨I1.kIn, run_err (us := []) (kw := [("value", u)]) T F1 hr (Nat.zero_le _) (fun s' a X' => B.bk s' _ u X') ru I1 q1⟩
end
/-! ### isinstance, the field -/
/-- an error, with or without a field -/
def AnErr (H : Hp) (C : Addr) (x : V) : Prop := ∃ e, x = .ref e ∧ (H e = some (exo e C none) ∨ ∃ d fs, H e = some (exo e C (some d)) ∧ H d = some (exd d fs))
theorem ErrAt.an {H : Hp} {C : Addr} {v x : V} (h : ErrAt H C v x) : AnErr H C x := by
  obtain ⟨e, d, e1, e2, e3⟩ := h
  exact ⟨e, e1, .inr ⟨d, _, e2, e3⟩⟩
theorem AnErr.same {H H' : Hp} {C : Addr} {x : V} (k : Same H H') (h : AnErr H C x) : AnErr H' C x := by
  obtain ⟨e, e1, e2 | ⟨d, fs, e2, e3⟩⟩ := h
  · exact ⟨e, e1, .inl (k _ _ e2)⟩
  · exact ⟨e, e1, .inr ⟨d, fs, k _ _ e2, k _ _ e3⟩⟩
section
variable {X : Cx} {pins : List (Addr × Obj)} {σ : St} {H : Hp} {s : Shared} {C : Addr}
theorem AnErr.inst {e : Addr} (I : Inv X pins σ H s) (h : AnErr H C (.ref e)) : ∃ ox od, PySem.W.InstAt s.heap e ox C od := by
  obtain ⟨e', e1, h⟩ := h
  cases e1
  rcases h with h | ⟨d, fs, h, hd⟩
  · obtain ⟨t1, ho⟩ := exo_at I.hok h
    exact ⟨_, none, ho, rfl, rfl, trivial⟩
  · obtain ⟨t1, ho⟩ := exo_at I.hok h
    obtain ⟨mA, hn, _⟩ := exd_at I.hok hd
    obtain ⟨o, es, ep, hod, _⟩ := hn
    exact ⟨_, some o, ho, rfl, rfl, hod⟩
def rIsX (K : PySem.W.Frag) : List V → Hp → VK → Prop := fun xs H Q => ∃ (x : V) (C : Addr) (c : V) (cv : Value) (b : Bool), xs = [x, c] ∧ AnErr H C x ∧ ExcC K C ∧ ClsV c cv ∧ PySem.W.kitOne K (.ref C) cv = some b ∧ Q (.bl b) H
theorem call_isX : CallR X (.builtin "isinstance") (rIsX X.K) := by
  intro pins s σ H xs us Q I r h
  obtain ⟨x, C, c, cv, b, rfl, hx, T, kc, e, q⟩ := h
  obtain ⟨u1, u2, rfl, r1, r2⟩ := vals2 r
  have e2 := kc.eq r2
  subst e2
  obtain ⟨a, rfl, hh⟩ := id hx
  obtain rfl : u1 = Value.ref a := r1
  exact PySem.W.kia_one (PySem.W.err_kit T) I.kIn (hx.inst I) e (fun z => nomatch z) fun tk => ⟨.bl b, H, I.tok tk, rfl, q⟩
/-- e.value -/
def tErrVal (K : PySem.W.Frag) (te : TE) : TE := fun σ H Q => te σ H fun x H1 => ∃ C fI v, ErrAt H1 C v x ∧ ErrC K C fI ∧ Q v H1
theorem pe_errVal {e : Expr} {te : TE} {pos : Pos} (he : PE X e te) (hb : attributeBase e "value" X.env (eval e X.env) = eval e X.env := by rfl) : PE X (.Attribute e "value" pos) (tErrVal X.K te) := by
  refine ⟨fun pins s σ H Q I h => ?_⟩
  refine attr_of hb (thn (he.run pins s σ H _ I h) fun u s1 hh => ?_)
  obtain ⟨x, H1, I1, rx, C, fI, v, ⟨a, d, rfl, ha, hd⟩, T, q⟩ := hh
  obtain rfl : u = Value.ref a := rx
  obtain ⟨t1, ho⟩ := exo_at I1.hok ha
  obtain ⟨mA, hns, hr⟩ := exd_at I1.hok hd
  obtain ⟨od, hod, hl⟩ := lookIn_ns hns
  obtain ⟨w, hw, rw'⟩ := RelO.some_of (v := v) (o := mA "value") (hr "value")
  have J : PySem.W.InstAt s1.heap a _ C (some od) := ⟨ho, rfl, rfl, hod⟩
  exact HandSPX.exc_get I1.kIn J T.xf.ga T.xf.gg T.xf.exC (PySem.W.findObj_own T.xf.hdC T.nv rfl (by rw [hl, hw])) (handed_of rw') ⟨v, H1, I1.tok _, rw', q⟩
end
end L2
set_option Elab.async false
set_option linter.all false
set_option maxRecDepth 100000
set_option maxHeartbeats 4000000
/-! sorted(xs, key=lambda y: y[1]). -/
namespace KLam
open PySem PySem.Spec PyProof.Rows L2 LamX
/-- lambda y: y[n] called with a tuple -/
theorem lam_key {P : Program} {w : World} {A : Around} {s : Shared} {f c' t : Addr} {q y : Str} {params : Arguments} {scope : Scope} {pm ctv : Value} {p1 p2 p3 : Pos} {kk : Nat} {n : Int} {j : Nat} {z : Int} {tk : Tok} {its : Array Value}
    (hA : A.depth < recursionLimit) (lim : s.heap.NoLimit)
    (ho : s.heap.get? f = some (PySem.W.kla_obj "<lambda>" q params (.Subscript (.Name y p1) (.Constant (.int n) kk p2) p3) scope [] pm c' ctv)) (hc : s.heap.CodeRec (.ref c') q)
    (hco : scope.isCoroutine = false) (hgen : scope.isGenerator = false) (hk : scope.kind = .function) (hnc : ∀ x ∈ scope.names, x.2 ≠ .cell) (hy : scope.names.lookup y = some .local) (hd : (y == ("__debug__" : Str)) = false)
    (hb : ∀ u, bindArgs (PySem.W.kla_fn "<lambda>" q params (.Subscript (.Name y p1) (.Constant (.int n) kk p2) p3) scope [] pm (.ref c') ctv) ⟨[u], []⟩ = pure [(y, u)])
    (ht : IsTup s.heap t its) (hj : seqIndex? n its.size = some j) (hlo : -(2 ^ 63) ≤ n) (hhi : n < 2 ^ 63) (hx : its[j]? = some (.int z tk)) :
    wpAny (model P w) A (call (.ref f) [.ref t]) (PySem.W.KeyPure (.int z) s) (fun _ _ => False) s := by
  have rc : codeAny (model P w) A (.call (.ref f) ⟨[.ref t], []⟩) (fun r s' => match r with | .ok (.ret v) => PySem.W.KeyPure (.int z) s v s' | _ => False) s := by
    refine PySem.W.kla_callFunE hA ho rfl hco hgen rfl hc ?_
    rw [hb]
    refine wpAny_pure (wpAny_newFunctionEnv hnc (fun x hx => by simp at hx; rw [hx]; exact hy) (fun h₁ hns hsb => ⟨?_, ?_⟩) hk)
    · exact lim.fresh _ hsb
    · refine PySem.W.kla_codeExpr ?_
      have kp : ∀ b o, s.heap.get? b = some o → h₁.get? b = some o := fun b o e => hsb.extBut b o (Nat.ne_of_lt (Heap.lt_size e)) (Heap.get?_push_of_some _ e)
      have ht1 := ht.keeps kp
      refine Subscript_ (wpAny_Name (wpAny_loadName_local (v := .ref t) hk hy hns (by simp [List.lookup]) (wpAny_Constant_int ?_)) hd)
      refine subscriptTail_builtinR (x := .int z tk) ?_ slot_tuple_getitem.lookup (getItem_tuple (j := j) ht1 hlo hhi hj hx ⟨rfl, ?_⟩) rfl
      · exact IsTup.typeIs (s := { s with heap := h₁, toks := _ }) ht1
      · exact ⟨h₁, _, rfl, kp, .int z tk⟩
  refine wpAny_call (codeAny_mono rc fun r s' hq => ?_)
  cases r with
  | error e => exact hq
  | ok fl =>
    cases fl with
    | ret u => exact hq
    | next => exact hq.elim
    | brk => exact hq.elim
    | cont => exact hq.elim
end KLam
set_option Elab.async false
set_option linter.all false
set_option maxRecDepth 100000
set_option maxHeartbeats 4000000
/-! sorted(xs, key=lambda y: y[n]), as a rule. -/
namespace KLam
open PySem PySem.Spec PyProof.Rows L2 LamX
theorem each_vals : ∀ {xs : List V} {us : List Value}, Vals xs us → PySem.W.EachIs (fun (v : Value) (x : V) => RelV x v) us xs
  | _, _, .nil => .nil
  | _, _, .cons r t => .cons r (each_vals t)
theorem vals_each : ∀ {xs : List V} {us : List Value}, PySem.W.EachIs (fun (v : Value) (x : V) => RelV x v) us xs → Vals xs us
  | _, _, .nil => .nil
  | _, _, .cons r t => .cons r (vals_each t)
/-- the wish: T: the tables of code objects -/
def tSortLam (T : List (Addr × Str)) (K : PySem.W.Frag) (n : Int) (te : TE) : TE := fun σ H Q => te σ H fun x H1 => Tabs T H1 ∧ ∃ (a : Addr) (xs : List V) (g : V → Int), x = .ref a ∧ SqL K H1 a xs ∧
  (∀ u ∈ xs, ∃ (t : Addr) (zs : List V), u = .ref t ∧ SqT K H1 t zs ∧ atI zs n = some (.int (g u))) ∧
  ∀ H2 p, ExtN H1 H2 → Tabs T H2 → H2 p = none → Q (.ref p) (upd H2 p (.lst (xs.mergeSort fun u v => decide (g u ≤ g v))))
theorem sqT_ext {K : PySem.W.Frag} {H H' : Hp} {t : Addr} {zs : List V} (h : SqT K H t zs) (e : ExtN H H') : SqT K H' t zs := by
  rcases h with (h | ⟨o, h⟩) | h
  · exact .inl (.inl (e _ _ h fun ps z => by cases z))
  · exact .inl (.inr ⟨o, e _ _ h fun ps z => by cases z⟩)
  · exact .inr h
theorem sqL_ext {K : PySem.W.Frag} {H H' : Hp} {t : Addr} {zs : List V} (h : SqL K H t zs) (e : ExtN H H') : SqL K H' t zs := by
  rcases h with (h | ⟨o, h⟩) | h
  · exact .inl (.inl (e _ _ h fun ps z => by cases z))
  · exact .inl (.inr ⟨o, e _ _ h fun ps z => by cases z⟩)
  · exact .inr h
section
variable {X : Cx}
theorem pe_sortedLam {T : List (Addr × Str)} {c P : Addr} {params : Arguments} {scope : Scope} {y : Str} {n : Int} {kk j : Nat} {e : Expr} {te : TE} {p p1 p2 p3 lpos kpos pos : Pos} (he : PE X e te)
    (hg : Gl X "sorted") (hm : X.mg "sorted" = none)
    (TB : TabB X.base X.mg c P) (hcode : X.env.code = .ref c) (hmT : (P, X.env.qual ++ "<lambda>") ∈ T) (hu : ∀ q ∈ T, q.1 = P → q.2 = X.env.qual ++ "<lambda>") (hr : Room 3 X.A)
    (hdef : defaultsOf params X.env = ([], [])) (hcl : cloFrom X.env.cells scope.names [] = []) (hfr : ∀ z ∈ scope.names, z.2 ≠ .free)
    (hco : scope.isCoroutine = false) (hgen : scope.isGenerator = false) (hk : scope.kind = .function) (hnc : ∀ x ∈ scope.names, x.2 ≠ .cell) (hy : scope.names.lookup y = some .local) (hd : (y == ("__debug__" : Str)) = false)
    (hb : ∀ (q : Str) (pm cv ctv u : Value), bindArgs (PySem.W.kla_fn "<lambda>" q params (.Subscript (.Name y p1) (.Constant (.int n) kk p2) p3) scope [] pm cv ctv) ⟨[u], []⟩ = pure [(y, u)])
    (hstar : starEach [e] X.env = (false, eval e X.env) :: starEach [] X.env := by rfl) (ha : backTo pos (starEach [e] X.env) = (false, eval e X.env) :: backTo pos (starEach [] X.env) := by rfl) (hpl : (backTo pos (starEach [e] X.env)).any (·.1) = false := by rfl) :
    PE X (.Call (.Name "sorted" p) [e] [⟨some "key", .Lambda params (.Subscript (.Name y p1) (.Constant (.int n) kk p2) p3) scope lpos, kpos⟩] pos) (tSortLam T X.K n te) := by
  refine ⟨fun pins s σ H Q I h => ?_⟩
  refine wpAny_Call_Name_kw (ld_blt I hg hm (by rfl : bootBuiltins "sorted" = some (.builtin "sorted")) ?_ (by decide) (by decide))
  have h' : tCons te tNil σ H (fun vs H1 => match vs with
    | [x] => Tabs T H1 ∧ ∃ (a : Addr) (xs : List V) (g : V → Int), x = .ref a ∧ SqL X.K H1 a xs ∧
      (∀ u ∈ xs, ∃ (t : Addr) (zs : List V), u = .ref t ∧ SqT X.K H1 t zs ∧ atI zs n = some (.int (g u))) ∧
      ∀ H2 p, ExtN H1 H2 → Tabs T H2 → H2 p = none → Q (.ref p) (upd H2 p (.lst (xs.mergeSort fun u v => decide (g u ≤ g v))))
    | _ => False) := h
  refine PyProof.Rows.callWith_kw (thn ((pa_cons he pa_nil hstar).run pos pins s σ H _ I h') fun us s1 ⟨vs, H1, I1, r1, q1⟩ => ?_) ha hpl (by rfl) (by rfl)
  match vs, r1, q1 with
  | [], r1, q1 => exact q1.elim
  | _ :: _ :: _, r1, q1 => exact q1.elim
  | [x], r1, q1 =>
    obtain ⟨hT, a, xs, g, ex, hxs, hk1, q⟩ := q1
    subst ex
    obtain ⟨u, rfl, rx⟩ := vals1 r1
    obtain rfl : u = Value.ref a := rx
    show wpAny _ _ (evalAll ((do let v ← eval (.Lambda params (.Subscript (.Name y p1) (.Constant (.int n) kk p2) p3) scope lpos) X.env; standAt pos; pure v) :: [])) _ _ s1
    refine wpAny_evalAll_cons (wpAny_bind (lam_make2 I1 TB hcode hmT hu hT hdef (fun z hz e => absurd e (hfr z hz)) fun f c' pm' ctv H2 s2 I2 eN T2 hf hfn hfr2 hco2 => wpAny_bind (wpAny_standAt (wpAny_pure ?_))))
    refine wpAny_evalAll_nil ?_
    rw [hcl] at hf
    show wpAny _ _ (call (.builtin "sorted") [.ref a] [("key", .ref f)]) _ _ s2
    have hx2 := sqL_ext hxs eN
    obtain ⟨its, rv, hl, hz⟩ := I2.list hx2
    have lim2 : s2.heap.NoLimit := I2.nolimit
    refine PySem.W.sorted_key_data (b := false) (β := V) (bs := xs) (vs := its) (R := fun (v : Value) (x : V) => RelV x v) (fun u => .int (g u)) hl.isList (each_vals rv) (fun d hd d' hd' => ?_) (.inr fun d hd => ?_) hz (fun x hx => ?_) (ksk_s1 _ _) (fun x => ksk_l1 _ _) (fun x => ksk_t1 _ _) (fun v x rx hx h tk kp => ?_) (fun out c2 h3 tk kp fr get len each => ?_)
    · obtain ⟨x, _, rfl⟩ := List.mem_map.mp hd
      obtain ⟨x', _, rfl⟩ := List.mem_map.mp hd'
      rfl
    · obtain ⟨x, _, rfl⟩ := List.mem_map.mp hd
      exact ⟨(fun z => nomatch z), fun xs z => nomatch z⟩
    · have := hr.un
      show X.A.units + 2 + _ < cLine
      simp only [PyData.depth]
      omega
    · obtain ⟨t, zs, rfl, hsq, hat⟩ := hk1 x hx
      obtain rfl : v = Value.ref t := rx
      obtain ⟨its', rv', pl, hz'⟩ := I2.tuple (sqT_ext hsq eN)
      obtain ⟨j, j1, j2, j3, j4, j5⟩ := atI_get hat
      obtain ⟨w', ew, rw'⟩ := rv'.get j2
      obtain ⟨tk', rfl⟩ : ∃ tk', w' = .int (g (.ref t)) tk' := rw'
      have hl' := rv'.length
      have hn := line63
      refine lam_key (s := { s2 with heap := h, toks := tk }) (j := j) (its := its'.toArray) (hr.in1.in1.depth) (lim2.keeps kp) (kp _ _ hf) ?_ hco hgen hk hnc hy hd (fun u => hb _ _ _ _ u) (IsTup.keeps pl kp) (by rw [List.size_toArray, ← hl']; exact j1) (by omega) (by omega) (by simpa using ew)
      obtain ⟨⟨oc, vs, t', hoc, hdc, hvc⟩, _⟩ := I2.hok c' _ hco2
      exact ⟨c', oc, vs, t', rfl, kp _ _ hoc, hdc, hvc⟩
    · rw [PySem.W.dataLe_int] at each
      refine ⟨.ref _, upd H2 (s2.heap.objs.size + 1) (.lst (xs.mergeSort fun u v => decide (g u ≤ g v))), I2.laid (t' := tk) kp (Nat.le_succ _) ⟨by rw [List.length_mergeSort]; exact hz, _, c2, vals_each each, get⟩, rfl, q _ _ eN T2 (I2.hok.fresh (Nat.le_succ _))⟩
end
end KLam
set_option Elab.async false
set_option linter.all false
set_option maxRecDepth 100000
set_option maxHeartbeats 8000000
/-! Runs and waits, first part. -/
namespace K18
open PySem PySem.Spec PyProof.Rows L2 KB
theorem TD.tup {K : PySem.W.Frag} {H : Hp} {n : Nat} {a : Addr} {xs : List V} {ds : List PyData} (h : SqT K H a xs) (l : xs.length = ds.length) (s : ds.length ≤ 1000) (k : ∀ (i : Nat) (u : V) (e : PyData), xs[i]? = some u → ds[i]? = some e → TD K H n u e) : TD K H (n + 1) (.ref a) (.tuple ds) :=
  .inr (.inl ⟨a, xs, ds, rfl, l, s, .inr ⟨h, rfl⟩, k⟩)
theorem itePos {c : Bool} {A B : Prop} (h : c = true) (a : A) : if c = true then A else B := (if_pos h).symm ▸ a
theorem iteNeg {c : Bool} {A B : Prop} (h : ¬ c = true) (b : B) : if c = true then A else B := (if_neg h).symm ▸ b
theorem iteP {p : Prop} [Decidable p] {A B : Prop} (h : p) (a : A) : if decide p = true then A else B := itePos (decide_eq_true h) a
theorem iteQ {p : Prop} [Decidable p] {A B : Prop} (h : ¬ p) (b : B) : if decide p = true then A else B := iteNeg (fun z => h (of_decide_eq_true z)) b
theorem norm {a b : TS} {D : Ends} {σ σ' : L2.St} {G : Hp} (e : σ = σ') (h : tSeq a b D σ' G) : tSeq a b D σ G := e ▸ h
theorem but_off {pu : Addr} {H H' : Hp} (b : But pu H H') : Same (off H pu) (off H' pu) := fun c o e => by
  unfold off at *
  by_cases h : c = pu
  · rw [if_pos h] at e
    cases e
  · rw [if_neg h] at e ⊢
    exact b _ _ h e
/-- a list of tuples -/
structure LsT (K : PySem.W.Frag) {α : Type} (vv : α → List V) (H : Hp) (a : Addr) (xs : List α) : Prop where
  ex : ∃ ts : List Addr, H a = some (.lst (ts.map V.ref)) ∧ ts.length = xs.length ∧ ∀ (i : Nat) (t : Addr) (x : α), ts[i]? = some t → xs[i]? = some x → SqT K H t (vv x)
def wv (w : Nat × Nat) : List V := [.int (w.1 : Int), .int (w.2 : Int)]
def pd (w : Nat × Nat) : PyData := .tuple [.int (w.1 : Int), .int (w.2 : Int)]
abbrev RunAt (K : PySem.W.Frag) := LsT K Ev.v
abbrev WtAt (K : PySem.W.Frag) := LsT K wv
section
variable {K : PySem.W.Frag} {α : Type} {vv : α → List V} {H H' : Hp} {a : Addr} {xs : List α}
theorem LsT.ext (k : LamX.ExtN H H') (h : LsT K vv H a xs) : LsT K vv H' a xs := by
  obtain ⟨ts, h1, h2, h3⟩ := h
  exact ⟨ts, k _ _ h1 (fun ps z => by cases z), h2, fun i t e e1 e2 => KLam.sqT_ext (h3 i t e e1 e2) k⟩
theorem LsT.same (k : Same H H') (h : LsT K vv H a xs) : LsT K vv H' a xs := h.ext (LamX.ExtN.of k)
theorem LsT.offp {pu : Addr} {N : Nat} (h : LsT K vv H a xs) (n : a ≠ pu) (hP : Purse H pu N) : LsT K vv (off H pu) a xs := by
  obtain ⟨A, B, c, i, eP, _⟩ := hP
  obtain ⟨ts, h1, h2, h3⟩ := h
  refine ⟨ts, by rw [off_at n]; exact h1, h2, fun i t e e1 e2 => ?_⟩
  rcases h3 i t e e1 e2 with (h | ⟨o, h⟩) | h
  · exact .inl (.inl (by rw [off_at (fun z => by rw [z, eP] at h; cases h)]; exact h))
  · exact .inl (.inr ⟨o, by rw [off_at (fun z => by rw [z, eP] at h; cases h)]; exact h⟩)
  · exact .inr h
theorem LsT.nil (h : H a = some (.lst [])) : LsT K vv H a ([] : List α) := ⟨[], h, rfl, fun i t x e => by simp at e⟩
theorem LsT.of_paired {ys : List V} (h : H a = some (.lst ys)) (p : Paired (fun x y => ∃ t, y = .ref t ∧ SqT K H t (vv x)) xs ys) : LsT K vv H a xs := by
  have : ∃ ts : List Addr, ys = ts.map V.ref ∧ ts.length = xs.length ∧ ∀ (i : Nat) (t : Addr) (x : α), ts[i]? = some t → xs[i]? = some x → SqT K H t (vv x) := by
    clear h
    induction p with
    | nil => exact ⟨[], rfl, rfl, fun i t x e => by simp at e⟩
    | cons r t ih =>
      obtain ⟨u, rfl, hu⟩ := r
      obtain ⟨ts, rfl, l, k⟩ := ih
      refine ⟨u :: ts, rfl, by rw [List.length_cons, List.length_cons, l], fun i t x e1 e2 => ?_⟩
      cases i with
      | zero => cases e1; cases e2; exact hu
      | succ i => exact k i t x e1 e2
  obtain ⟨ts, rfl, l, k⟩ := this
  exact ⟨ts, h, l, k⟩
/-- the list, its items -/
theorem LsT.got (h : LsT K vv H a xs) : ∃ ts : List Addr, H a = some (.lst (ts.map V.ref)) ∧ ts.length = xs.length ∧ ∀ (i : Nat) (hi : i < xs.length), ∃ t, (ts.map V.ref)[i]? = some (.ref t) ∧ SqT K H t (vv (xs[i]'hi)) := by
  obtain ⟨ts, h1, h2, h3⟩ := h
  refine ⟨ts, h1, h2, fun i hi => ⟨ts[i], ?_, h3 i _ _ (List.getElem?_eq_getElem _) (List.getElem?_eq_getElem _)⟩⟩
  rw [List.getElem?_map, List.getElem?_eq_getElem (by omega)]
  rfl
theorem LsT.td {vd : α → PyData} (n : Nat) (hv : ∀ {G : Hp} {t : Addr} {x : α}, SqT K G t (vv x) → TD K G (n + 1) (.ref t) (vd x)) (h : LsT K vv H a xs) (l : xs.length ≤ 1000) : TD K H (n + 2) (.ref a) (.list (xs.map vd)) := by
  obtain ⟨ts, h1, h2, h3⟩ := h
  refine TD.lst h1 (by rw [List.length_map, List.length_map, h2]) (by rw [List.length_map]; exact l) fun i u e e1 e2 => ?_
  rw [List.getElem?_map] at e1 e2
  obtain ⟨t, q1, rfl⟩ := Option.map_eq_some_iff.mp e1
  obtain ⟨v, q2, rfl⟩ := Option.map_eq_some_iff.mp e2
  exact hv (h3 i t v q1 q2)
end
theorem Ev.td {K : PySem.W.Frag} {H : Hp} {t : Addr} {e : Ev} (n : Nat) (h : SqT K H t e.v) : TD K H (n + 1) (.ref t) e.d := by
  cases e with
  | bar => exact TD.tup h rfl (by decide) (td_cons (TD.flat (.str _)) td_nil)
  | tell => exact TD.tup h rfl (by decide) (td_cons (TD.flat (.str _)) td_nil)
  | wr m => exact TD.tup h rfl (Nat.le_of_ble_eq_true rfl) (td_cons (TD.flat (.str _)) (td_cons (TD.flat (.int _)) td_nil))
theorem pd_td {K : PySem.W.Frag} {H : Hp} {t : Addr} {w : Nat × Nat} (n : Nat) (h : SqT K H t (wv w)) : TD K H (n + 1) (.ref t) (pd w) := TD.tup h rfl (Nat.le_of_ble_eq_true rfl) (td_cons (TD.flat (.int _)) (td_cons (TD.flat (.int _)) td_nil))
theorem Ev.dp {K : PySem.W.Frag} {H : Hp} {t : Addr} {e : Ev} (h : SqT K H t e.v) : Dp K H (.ref t) e.d := by
  cases e with
  | bar => exact .tup h (.cons (.str _) .nil)
  | tell => exact .tup h (.cons (.str _) .nil)
  | wr m => exact .tup h (.cons (.str _) (.cons (.int _) .nil))
theorem shaped_ev (e : Ev) : SeqAt.shaped e.d = true := by
  cases e <;> simp [Ev.d, SeqAt.shaped, PyData.depth, PyData.depthAll, PyData.canLay0, PyData.canLayAll0] <;> decide +kernel
theorem eqv_ev (e f : Ev) : PyData.eqv e.d f.d = decide (e = f) := by
  have ie : ∀ c d : Nat, ((c : Int) == (d : Int)) = decide (Ev.wr c = Ev.wr d) := fun c d => by
    rw [Bool.eq_iff_iff, beq_iff_eq, decide_eq_true_eq]
    constructor
    · intro h
      rw [show c = d by omega]
    · intro h
      injection h with h
      rw [h]
  cases e <;> cases f <;> first | rfl | (rename_i c d; rw [← ie]; simp [Ev.d, PyData.eqv, PyData.eqvAll])
theorem td_cs {K : PySem.W.Frag} {H : Hp} {x : V} {d : PyData} : ∀ {n : Nat}, TD K H n x d → (x = .non ∧ d = .none) ∨ (∃ b, x = .bl b ∧ d = .bool b) ∨ (∃ i, x = .int i ∧ d = .int i) ∨ (∃ z, x = .str z ∧ d = .str z) ∨
    (∃ a xs ds, x = .ref a ∧ H a = some (.lst xs) ∧ d = .list ds ∧ xs.length = ds.length ∧ ds.length ≤ 1000 ∧ ∀ (i : Nat) (u : V) (e : PyData), xs[i]? = some u → ds[i]? = some e → TD K H (n - 1) u e) ∨ (∃ a xs ds, x = .ref a ∧ SqT K H a xs ∧ d = .tuple ds ∧ xs.length = ds.length ∧ ds.length ≤ 1000) ∨
    ∃ a ps m, x = .ref a ∧ H a = some (.dK (mV ps m)) ∧ d = .dict (ps.map fun p : Nat => (.int (p : Int), .int (m p : Int))) := by
  have fl : ∀ {x : V} {d : PyData}, FlatD x d → (x = .non ∧ d = .none) ∨ (∃ b, x = .bl b ∧ d = .bool b) ∨ (∃ i, x = .int i ∧ d = .int i) ∨ (∃ z, x = .str z ∧ d = .str z) := fun h => by
    cases h
    · exact .inl ⟨rfl, rfl⟩
    · exact .inr (.inl ⟨_, rfl, rfl⟩)
    · exact .inr (.inr (.inl ⟨_, rfl, rfl⟩))
    · exact .inr (.inr (.inr ⟨_, rfl, rfl⟩))
  intro n h
  cases n with
  | zero =>
    rcases fl h with h | h | h | h
    · exact .inl h
    · exact .inr (.inl h)
    · exact .inr (.inr (.inl h))
    · exact .inr (.inr (.inr (.inl h)))
  | succ n =>
    rcases h with h | ⟨a, xs, ds, rfl, l, l1, t, c⟩ | ⟨a, ps, m, rfl, _, ha, rfl⟩
    · rcases fl h with h | h | h | h
      · exact .inl h
      · exact .inr (.inl h)
      · exact .inr (.inr (.inl h))
      · exact .inr (.inr (.inr (.inl h)))
    · rcases t with ⟨ha, rfl⟩ | ⟨ha, rfl⟩
      · exact .inr (.inr (.inr (.inr (.inl ⟨a, xs, ds, rfl, ha, rfl, l, l1, c⟩))))
      · exact .inr (.inr (.inr (.inr (.inr (.inl ⟨a, xs, ds, rfl, ha, rfl, l, l1⟩)))))
    · exact .inr (.inr (.inr (.inr (.inr (.inr ⟨a, ps, m, rfl, ha, rfl⟩)))))
theorem cut_tl (xs : List V) : cutV xs (some 1) none = xs.drop 1 := by
  unfold cutV
  by_cases h : 1 ≤ xs.length
  · have e1 : HT.sIx xs.length 0 (some 1) = 1 := by
      unfold HT.sIx
      simp
      omega
    have e2 : HT.sIx xs.length xs.length none = xs.length := rfl
    rw [e1, e2, List.take_of_length_le (by rw [List.length_drop]; exact Nat.le_refl _)]
  · have e0 : xs = [] := List.length_eq_zero_iff.mp (by omega)
    rw [e0]
    rfl
theorem lexLt_of {u v : Nat × Nat} (h : lexP u v) : HT.lexLt [(u.1 : Int), (u.2 : Int)] [(v.1 : Int), (v.2 : Int)] = true := by
  rw [HT.lexLt_cons]
  rcases h with h | ⟨h1, h2⟩
  · rw [if_neg (by omega)]
    exact decide_eq_true (by omega)
  · rw [if_pos (by omega), HT.lexLt_cons, if_neg (by omega)]
    exact decide_eq_true (by omega)
def cntB : PyData → Bool
  | .int i => decide (i ≥ 0)
  | _ => false
def whB : PyData → Bool
  | .int _ => true
  | _ => false
theorem td_tyI {K : PySem.W.Frag} {H : Hp} {n : Nat} {x : V} {d : PyData} (h : TD K H n x d) : ∃ t i b, TyX K H x (.type t) ∧ kitB t "int" = some i ∧ kitB t "bool" = some b ∧ whB d = (i && !b) := by
  rcases (td_cs h) with ⟨rfl, rfl⟩ | ⟨b, rfl, rfl⟩ | ⟨i, rfl, rfl⟩ | ⟨z, rfl, rfl⟩ | ⟨a, xs, ds, rfl, ha, rfl, _⟩ | ⟨a, xs, ds, rfl, ha, rfl, _⟩ | ⟨a, ps, m, rfl, ha, rfl⟩
  · exact ⟨"NoneType", false, false, .base .non, by decide +kernel, by decide +kernel, rfl⟩
  · exact ⟨"bool", true, true, .base (.bl b), by decide +kernel, by decide +kernel, rfl⟩
  · exact ⟨"int", true, false, .base (.int i), by decide +kernel, by decide +kernel, rfl⟩
  · exact ⟨"str", false, false, .base (.str z), by decide +kernel, by decide +kernel, rfl⟩
  · exact ⟨"list", false, false, .base (.lst ha), by decide +kernel, by decide +kernel, rfl⟩
  · exact ⟨"tuple", false, false, sqT_ty ha, by decide +kernel, by decide +kernel, rfl⟩
  · exact ⟨"dict", false, false, .base (.dK ha), by decide +kernel, by decide +kernel, rfl⟩
theorem cut_tail (ns : List Nat) : cutV (numsV ns) (some 1) none = (numsV ns).drop 1 := by
  unfold cutV
  by_cases h : 1 ≤ (numsV ns).length
  · have e1 : HT.sIx (numsV ns).length 0 (some 1) = 1 := by
      unfold HT.sIx
      simp
      omega
    have e2 : HT.sIx (numsV ns).length (numsV ns).length none = (numsV ns).length := rfl
    rw [e1, e2, List.take_of_length_le (by rw [List.length_drop]; exact Nat.le_refl _)]
  · have e0 : numsV ns = [] := List.length_eq_zero_iff.mp (by omega)
    rw [e0]
    rfl
def spWhole (K : PySem.W.Frag) : Sp := fun vs H Q _ => ∃ (x : V) (d : PyData) (n : Nat), vs = [x] ∧ TD K H n x d ∧ Q (.bl (whB d)) H
def spCount (K : PySem.W.Frag) : Sp := fun vs H Q _ => ∃ (x : V) (d : PyData) (n : Nat), vs = [x] ∧ TD K H n x d ∧ Q (.bl (cntB d)) H
def spBelow (K : PySem.W.Frag) : Sp := fun vs H Q _ => ∃ (i n : Nat), vs = [.int (i : Int), .int (n : Int)] ∧ Q (.bl (decide (i < n))) H
def spTupOf (K : PySem.W.Frag) : Sp := fun vs H Q _ => ∃ (t : Addr) (xs : List V) (n : Int), vs = [.ref t, .int n] ∧ SqT K H t xs ∧ Q (.bl (decide ((xs.length : Int) = n))) H
def rLtB (K : PySem.W.Frag) : R2 := fun x y H Q => (rI0 fun i j => .bl (decide (i < j))) x y H Q ∨ rLtT K x y H Q
def spAsc (K : PySem.W.Frag) : Sp := fun vs H Q _ => ∃ (a : Addr), vs = [.ref a] ∧ ((∃ ns : List Nat, H a = some (.lst (numsV ns)) ∧ ns.length ≤ 1000 ∧ ns.Pairwise (· < ·)) ∨ ∃ ws : List (Nat × Nat), WtAt K H a ws ∧ ws.length ≤ 1000 ∧ ws.Pairwise lexP) ∧ ∀ H', Same H H' → Q (.bl true) H'
def spAscC (K : PySem.W.Frag) : Sp := fun vs H Q _ => ∃ (a : Addr) (ns : List Nat), vs = [.ref a] ∧ H a = some (.lst (numsV ns)) ∧ ns.length ≤ 1000 ∧ ns.Pairwise (· < ·) ∧ ∀ H', Same H H' → Q (.bl true) H'
def spAscB (K : PySem.W.Frag) : Sp := fun vs H Q _ => ∃ (a : Addr) (l : List Nat) (n : Nat), vs = [.ref a, .int (n : Int)] ∧ H a = some (.lst (numsV l)) ∧ l.length ≤ 1000 ∧ l.Pairwise (· < ·) ∧ (∀ x ∈ l, x < n) ∧ ∀ H', Same H H' → Q (.bl true) H'
section
variable {P : Program} {w : World} {K : PySem.W.Frag} {mg : Str → Option Value} {base : Heap}
abbrev s_is_whole_number : Stmt := top 5
abbrev N_is_whole_number : List Str := ["value"]
theorem sc_is_whole_number : FnScope N_is_whole_number ["value"] (defScope s_is_whole_number) := ⟨rfl, rfl, rfl, by decide +kernel, rfl, by decide +kernel, by decide +kernel⟩
theorem ok_is_whole_number {f : Addr} {fd : FuncData} (F : FnP K "is_whole_number" s_is_whole_number f fd) (Z : FreeS mg) :
    FnOk P w K mg base CX0 1 f fd ["value"] (spWhole K) := by
  refine F.ok sc_is_whole_number (fun vs H Q E h => ?_) (fun cdv A outer s H vs Q E hr h => ?_)
  · obtain ⟨x, d, n, rfl, _⟩ := h
    rfl
  · obtain ⟨x, d, n, rfl, hx, k⟩ := h
    have nd := sc_is_whole_number.nd
    refine ⟨_, PSs.nox (pss_one (ps_ret (pe_and (pe_callB call_isi (by rfl) Z.isi (by decide +kernel) (pa_cons (pv 0) (pa_cons (pe_bltn (v := .ty "int") (by rfl) Z.int (by decide +kernel) rfl) pa_nil))) (pe_one (pe_not (pe_callB call_isi (by rfl) Z.isi (by decide +kernel) (pa_cons (pv 0) (pa_cons (pe_bltn (v := .ty "bool") (by rfl) Z.tbool (by decide +kernel) rfl) pa_nil)))))))), ?_⟩
    obtain ⟨t, i, b, ty, k1, k2, e⟩ := td_tyI (K := K) hx
    rw [e] at k
    cases i with
    | false => exact ⟨_, rfl, x, .ty "int", .type t, .type "int", false, rfl, .ty _, ty, kit_ty k1, false, rfl, iteF k⟩
    | true =>
      refine ⟨_, rfl, x, .ty "int", .type t, .type "int", true, rfl, .ty _, ty, kit_ty k1, true, rfl, iteT ?_⟩
      exact ⟨_, rfl, x, .ty "bool", .type t, .type "bool", b, rfl, .ty _, ty, kit_ty k2, b, rfl, k⟩
abbrev s_is_count : Stmt := top 6
abbrev N_is_count : List Str := ["value"]
theorem sc_is_count : FnScope N_is_count ["value"] (defScope s_is_count) := ⟨rfl, rfl, rfl, by decide +kernel, rfl, by decide +kernel, by decide +kernel⟩
theorem ok_is_count {f : Addr} {fd : FuncData} (F : FnP K "is_count" s_is_count f fd) (Z : FreeS mg)
    {f_is_whole_number : Addr} {d_is_whole_number : FuncData} (g_is_whole_number : mg "is_whole_number" = some (.ref f_is_whole_number)) (F_is_whole_number : FnP K "is_whole_number" s_is_whole_number f_is_whole_number d_is_whole_number) (G_is_whole_number : FnOk P w K mg base CX0 1 f_is_whole_number d_is_whole_number ["value"] (spWhole K)) :
    FnOk P w K mg base CX0 2 f fd ["value"] (spCount K) := by
  have b_is_whole_number : Binds K d_is_whole_number ["value"] [] := F_is_whole_number.bindsN fun _ _ _ _ _ _ us hl => match us, hl with | [_], _ => rfl
  refine F.ok sc_is_count (fun vs H Q E h => ?_) (fun cdv A outer s H vs Q E hr h => ?_)
  · obtain ⟨x, d, n, rfl, _⟩ := h
    rfl
  · obtain ⟨x, d, n, rfl, hx, k⟩ := h
    have nd := sc_is_count.nd
    refine ⟨_, PSs.nox (pss_one (ps_ret (pe_and (pe_call G_is_whole_number (hr.mono (by decide)) rfl g_is_whole_number F_is_whole_number.kp b_is_whole_number .nil pass0 (pa_cons (pv 0) (pa_nil))) (pe_one (pe_cmpR op_ge (pv 0) (pe_int) (nomark _)))))), ?_⟩
    refine ⟨_, rfl, x, d, n, rfl, hx, _, rfl, ?_⟩
    rcases td_cs hx with ⟨rfl, rfl⟩ | ⟨b, rfl, rfl⟩ | ⟨i, rfl, rfl⟩ | ⟨z, rfl, rfl⟩ | ⟨a, xs, ds, rfl, ha, rfl, _⟩ | ⟨a, xs, ds, rfl, ha, rfl, _⟩ | ⟨a, ps, m, rfl, ha, rfl⟩
    · exact iteF k
    · exact iteF k
    · exact iteT ⟨_, rfl, _, _, rfl, rfl, k⟩
    · exact iteF k
    · exact iteF k
    · exact iteF k
    · exact iteF k
abbrev s_is_count_below : Stmt := top 7
abbrev N_is_count_below : List Str := ["value", "bound"]
theorem sc_is_count_below : FnScope N_is_count_below ["value", "bound"] (defScope s_is_count_below) := ⟨rfl, rfl, rfl, by decide +kernel, rfl, by decide +kernel, by decide +kernel⟩
theorem ok_is_count_below {f : Addr} {fd : FuncData} (F : FnP K "is_count_below" s_is_count_below f fd) (Z : FreeS mg)
    {f_is_count : Addr} {d_is_count : FuncData} (g_is_count : mg "is_count" = some (.ref f_is_count)) (F_is_count : FnP K "is_count" s_is_count f_is_count d_is_count) (G_is_count : FnOk P w K mg base CX0 2 f_is_count d_is_count ["value"] (spCount K)) :
    FnOk P w K mg base CX0 3 f fd ["value", "bound"] (spBelow K) := by
  have b_is_count : Binds K d_is_count ["value"] [] := F_is_count.bindsN fun _ _ _ _ _ _ us hl => match us, hl with | [_], _ => rfl
  refine F.ok sc_is_count_below (fun vs H Q E h => ?_) (fun cdv A outer s H vs Q E hr h => ?_)
  · obtain ⟨i, n, rfl, _⟩ := h
    rfl
  · obtain ⟨i, n, rfl, k⟩ := h
    have nd := sc_is_count_below.nd
    refine ⟨_, PSs.nox (pss_one (ps_ret (pe_and (pe_call G_is_count (hr.mono (by decide)) rfl g_is_count F_is_count.kp b_is_count .nil pass0 (pa_cons (pv 0) (pa_nil))) (pe_one (pe_cmpR op_lt (pv 0) (pv 1) (nomark _)))))), ?_⟩
    refine ⟨_, rfl, .int (i : Int), .int (i : Int), 0, rfl, TD.flat (.int _), _, rfl, ?_⟩
    rw [show cntB (.int (i : Int)) = true from decide_eq_true (Int.natCast_nonneg i)]
    refine iteT ⟨_, rfl, _, rfl, _, _, rfl, rfl, ?_⟩
    rw [show decide (i < n) = decide ((i : Int) < (n : Int)) from decide_eq_decide.mpr (by omega)] at k
    exact k
abbrev s_is_tuple_of : Stmt := top 8
abbrev N_is_tuple_of : List Str := ["value", "length"]
theorem sc_is_tuple_of : FnScope N_is_tuple_of ["value", "length"] (defScope s_is_tuple_of) := ⟨rfl, rfl, rfl, by decide +kernel, rfl, by decide +kernel, by decide +kernel⟩
theorem ok_is_tuple_of {f : Addr} {fd : FuncData} (F : FnP K "is_tuple_of" s_is_tuple_of f fd) (Z : FreeS mg) :
    FnOk P w K mg base CX0 1 f fd ["value", "length"] (spTupOf K) := by
  refine F.ok sc_is_tuple_of (fun vs H Q E h => ?_) (fun cdv A outer s H vs Q E hr h => ?_)
  · obtain ⟨t, xs, n, rfl, _⟩ := h
    rfl
  · obtain ⟨t, xs, n, rfl, ht, k⟩ := h
    have nd := sc_is_tuple_of.nd
    refine ⟨_, PSs.nox (pss_one (ps_ret (pe_and (pe_callB call_isi (by rfl) Z.isi (by decide +kernel) (pa_cons (pv 0) (pa_cons (pe_bltn (v := .ty "tuple") (by rfl) Z.ttuple (by decide +kernel) rfl) pa_nil))) (pe_one (pe_cmpR op_eq (pe_callB call_len_seq (by rfl) Z.len (by decide +kernel) (pa_cons (pv 0) (pa_nil))) (pv 1) (nomark _)))))), ?_⟩
    refine ⟨_, rfl, .ref t, .ty "tuple", .type "tuple", .type "tuple", true, rfl, .ty _, sqT_ty ht, kit_ty (by decide +kernel), true, rfl, iteT ?_⟩
    refine ⟨_, rfl, t, xs, rfl, Or.inr ht, _, rfl, rfl, ?_⟩
    have e : decide (V.int (xs.length : Int) = V.int n) = decide ((xs.length : Int) = n) := by
      by_cases h : (xs.length : Int) = n
      · rw [decide_eq_true h, decide_eq_true (congrArg V.int h)]
      · rw [decide_eq_false h, decide_eq_false fun z => h (V.int.inj z)]
    rw [e]
    exact k
abbrev s_ascends : Stmt := top 9
abbrev N_ascends : List Str := ["values", "one", "other"]
theorem sc_ascends : FnScope N_ascends ["values"] (defScope s_ascends) := ⟨rfl, rfl, rfl, by decide +kernel, rfl, by decide +kernel, by decide +kernel⟩
theorem ok_ascends {f : Addr} {fd : FuncData} (F : FnP K "ascends" s_ascends f fd) (Z : FreeS mg) :
    FnOk P w K mg base CX0 1 f fd ["values"] (spAsc K) := by
  refine F.ok sc_ascends (fun vs H Q E h => ?_) (fun cdv A outer s H vs Q E hr h => ?_)
  · obtain ⟨a, rfl, _⟩ := h
    rfl
  · obtain ⟨a, rfl, hh, k⟩ := h
    have hu0 := hr.units
    have nd := sc_ascends.nd
    refine ⟨_, PSs.nox (pss_one (ps_ret (pe_callB (cr_all rfl) (by rfl) Z.all (by decide +kernel) (pa_cons (pe_lc (own := [("one", 1), ("other", 2)]) (g := gTup K 2 (gCons (gName 1) (gCons (gName 2) (gNil)))) (tt := tYes) (te := tOp ((rLtB K)) (tVar 1) (tVar 2)) (by rfl) nd (pi_zip (by rfl) Z.zip (pa_cons (pv 0) (pa_cons (pe_slice sl_list (pv 0) (po_some (pe_int)) (po_none)) (pa_nil))))
          (blkOk_by (own := [("one", 1), ("other", 2)]) (N := N_ascends) (sc := defScope s_ascends) (by decide +kernel)) (fun _ _ _ _ _ => pg_tup rfl (pgs_cons (pg_name (i := 1) nd rfl (Or.inl rfl)) (pgs_cons (pg_name (i := 2) nd rfl (Or.inl rfl)) (pgs_nil)))) (fun _ _ _ _ _ => pts_nil)
          (fun _ _ _ _ _ => pe_cmpR (OpR.or op_lt (op_ltT (Nat.lt_of_le_of_lt (Nat.le_add_right _ 64) hr.units))) (pv 1) (pv 2) (nomark _))) (pa_nil))))), ?_⟩
    obtain ⟨xs, ha, lx, hp⟩ : ∃ xs : List V, H a = some (.lst xs) ∧ xs.length ≤ 1000 ∧ ∀ (i j : Nat) (x y : V), i < j → xs[i]? = some x → xs[j]? = some y → ∀ (G : Hp) (Q : VK), Same H G → Q (.bl true) G → rLtB K x y G Q := by
      rcases hh with ⟨ns, ha, l, hp⟩ | ⟨ws, hW, l, hp⟩
      · refine ⟨_, ha, by unfold numsV; rw [List.length_map]; exact l, fun i j x y hij e1 e2 G Q s q => .inl ?_⟩
        unfold numsV at e1 e2
        rw [List.getElem?_map] at e1 e2
        obtain ⟨n1, q1, rfl⟩ := Option.map_eq_some_iff.mp e1
        obtain ⟨n2, q2, rfl⟩ := Option.map_eq_some_iff.mp e2
        obtain ⟨b1, z1⟩ := List.getElem?_eq_some_iff.mp q1
        obtain ⟨b2, z2⟩ := List.getElem?_eq_some_iff.mp q2
        have := List.pairwise_iff_getElem.mp hp i j b1 b2 hij
        rw [z1, z2] at this
        refine ⟨_, _, rfl, rfl, ?_⟩
        show Q (.bl (decide ((n1 : Int) < (n2 : Int)))) G
        rw [decide_eq_true (show (n1 : Int) < (n2 : Int) by omega)]
        exact q
      · obtain ⟨ts, h1, h2, h3⟩ := hW
        refine ⟨_, h1, by rw [List.length_map, h2]; exact l, fun i j x y hij e1 e2 G Q s q => .inr ?_⟩
        rw [List.getElem?_map] at e1 e2
        obtain ⟨t1, q1, rfl⟩ := Option.map_eq_some_iff.mp e1
        obtain ⟨t2, q2, rfl⟩ := Option.map_eq_some_iff.mp e2
        obtain ⟨b1, z1⟩ := List.getElem?_eq_some_iff.mp q1
        obtain ⟨b2, z2⟩ := List.getElem?_eq_some_iff.mp q2
        have pw := List.pairwise_iff_getElem.mp hp i j (by omega) (by omega) hij
        have s1 := SqT_up s (h3 i t1 _ q1 (List.getElem?_eq_getElem (by omega)))
        have s2 := SqT_up s (h3 j t2 _ q2 (List.getElem?_eq_getElem (by omega)))
        refine ⟨t1, t2, [((ws[i]'(by omega)).1 : Int), ((ws[i]'(by omega)).2 : Int)], [((ws[j]'(by omega)).1 : Int), ((ws[j]'(by omega)).2 : Int)], rfl, rfl, s1, s2, ?_⟩
        rw [show HT.lexLt [((ws[i]'(by omega)).1 : Int), ((ws[i]'(by omega)).2 : Int)] [((ws[j]'(by omega)).1 : Int), ((ws[j]'(by omega)).2 : Int)] = true from lexLt_of pw]
        exact q
    obtain ⟨cq, hq⟩ : ∃ c : List V, c = cutV xs (some 1) none := ⟨_, rfl⟩
    have ec : cq = xs.drop 1 := by
      rw [hq, cut_tl]
    refine ⟨_, rfl, _, rfl, _, rfl, a, _, rfl, SqL.of ha, fun q hqn => ?_⟩
    rw [← hq]
    have s1 : Same H (upd H q (.lst cq)) := Same.updf hqn
    refine ⟨a, q, _, _, rfl, SqL.of (s1 _ _ ha), SqL.of upd_same, fun D hD => ?_⟩
    refine lc_sel (n := xs.length - 1) (walk_zip (K := K) (a := a) (b := q) (xs := xs) (ys := cq) (by rw [ec, List.length_drop]; omega)) (fun _ => some (.bl true)) (by omega) hD (fun H2 s2 => ⟨SqL.of (s2 _ _ (s1 _ _ ha)), SqL.of (s2 _ _ upd_same)⟩) ?_ ?_
    · rintro t v H5 H6 Qy Qn ht s6 ⟨T, x1, x2, rfl, nT, rfl, g1, g2⟩ ky kn
      dsimp only at g1 g2
      rw [ec, List.getElem?_drop] at g2
      refine ⟨T, [_, _], rfl, .inl (.inl upd_same), rfl, _, [_], rfl, _, [], rfl, rfl, ?_⟩
      refine ⟨rfl, _, rfl, _, rfl, hp _ _ _ _ (show t < 1 + t by omega) g1 g2 _ _ ((s1.trans s6).trans (Same.updf nT)) (ky _ _ (Same.updf nT) rfl)⟩
    · intro H2 s2 hR
      obtain ⟨bs, hB, hb⟩ := all_bits (K := K) hR
      refine ⟨D, bs, rfl, hB, ?_⟩
      rw [hb]
      exact k _ (s1.trans s2)
abbrev s_are_ascending_counts : Stmt := top 10
abbrev N_are_ascending_counts : List Str := ["value", "part"]
theorem sc_are_ascending_counts : FnScope N_are_ascending_counts ["value"] (defScope s_are_ascending_counts) := ⟨rfl, rfl, rfl, by decide +kernel, rfl, by decide +kernel, by decide +kernel⟩
theorem ok_are_ascending_counts {f : Addr} {fd : FuncData} (F : FnP K "are_ascending_counts" s_are_ascending_counts f fd) (Z : FreeS mg)
    {f_ascends : Addr} {d_ascends : FuncData} (g_ascends : mg "ascends" = some (.ref f_ascends)) (F_ascends : FnP K "ascends" s_ascends f_ascends d_ascends) (G_ascends : FnOk P w K mg base CX0 1 f_ascends d_ascends ["values"] (spAsc K))
    {f_is_count : Addr} {d_is_count : FuncData} (g_is_count : mg "is_count" = some (.ref f_is_count)) (F_is_count : FnP K "is_count" s_is_count f_is_count d_is_count) (G_is_count : FnOk P w K mg base CX0 2 f_is_count d_is_count ["value"] (spCount K)) :
    FnOk P w K mg base CX0 3 f fd ["value"] (spAscC K) := by
  have b_ascends : Binds K d_ascends ["values"] [] := F_ascends.bindsN fun _ _ _ _ _ _ us hl => match us, hl with | [_], _ => rfl
  have b_is_count : Binds K d_is_count ["value"] [] := F_is_count.bindsN fun _ _ _ _ _ _ us hl => match us, hl with | [_], _ => rfl
  refine F.ok sc_are_ascending_counts (fun vs H Q E h => ?_) (fun cdv A outer s H vs Q E hr h => ?_)
  · obtain ⟨a, ns, rfl, _⟩ := h
    rfl
  · obtain ⟨a, ns, rfl, ha, hl, hp, k⟩ := h
    have nd := sc_are_ascending_counts.nd
    refine ⟨_, PSs.nox (pss_one (ps_ret (pe_and (pe_callB call_isi (by rfl) Z.isi (by decide +kernel) (pa_cons (pv 0) (pa_cons (pe_bltn (v := .ty "list") (by rfl) Z.tlist (by decide +kernel) rfl) pa_nil))) (pe_and (pe_callB (cr_all rfl) (by rfl) Z.all (by decide +kernel) (pa_cons (pe_lc (own := [("part", 1)]) (g := gName 1) (tt := tYes) (te := tCall (spCount K) [] E0 (tCons (tVar 1) (tNil))) (by rfl) nd (pi_list (pv 0))
          (blkOk_by (own := [("part", 1)]) (N := N_are_ascending_counts) (sc := defScope s_are_ascending_counts) (by decide +kernel)) (fun _ _ _ _ _ => pg_name (i := 1) nd rfl (Or.inl rfl)) (fun _ _ _ _ _ => pts_nil)
          (fun _ _ _ _ _ => pe_call G_is_count (hr.mono (by decide)) rfl g_is_count F_is_count.kp b_is_count .nil pass0 (pa_cons (pv 1) (pa_nil)))) (pa_nil))) (pe_one (pe_call G_ascends (hr.mono (by decide)) rfl g_ascends F_ascends.kp b_ascends .nil pass0 (pa_cons (pv 0) (pa_nil)))))))), ?_⟩
    have ln : (numsV ns).length = ns.length := List.length_map _
    refine ⟨_, rfl, .ref a, .ty "list", .type "list", .type "list", true, rfl, .ty _, .base (.lst ha), kit_ty (by decide +kernel), true, rfl, iteT ?_⟩
    refine ⟨_, rfl, a, rfl, ⟨_, SqL.of ha⟩, fun D hD => ?_⟩
    refine lc_sel (walk_list (K := K) (a := a) (xs := numsV ns)) (fun _ => some (.bl true)) (by omega) hD (fun H2 s2 => SqL.of (s2 _ _ ha)) ?_ ?_
    · rintro i v H2 H3 Qy Qn hi sH ⟨rfl, hv⟩ ky kn
      have hi2 : i < ns.length := by omega
      unfold numsV at hv
      rw [List.getElem?_map, List.getElem?_eq_getElem hi2] at hv
      obtain rfl := Option.some.inj hv
      refine ⟨rfl, _, rfl, ?_⟩
      refine ⟨V.int ((ns[i] : Nat) : Int), PyData.int ((ns[i] : Nat) : Int), 0, rfl, FlatD.int _, ?_⟩
      rw [show cntB (.int ((ns[i] : Nat) : Int)) = true from decide_eq_true (Int.natCast_nonneg ns[i])]
      exact ky _ _ (Same.refl _) rfl
    · intro H2 s2 hR
      obtain ⟨bs, hB, hb⟩ := all_bits (K := K) hR
      refine ⟨D, bs, rfl, hB, ?_⟩
      rw [hb]
      exact ⟨true, rfl, iteT ⟨_, rfl, a, rfl, .inl ⟨ns, s2 _ _ ha, hl, hp⟩, fun H3 s3 => k H3 (s2.trans s3)⟩⟩
abbrev s_are_ascending_below : Stmt := top 11
abbrev N_are_ascending_below : List Str := ["value", "bound", "part"]
theorem sc_are_ascending_below : FnScope N_are_ascending_below ["value", "bound"] (defScope s_are_ascending_below) := ⟨rfl, rfl, rfl, by decide +kernel, rfl, by decide +kernel, by decide +kernel⟩
theorem ok_are_ascending_below {f : Addr} {fd : FuncData} (F : FnP K "are_ascending_below" s_are_ascending_below f fd) (Z : FreeS mg)
    {f_are_ascending_counts : Addr} {d_are_ascending_counts : FuncData} (g_are_ascending_counts : mg "are_ascending_counts" = some (.ref f_are_ascending_counts)) (F_are_ascending_counts : FnP K "are_ascending_counts" s_are_ascending_counts f_are_ascending_counts d_are_ascending_counts) (G_are_ascending_counts : FnOk P w K mg base CX0 3 f_are_ascending_counts d_are_ascending_counts ["value"] (spAscC K)) :
    FnOk P w K mg base CX0 4 f fd ["value", "bound"] (spAscB K) := by
  have b_are_ascending_counts : Binds K d_are_ascending_counts ["value"] [] := F_are_ascending_counts.bindsN fun _ _ _ _ _ _ us hl => match us, hl with | [_], _ => rfl
  refine F.ok sc_are_ascending_below (fun vs H Q E h => ?_) (fun cdv A outer s H vs Q E hr h => ?_)
  · obtain ⟨a, l, n, rfl, _⟩ := h
    rfl
  · obtain ⟨a, l, n, rfl, ha, hl, hp, hb, k⟩ := h
    have nd := sc_are_ascending_below.nd
    refine ⟨_, PSs.nox (pss_one (ps_ret (pe_and (pe_call G_are_ascending_counts (hr.mono (by decide)) rfl g_are_ascending_counts F_are_ascending_counts.kp b_are_ascending_counts .nil pass0 (pa_cons (pv 0) (pa_nil))) (pe_one (pe_callB (cr_all rfl) (by rfl) Z.all (by decide +kernel) (pa_cons (pe_lc (own := [("part", 2)]) (g := gName 2) (tt := tYes) (te := tOp (rI0 fun i j => .bl (decide (i < j))) (tVar 2) (tVar 1)) (by rfl) nd (pi_list (pv 0))
          (blkOk_by (own := [("part", 2)]) (N := N_are_ascending_below) (sc := defScope s_are_ascending_below) (by decide +kernel)) (fun _ _ _ _ _ => pg_name (i := 2) nd rfl (Or.inl rfl)) (fun _ _ _ _ _ => pts_nil)
          (fun _ _ _ _ _ => pe_cmpR op_lt (pv 2) (pv 1) (nomark _))) (pa_nil))))))), ?_⟩
    have ln : (numsV l).length = l.length := List.length_map _
    refine ⟨_, rfl, a, l, rfl, ha, hl, hp, fun H1 s1 => ⟨true, rfl, iteT ?_⟩⟩
    refine ⟨_, rfl, a, rfl, ⟨_, SqL.of (s1 _ _ ha)⟩, fun D hD => ?_⟩
    refine lc_sel (walk_list (K := K) (a := a) (xs := numsV l)) (fun _ => some (.bl true)) (by omega) hD (fun H2 s2 => SqL.of (s2 _ _ (s1 _ _ ha))) ?_ ?_
    · rintro i v H2 H3 Qy Qn hi sH ⟨rfl, hv⟩ ky kn
      unfold numsV at hv
      have hi2 : i < l.length := by omega
      rw [List.getElem?_map, List.getElem?_eq_getElem hi2] at hv
      obtain rfl := Option.some.inj hv
      refine ⟨rfl, _, rfl, _, rfl, _, _, rfl, rfl, ky _ _ (Same.refl _) ?_⟩
      have := hb _ (List.getElem_mem (show i < l.length by omega))
      exact (congrArg (fun c => some (V.bl c)) (decide_eq_true (show (l[i] : Int) < (n : Int) by omega))).symm
    · intro H2 s2 hR
      obtain ⟨bs, hB, hb⟩ := all_bits (K := K) hR
      refine ⟨D, bs, rfl, hB, ?_⟩
      rw [hb]
      exact k _ (s1.trans s2)
end
end K18
set_option Elab.async false
set_option linter.all false
set_option maxRecDepth 100000
set_option maxHeartbeats 4000000
/-! A new object that is gone over at once: it is held from then on. -/
namespace L2
open PySem PySem.Spec PyProof.Rows
def tLk (t : TE) : TE := fun σ H Q => t σ H fun x H1 => ∃ d u, x = .ref d ∧ H1 d = some u ∧ Mut (some u) ∧ ∀ od, Q x (upd H1 d (.frz od u))
theorem pe_lk {X : Cx} {e : Expr} {t : TE} (h : PE X e t) : PE X e (tLk t) := by
  refine ⟨fun pins s σ H Q I hw => ?_⟩
  refine thn (h.run pins s σ H _ I hw) fun v s1 ⟨x, H1, I1, r, q⟩ => ?_
  obtain ⟨d, u, ex, hd, mu, q⟩ := q
  subst ex
  obtain ⟨od, I2⟩ := I1.lock hd mu
  exact ⟨_, _, I2, r, q od⟩
end L2
set_option Elab.async false
set_option linter.all false
set_option maxRecDepth 100000
set_option maxHeartbeats 4000000
/-! xs == [] and xs != [], whatever xs holds. -/
namespace L2
open PySem PySem.Spec PyProof.Rows
section
variable {X : Cx}
def rEmp (K : PySem.W.Frag) (neg : Bool) : R2 := fun x y H Q => ∃ (a b : Addr) (xs : List V), x = .ref a ∧ y = .ref b ∧ SqL K H a xs ∧ SqL K H b [] ∧ Q (.bl (xs.isEmpty != neg)) H
theorem op_eqE (hu : X.A.units < cLine) : OpR X (compareOp .Eq) (rEmp X.K false) := by
  intro pins s σ H x y v u Q I rx ry h
  obtain ⟨a, b, xs, rfl, rfl, ha, hb, q⟩ := h
  obtain rfl : v = Value.ref a := rx
  obtain rfl : u = Value.ref b := ry
  obtain ⟨its, rv, ⟨oa, na, hoa, hca, _, hda⟩, _⟩ := I.list ha
  obtain ⟨its2, rv2, ⟨ob, nb, hob, hcb, _, hdb⟩, _⟩ := I.list hb
  cases rv2
  have hA : s.heap.IsList a its.toArray := ⟨oa, hoa, hca, na, hda⟩
  have hB : s.heap.IsList b #[] := ⟨ob, hob, hcb, nb, hdb⟩
  have z : ∀ c : Bool, (c != false) = c := by decide
  rw [z] at q
  cases rv with
  | nil => exact SeqAt.RcAt.lists (e := fun _ => true) hA hB rfl hu (fun j h1 h2 => absurd h2 (Nat.not_lt_zero _)) X.prog X.w _ _ ⟨.bl _, H, I, rfl, q⟩
  | cons r t => exact SeqAt.RcAt.lists_lengths hA hB (by simp) hu X.prog X.w _ _ ⟨.bl _, H, I, rfl, q⟩
theorem op_neE (hu : X.A.units < cLine) : OpR X (compareOp .NotEq) (rEmp X.K true) := by
  intro pins s σ H x y v u Q I rx ry h
  obtain ⟨a, b, xs, rfl, rfl, ha, hb, q⟩ := h
  obtain rfl : v = Value.ref a := rx
  obtain rfl : u = Value.ref b := ry
  obtain ⟨its, rv, ⟨oa, na, hoa, hca, _, hda⟩, _⟩ := I.list ha
  obtain ⟨its2, rv2, ⟨ob, nb, hob, hcb, _, hdb⟩, _⟩ := I.list hb
  cases rv2
  have hA : s.heap.IsList a its.toArray := ⟨oa, hoa, hca, na, hda⟩
  have hB : s.heap.IsList b #[] := ⟨ob, hob, hcb, nb, hdb⟩
  have z : ∀ c : Bool, (c != true) = !c := by decide
  rw [z] at q
  cases rv with
  | nil => exact SeqAt.RcNeAt.lists (e := fun _ => true) hA hB rfl hu (fun j h1 h2 => absurd h2 (Nat.not_lt_zero _)) X.prog X.w _ _ ⟨.bl _, H, I, rfl, q⟩
  | cons r t => exact SeqAt.RcNeAt.lists_lengths hA hB (by simp) hu X.prog X.w _ _ ⟨.bl _, H, I, rfl, q⟩
end
end L2
set_option Elab.async false
set_option linter.all false
set_option maxRecDepth 100000
set_option maxHeartbeats 4000000
/-! sorted(xs) of tracked data of one shape: tuples, rows, texts. -/
namespace KB
open PySem PySem.Spec PyProof.Rows L2
theorem eachOf {xs : List V} {us : List Value} (h : Vals xs us) : PySem.W.EachIs (fun (u : Value) (x : V) => RelV x u) us xs := by
  induction h with
  | nil => exact .nil
  | cons r _ ih => exact .cons r ih
theorem valsOf {xs : List V} {us : List Value} (h : PySem.W.EachIs (fun (u : Value) (x : V) => RelV x u) us xs) : Vals xs us := by
  induction h with
  | nil => exact .nil
  | cons r _ ih => exact .cons r ih
theorem eachMem {α β : Type} {R S : α → β → Prop} {as : List α} {bs : List β} (h : PySem.W.EachIs R as bs) (k : ∀ a b, b ∈ bs → R a b → S a b) : PySem.W.EachIs S as bs := by
  induction h with
  | nil => exact .nil
  | cons r _ ih => exact .cons (k _ _ List.mem_cons_self r) (ih fun a b m => k a b (List.mem_cons_of_mem _ m))
def rSortedD (K : PySem.W.Frag) : List V → Hp → VK → Prop := fun vs H Q => ∃ (a : Addr) (xs : List V) (k : V → PyData), vs = [.ref a] ∧ SqL K H a xs ∧ (∀ x ∈ xs, Dp K H x (k x)) ∧ PySem.W.AllAlike (xs.map k) ∧ PySem.W.Sortable (xs.map k) ∧ (∀ x ∈ xs, (k x).depth ≤ 40) ∧
  ∀ p, H p = none → Q (.ref p) (upd H p (.lst (xs.mergeSort (PySem.W.dataLe false k))))
theorem cr_sortedD {X : Cx} (hu : X.A.units + 64 < cLine) : CallR X (.builtin "sorted") (rSortedD X.K) := by
  intro pins s σ H vs us Q I r h
  obtain ⟨a, xs, k, rfl, hs, hk, ha, hb, hd, q⟩ := h
  obtain rfl := Vals.ref1 r
  obtain ⟨its, rv, hl, hz⟩ := I.list hs
  have e1 := eachOf rv
  refine PySem.W.sorted_data (vs := its) (bs := xs) (enc := k) (R := fun u x => RelV x u) hl.isList e1 (eachMem e1 fun u x m r => Dp.reads I (k x) x u (hk x m) r) ha hb hz (fun x m => ?_) fun out len eo => ?_
  · have := hd x m
    omega
  · obtain ⟨ep, he⟩ := PyProof.Rows.sortedAll_at s.heap its out.toArray
    have z : (xs.mergeSort (PySem.W.dataLe false k)).length ≤ sizeLine := by
      rw [List.length_mergeSort]
      exact hz
    exact ⟨.ref _, upd H (s.heap.objs.size + 1) (.lst (xs.mergeSort (PySem.W.dataLe false k))), I.laid (t' := s.toks) (fun _ _ => PyProof.Rows.sortedAll_old) (Nat.le_succ _) ⟨z, out, ep, valsOf eo, he⟩, rfl, q _ (I.hok.fresh (Nat.le_succ _))⟩
end KB
set_option Elab.async false
set_option linter.all false
set_option maxRecDepth 100000
set_option maxHeartbeats 4000000
/-! sorted(xs), xs new tuples of as many ints each. -/
namespace KB
open PySem PySem.Spec PyProof.Rows L2
theorem zip_paired {α β : Type} {F : α → β → Prop} : ∀ {xs : List α} {ys : List β}, Paired F xs ys → (∀ p ∈ xs.zip ys, F p.1 p.2) ∧ (xs.zip ys).map Prod.fst = xs ∧ (xs.zip ys).map Prod.snd = ys
  | _, _, .nil => ⟨fun p h => (nomatch h), rfl, rfl⟩
  | _, _, .cons r t => by
    obtain ⟨h1, h2, h3⟩ := zip_paired t
    refine ⟨fun p h => ?_, ?_, ?_⟩
    · rw [List.zip_cons_cons] at h
      rcases List.mem_cons.mp h with rfl | h
      · exact r
      · exact h1 p h
    · rw [List.zip_cons_cons, List.map_cons, h2]
    · rw [List.zip_cons_cons, List.map_cons, h3]
theorem paired_zip {α β : Type} {F : α → β → Prop} : ∀ {ps : List (α × β)}, (∀ p ∈ ps, F p.1 p.2) → Paired F (ps.map Prod.fst) (ps.map Prod.snd)
  | [], _ => .nil
  | p :: ps, h => .cons (h p List.mem_cons_self) (paired_zip fun q hq => h q (List.mem_cons_of_mem _ hq))
theorem paired_sort {α β : Type} {F : α → β → Prop} {le : β → β → Bool} {le' : α → α → Bool} (h : ∀ a x b y, F a x → F b y → le' a b = le x y) {xs : List α} {ys : List β} (p : Paired F xs ys) : Paired F (xs.mergeSort le') (ys.mergeSort le) := by
  obtain ⟨h1, h2, h3⟩ := zip_paired p
  have e1 : ((xs.zip ys).mergeSort fun p q => le p.2 q.2).map Prod.fst = xs.mergeSort le' := by
    rw [List.map_mergeSort (s := le') (fun a ha b hb => (h _ _ _ _ (h1 a ha) (h1 b hb)).symm), h2]
  have e2 : ((xs.zip ys).mergeSort fun p q => le p.2 q.2).map Prod.snd = ys.mergeSort le := by
    rw [List.map_mergeSort (s := le) (fun a _ b _ => rfl), h3]
  rw [← e1, ← e2]
  exact paired_zip fun q hq => h1 q ((List.mergeSort_perm _ _).mem_iff.mp hq)
theorem paired_get2 {α β : Type} {F : α → β → Prop} : ∀ {xs : List α} {ys : List β}, Paired F xs ys → ∀ {i : Nat} {y : β}, ys[i]? = some y → ∃ x, xs[i]? = some x ∧ F x y
  | _, _, .nil, i, x, h => by cases h
  | _, _, .cons r t, 0, x, h => by
    have e := Option.some.inj h
    subst e
    exact ⟨_, rfl, r⟩
  | _, _, .cons r t, i + 1, x, h => paired_get2 t h
theorem paired_get1 {α β : Type} {F : α → β → Prop} : ∀ {xs : List α} {ys : List β}, Paired F xs ys → ∀ {i : Nat} {x : α}, xs[i]? = some x → ∃ y, ys[i]? = some y ∧ F x y
  | _, _, .nil, i, x, h => by cases h
  | _, _, .cons r t, 0, x, h => by
    have e := Option.some.inj h
    subst e
    exact ⟨_, rfl, r⟩
  | _, _, .cons r t, i + 1, x, h => paired_get1 t h
theorem paired_rev {α β : Type} {F : α → β → Prop} : ∀ {xs : List α} {ys : List β}, Paired F xs ys → Paired F xs.reverse ys.reverse
  | _, _, .nil => .nil
  | _, _, .cons r t => by
    rw [List.reverse_cons, List.reverse_cons]
    exact paired_snoc (paired_rev t) r
theorem paired_mapG {α β γ : Type} {F : γ → β → Prop} {f : α → γ} : ∀ {xs : List α} {ys : List β}, Paired (fun x y => F (f x) y) xs ys → Paired F (xs.map f) ys
  | _, _, .nil => .nil
  | _, _, .cons r t => .cons r (paired_mapG t)
theorem sel_getG {α : Type} (z : α) (l : List α) (c : α → Bool) : (((List.range l.length).filter fun i => c (l.getD i z)).map fun i => l.getD i z) = l.filter c := by
  have e : l = (List.range l.length).map fun i => l.getD i z := by
    refine List.ext_getElem (by simp) fun i h1 h2 => ?_
    simp [h1]
  conv => rhs; rw [e, List.filter_map]
  rfl
theorem paired_selG {α : Type} {z : α} {l : List α} {c : α → Bool} {R : α → V → Prop} {ys : List V} (h : Paired (fun i y => R (l.getD i z) y) ((List.range l.length).filter fun i => c (l.getD i z)) ys) : Paired R (l.filter c) ys := by
  have := paired_mapG h
  rw [sel_getG] at this
  exact this
def intsD (t : List Int) : PyData := .tuple (t.map PyData.int)
def sortT (ts : List (List Int)) : List (List Int) := ts.mergeSort fun a b => PySem.W.dataLe false intsD a b
theorem sortT_perm (ts : List (List Int)) : (sortT ts).Perm ts := List.mergeSort_perm _ _
/-- y is a tuple of these ints -/
def IntsAt (H : Hp) (t : List Int) (y : V) : Prop := ∃ T, y = .ref T ∧ H T = some (.tup (t.map V.int))
theorem IntsAt.same {H H' : Hp} (k : Same H H') {t : List Int} {y : V} : IntsAt H t y → IntsAt H' t y := fun ⟨T, e, h⟩ => ⟨T, e, k _ _ h⟩
def encI (H : Hp) (y : V) : PyData := match y with
  | .ref T => (match H T with
    | some (.tup xs) => .tuple (xs.map fun v => match v with | .int i => PyData.int i | _ => .none)
    | _ => .none)
  | _ => .none
theorem encI_at {H : Hp} {t : List Int} {y : V} (h : IntsAt H t y) : encI H y = intsD t := by
  obtain ⟨T, rfl, h⟩ := h
  simp only [encI, intsD, h, List.map_map]
  rfl
theorem dpAll_ints {K : PySem.W.Frag} {H : Hp} : ∀ t : List Int, DpAll K H (t.map V.int) (t.map PyData.int)
  | [] => .nil
  | i :: t => .cons (.int i) (dpAll_ints t)
theorem alikeAll_ints : ∀ a b : List Int, PySem.W.alikeAll (a.map PyData.int) (b.map PyData.int) = true
  | [], _ => by simp [PySem.W.alikeAll]
  | _ :: _, [] => by simp [PySem.W.alikeAll]
  | i :: a, j :: b => by
    rw [List.map_cons, List.map_cons]
    simp only [PySem.W.alikeAll, PySem.W.alike, alikeAll_ints a b, Bool.and_self]
theorem depth_ints : ∀ t : List Int, PyData.depthAll (t.map PyData.int) = 0
  | [] => by simp [PyData.depthAll]
  | i :: t => by
    rw [List.map_cons]
    simp only [PyData.depthAll, PyData.depth, depth_ints t]
    rfl
def rSortT (K : PySem.W.Frag) : List V → Hp → VK → Prop := fun vs H Q => ∃ (a : Addr) (xs : List V) (ts : List (List Int)), vs = [.ref a] ∧ SqL K H a xs ∧ Paired (IntsAt H) ts xs ∧ (∀ t ∈ ts, t ≠ []) ∧
  ∀ p ys, H p = none → Paired (IntsAt H) (sortT ts) ys → Q (.ref p) (upd H p (.lst ys))
theorem cr_sortedT {X : Cx} (hu : X.A.units + 64 < cLine) : CallR X (.builtin "sorted") (rSortT X.K) := by
  intro pins s σ H vs us Q I r h
  obtain ⟨a, xs, ts, rfl, hs, py, hne, q⟩ := h
  have get : ∀ x ∈ xs, ∃ t ∈ ts, IntsAt H t x := fun x mx => by
    obtain ⟨h1, h2, h3⟩ := zip_paired py
    rw [← h3] at mx
    obtain ⟨p, hp, rfl⟩ := List.mem_map.mp mx
    refine ⟨p.1, ?_, h1 p hp⟩
    rw [← h2]
    exact List.mem_map.mpr ⟨p, hp, rfl⟩
  refine cr_sortedD hu pins s σ H _ us Q I r ⟨a, xs, encI H, rfl, hs, fun x mx => ?_, fun d hd d' hd' => ?_, .inl fun d hd => ?_, fun x mx => ?_, fun p hp => ?_⟩
  · obtain ⟨t, _, h⟩ := get x mx
    rw [encI_at h]
    obtain ⟨T, rfl, hT⟩ := h
    exact .tup (SqT.of hT) (dpAll_ints t)
  · obtain ⟨x, mx, rfl⟩ := List.mem_map.mp hd
    obtain ⟨y, my, rfl⟩ := List.mem_map.mp hd'
    obtain ⟨t, _, h⟩ := get x mx
    obtain ⟨t', _, h'⟩ := get y my
    rw [encI_at h, encI_at h']
    show PySem.W.alike (.tuple _) (.tuple _) = true
    simp only [PySem.W.alike, alikeAll_ints]
  · obtain ⟨x, mx, rfl⟩ := List.mem_map.mp hd
    obtain ⟨t, mt, h⟩ := get x mx
    rw [encI_at h]
    cases t with
    | nil => exact absurd rfl (hne _ mt)
    | cons i t => exact ⟨_, _, rfl⟩
  · obtain ⟨t, _, h⟩ := get x mx
    rw [encI_at h]
    unfold intsD
    simp only [PyData.depth, depth_ints]
    decide
  · refine q p _ hp (paired_sort (fun a x b y h1 h2 => ?_) py)
    unfold PySem.W.dataLe PySem.W.sortLe
    dsimp only
    rw [encI_at h1, encI_at h2]
def rListOf (K : PySem.W.Frag) : List V → Hp → VK → Prop := fun xs H Q => ∃ p ys, xs = [V.ref p] ∧ (SqL K H p ys ∨ SqT K H p ys) ∧ ∀ l, H l = none → Q (.ref l) (upd H l (.lst ys))
theorem call_list_ofR {X : Cx} : CallR X (.type "list") (rListOf X.K) := call_list_of
end KB
set_option Elab.async false
set_option linter.all false
set_option maxRecDepth 100000
set_option maxHeartbeats 8000000
/-! Runs and waits, second part. -/
namespace K18
open PySem PySem.Spec PyProof.Rows L2 KB
structure RunOk (K : PySem.W.Frag) (H : Hp) (a : Addr) (es : List Ev) : Prop where
  at_ : RunAt K H a es
  ne : es ≠ []
  len : es.length ≤ 100
structure WtOk (K : PySem.W.Frag) (H : Hp) (b : Addr) (es : List Ev) (ws : List (Nat × Nat)) : Prop where
  at_ : WtAt K H b ws
  ok : WaitsOk es ws
  len : ws.length ≤ 1000
theorem RunOk.same {K : PySem.W.Frag} {H H' : Hp} {a : Addr} {es : List Ev} (k : Same H H') (h : RunOk K H a es) : RunOk K H' a es := ⟨h.at_.same k, h.ne, h.len⟩
theorem WtOk.same {K : PySem.W.Frag} {H H' : Hp} {a : Addr} {es : List Ev} {ws : List (Nat × Nat)} (k : Same H H') (h : WtOk K H a es ws) : WtOk K H' a es ws := ⟨h.at_.same k, h.ok, h.len⟩
theorem RunOk.ext {K : PySem.W.Frag} {H H' : Hp} {a : Addr} {es : List Ev} (k : LamX.ExtN H H') (h : RunOk K H a es) : RunOk K H' a es := ⟨h.at_.ext k, h.ne, h.len⟩
theorem WtOk.ext {K : PySem.W.Frag} {H H' : Hp} {a : Addr} {es : List Ev} {ws : List (Nat × Nat)} (k : LamX.ExtN H H') (h : WtOk K H a es ws) : WtOk K H' a es ws := ⟨h.at_.ext k, h.ok, h.len⟩
def spIsEvent (K : PySem.W.Frag) : Sp := fun vs H Q _ => ∃ (t : Addr) (e : Ev), vs = [.ref t] ∧ SqT K H t e.v ∧ ∀ H', Same H H' → Q (.bl true) H'
def spEvents (K : PySem.W.Frag) : Sp := fun vs H Q _ => ∃ (a : Addr) (es : List Ev), vs = [.ref a] ∧ RunOk K H a es ∧ ∀ H', Same H H' → Q (.bl true) H'
def spNeedRun (K : PySem.W.Frag) : Sp := fun vs H Q _ => ∃ (a : Addr) (es : List Ev), vs = [.ref a] ∧ RunOk K H a es ∧ ∀ H', Same H H' → Q .non H'
def spIsWait (K : PySem.W.Frag) : Sp := fun vs H Q _ => ∃ (a t : Addr) (es : List Ev) (w : Nat × Nat), vs = [.ref a, .ref t] ∧ RunOk K H a es ∧ SqT K H t (wv w) ∧ WaitOk es w ∧ ∀ H', Same H H' → Q (.bl true) H'
def spWaits (K : PySem.W.Frag) : Sp := fun vs H Q _ => ∃ (a b : Addr) (es : List Ev) (ws : List (Nat × Nat)), vs = [.ref a, .ref b] ∧ RunOk K H a es ∧ WtOk K H b es ws ∧ ∀ H', Same H H' → Q (.bl true) H'
def spNeedWaits (K : PySem.W.Frag) : Sp := fun vs H Q _ => ∃ (a b : Addr) (es : List Ev) (ws : List (Nat × Nat)), vs = [.ref a, .ref b] ∧ RunOk K H a es ∧ WtOk K H b es ws ∧ ∀ H', Same H H' → Q .non H'
def aheadL (es : List Ev) : List Nat := (List.range es.length).map (ahead es)
def spAhead (K : PySem.W.Frag) : Sp := fun vs H Q _ => ∃ (a : Addr) (es : List Ev), vs = [.ref a] ∧ RunOk K H a es ∧ ∀ q H', Same H H' → H q = none → H' q = some (.lst (numsV (aheadL es))) → Q (.ref q) H'
def spKept (K : PySem.W.Frag) : Sp := fun vs H Q _ => ∃ (a b : Addr) (es : List Ev) (ws : List (Nat × Nat)), vs = [.ref a, .ref b] ∧ RunOk K H a es ∧ WtOk K H b es ws ∧ ∀ q H', Same H H' → H q = none → WtAt K H' q (keptL es ws) → Q (.ref q) H'
def spBrokenW (K : PySem.W.Frag) : Sp := fun vs H Q _ => ∃ (a b : Addr) (es : List Ev) (ws : List (Nat × Nat)), vs = [.ref a, .ref b] ∧ RunOk K H a es ∧ WtOk K H b es ws ∧ ∀ q H', Same H H' → H q = none → WtAt K H' q (brokenL es ws) → Q (.ref q) H'
def rLenK (K : PySem.W.Frag) : List V → Hp → VK → Prop := fun xs H Q => ∃ p ys, xs = [V.ref p] ∧ (SqL K H p ys ∨ SqT K H p ys) ∧ Q (.int (ys.length : Int)) H
theorem ahead_at {es : List Ev} {i : Nat} (h : i < es.length) : (numsV (aheadL es))[i]? = some (.int (ahead es i : Int)) := by
  unfold numsV aheadL
  rw [List.getElem?_map, List.getElem?_map, List.getElem?_range h]
  rfl
section
variable {P : Program} {w : World} {K : PySem.W.Frag} {mg : Str → Option Value} {base : Heap}
abbrev s_is_event : Stmt := top 13
abbrev N_is_event : List Str := ["value"]
theorem sc_is_event : FnScope N_is_event ["value"] (defScope s_is_event) := ⟨rfl, rfl, rfl, by decide +kernel, rfl, by decide +kernel, by decide +kernel⟩
theorem ok_is_event {f : Addr} {fd : FuncData} (F : FnP K "is_event" s_is_event f fd) (Z : FreeS mg)
    {f_is_tuple_of : Addr} {d_is_tuple_of : FuncData} (g_is_tuple_of : mg "is_tuple_of" = some (.ref f_is_tuple_of)) (F_is_tuple_of : FnP K "is_tuple_of" s_is_tuple_of f_is_tuple_of d_is_tuple_of) (G_is_tuple_of : FnOk P w K mg base CX0 1 f_is_tuple_of d_is_tuple_of ["value", "length"] (spTupOf K))
    {f_is_count : Addr} {d_is_count : FuncData} (g_is_count : mg "is_count" = some (.ref f_is_count)) (F_is_count : FnP K "is_count" s_is_count f_is_count d_is_count) (G_is_count : FnOk P w K mg base CX0 2 f_is_count d_is_count ["value"] (spCount K)) :
    FnOk P w K mg base CX0 3 f fd ["value"] (spIsEvent K) := by
  have b_is_tuple_of : Binds K d_is_tuple_of ["value", "length"] [] := F_is_tuple_of.bindsN fun _ _ _ _ _ _ us hl => match us, hl with | [_, _], _ => rfl
  have b_is_count : Binds K d_is_count ["value"] [] := F_is_count.bindsN fun _ _ _ _ _ _ us hl => match us, hl with | [_], _ => rfl
  refine F.ok sc_is_event (fun vs H Q E h => ?_) (fun cdv A outer s H vs Q E hr h => ?_)
  · obtain ⟨t, e, rfl, _⟩ := h
    rfl
  · obtain ⟨t, e, rfl, ht, k⟩ := h
    have hu65 := hr.units
    have sl : (3000 : Nat) ≤ sizeLine := by decide
    have nd := sc_is_event.nd
    refine ⟨_, PSs.nox (pss_cons (ps_if (PW.pt (pw_or (pt_cmpR (op_eqD hr.units) (pv 0) (pe_tup (pa_cons (pe_str) (pa_nil))) (nomark _)) (pw_or1 (pt_cmpR (op_eqD hr.units) (pv 0) (pe_tup (pa_cons (pe_str) (pa_nil))) (nomark _))))) (pss_one (ps_ret (pe_bl))) (pss_nil))
      (pss_one (ps_ret (pe_and (pe_call G_is_tuple_of (hr.mono (by decide)) rfl g_is_tuple_of F_is_tuple_of.kp b_is_tuple_of .nil pass0 (pa_cons (pv 0) (pa_cons (pe_int) (pa_nil)))) (pe_and (pe_cmpR op_eq (pe_ix ix_tup (pv 0) (pe_int) (fun _ _ => rfl)) (pe_str) (nomark _)) (pe_one (pe_call G_is_count (hr.mono (by decide)) rfl g_is_count F_is_count.kp b_is_count .nil pass0 (pa_cons (pe_ix ix_tup (pv 0) (pe_int) (fun _ _ => rfl)) (pa_nil))))))))), ?_⟩
    refine ⟨_, rfl, (by show 1 ≤ sizeLine; omega), fun t1 ht1 => ?_⟩
    have s1 := Same.updf (o := .tup [V.str "barrier"]) ht1
    refine ⟨_, _, Ev.dp (SqT_up s1 ht), Ev.dp (e := .bar) (SqT.of upd_same), shaped_ev e, shaped_ev .bar, _, rfl, ?_⟩
    rw [eqv_ev]
    by_cases h1 : e = .bar
    · rw [decide_eq_true h1]
      exact iteT (k _ s1)
    rw [decide_eq_false h1]
    refine iteF ⟨_, rfl, (by show 1 ≤ sizeLine; omega), fun t2 ht2 => ?_⟩
    have s2 := s1.trans (Same.updf (o := .tup [V.str "tell"]) ht2)
    have ht2 := SqT_up s2 ht
    refine ⟨_, _, Ev.dp ht2, Ev.dp (e := .tell) (SqT.of upd_same), shaped_ev e, shaped_ev .tell, _, rfl, ?_⟩
    rw [eqv_ev]
    by_cases h2 : e = .tell
    · rw [decide_eq_true h2]
      exact iteT (k _ s2)
    rw [decide_eq_false h2]
    refine iteF ⟨_, rfl, t, _, 2, rfl, ht2, _, rfl, ?_⟩
    cases e with
    | bar => exact absurd rfl h1
    | tell => exact absurd rfl h2
    | wr n =>
      refine iteT ⟨_, rfl, t, _, 0, .str "write", rfl, rfl, ht2, rfl, rfl, _, rfl, ?_⟩
      refine iteT ⟨_, rfl, t, _, 1, .int (n : Int), rfl, rfl, ht2, rfl, .int (n : Int), .int (n : Int), 0, rfl, TD.flat (.int _), ?_⟩
      rw [show cntB (.int (n : Int)) = true from decide_eq_true (show (n : Int) ≥ 0 by omega)]
      exact k _ s2
abbrev s_are_events : Stmt := top 14
abbrev N_are_events : List Str := ["value", "event"]
theorem sc_are_events : FnScope N_are_events ["value"] (defScope s_are_events) := ⟨rfl, rfl, rfl, by decide +kernel, rfl, by decide +kernel, by decide +kernel⟩
theorem ok_are_events {f : Addr} {fd : FuncData} (F : FnP K "are_events" s_are_events f fd) (Z : FreeS mg)
    {f_is_event : Addr} {d_is_event : FuncData} (g_is_event : mg "is_event" = some (.ref f_is_event)) (F_is_event : FnP K "is_event" s_is_event f_is_event d_is_event) (G_is_event : FnOk P w K mg base CX0 3 f_is_event d_is_event ["value"] (spIsEvent K)) :
    FnOk P w K mg base CX0 4 f fd ["value"] (spEvents K) := by
  have b_is_event : Binds K d_is_event ["value"] [] := F_is_event.bindsN fun _ _ _ _ _ _ us hl => match us, hl with | [_], _ => rfl
  refine F.ok sc_are_events (fun vs H Q E h => ?_) (fun cdv A outer s H vs Q E hr h => ?_)
  · obtain ⟨a, es, rfl, _⟩ := h
    rfl
  · obtain ⟨a, es, rfl, hR, k⟩ := h
    obtain ⟨ts, ha, lt, ht⟩ := hR.at_.got
    have l100 := hR.len
    have nd := sc_are_events.nd
    refine ⟨_, PSs.nox (pss_one (ps_ret (pe_and (pe_callB call_isi (by rfl) Z.isi (by decide +kernel) (pa_cons (pv 0) (pa_cons (pe_bltn (v := .ty "list") (by rfl) Z.tlist (by decide +kernel) rfl) pa_nil))) (pe_and (pe_cmpR op_gt (pe_callB call_len_seq (by rfl) Z.len (by decide +kernel) (pa_cons (pv 0) (pa_nil))) (pe_int) (nomark _)) (pe_one (pe_callB (cr_all rfl) (by rfl) Z.all (by decide +kernel) (pa_cons (pe_lc (own := [("event", 1)]) (g := gName 1) (tt := tYes) (te := tCall (spIsEvent K) [] E0 (tCons (tVar 1) (tNil))) (by rfl) nd (pi_list (pv 0))
          (blkOk_by (own := [("event", 1)]) (N := N_are_events) (sc := defScope s_are_events) (by decide +kernel)) (fun _ _ _ _ _ => pg_name (i := 1) nd rfl (Or.inl rfl)) (fun _ _ _ _ _ => pts_nil)
          (fun _ _ _ _ _ => pe_call G_is_event (hr.mono (by decide)) rfl g_is_event F_is_event.kp b_is_event .nil pass0 (pa_cons (pv 1) (pa_nil)))) (pa_nil)))))))), ?_⟩
    refine ⟨_, rfl, .ref a, .ty "list", .type "list", .type "list", true, rfl, .ty _, .base (.lst ha), kit_ty (by decide +kernel), true, rfl, iteT ?_⟩
    refine ⟨_, rfl, a, _, rfl, .inl (SqL.of ha), _, _, rfl, rfl, _, rfl, ?_⟩
    have ln : 0 < es.length := List.length_pos_iff.mpr hR.ne
    refine iteP (by rw [List.length_map]; omega) ?_
    refine ⟨_, rfl, a, rfl, ⟨_, SqL.of ha⟩, fun D hD => ?_⟩
    refine lc_sel (walk_list (K := K) (a := a) (xs := ts.map V.ref)) (fun _ => some (.bl true)) (by rw [List.length_map]; omega) hD (fun H2 s2 => SqL.of (s2 _ _ ha)) ?_ ?_
    · rintro i v H2 H3 Qy Qn hi sH ⟨rfl, hv⟩ ky kn
      rw [List.length_map] at hi
      obtain ⟨t, e1, e2⟩ := ht i (by omega)
      rw [e1] at hv
      obtain rfl : V.ref t = v := Option.some.inj hv
      exact ⟨rfl, _, rfl, t, _, rfl, SqT_up sH e2, fun G s => ky _ _ s rfl⟩
    · intro H2 s2 hR
      obtain ⟨bs, hB, hb⟩ := all_bits (K := K) hR
      refine ⟨D, bs, rfl, hB, ?_⟩
      rw [hb]
      exact k _ s2
abbrev s_need_run : Stmt := top 15
abbrev N_need_run : List Str := ["run"]
theorem sc_need_run : FnScope N_need_run ["run"] (defScope s_need_run) := ⟨rfl, rfl, rfl, by decide +kernel, rfl, by decide +kernel, by decide +kernel⟩
theorem ok_need_run {f : Addr} {fd : FuncData} (F : FnP K "need_run" s_need_run f fd) (Z : FreeS mg)
    {f_are_events : Addr} {d_are_events : FuncData} (g_are_events : mg "are_events" = some (.ref f_are_events)) (F_are_events : FnP K "are_events" s_are_events f_are_events d_are_events) (G_are_events : FnOk P w K mg base CX0 4 f_are_events d_are_events ["value"] (spEvents K)) :
    FnOk P w K mg base CX0 5 f fd ["run"] (spNeedRun K) := by
  have b_are_events : Binds K d_are_events ["value"] [] := F_are_events.bindsN fun _ _ _ _ _ _ us hl => match us, hl with | [_], _ => rfl
  refine F.ok sc_need_run (fun vs H Q E h => ?_) (fun cdv A outer s H vs Q E hr h => ?_)
  · obtain ⟨a, es, rfl, _⟩ := h
    rfl
  · obtain ⟨a, es, rfl, hR, k⟩ := h
    have nd := sc_need_run.nd
    refine ⟨_, PSs.nox (pss_one (ps_if (pt_not (pt_val (pe_call G_are_events (hr.mono (by decide)) rfl g_are_events F_are_events.kp b_are_events .nil pass0 (pa_cons (pv 0) (pa_nil))))) (pss_one (ps_dead)) (pss_nil))), ?_⟩
    exact ⟨_, rfl, a, es, rfl, hR, fun H1 s1 => ⟨true, rfl, iteF (k H1 s1)⟩⟩
abbrev s_is_wait_of : Stmt := top 16
abbrev N_is_wait_of : List Str := ["run", "value", "early", "late", "place"]
theorem sc_is_wait_of : FnScope N_is_wait_of ["run", "value"] (defScope s_is_wait_of) := ⟨rfl, rfl, rfl, by decide +kernel, rfl, by decide +kernel, by decide +kernel⟩
theorem ok_is_wait_of {f : Addr} {fd : FuncData} (F : FnP K "is_wait_of" s_is_wait_of f fd) (Z : FreeS mg)
    {f_is_tuple_of : Addr} {d_is_tuple_of : FuncData} (g_is_tuple_of : mg "is_tuple_of" = some (.ref f_is_tuple_of)) (F_is_tuple_of : FnP K "is_tuple_of" s_is_tuple_of f_is_tuple_of d_is_tuple_of) (G_is_tuple_of : FnOk P w K mg base CX0 1 f_is_tuple_of d_is_tuple_of ["value", "length"] (spTupOf K))
    {f_is_count_below : Addr} {d_is_count_below : FuncData} (g_is_count_below : mg "is_count_below" = some (.ref f_is_count_below)) (F_is_count_below : FnP K "is_count_below" s_is_count_below f_is_count_below d_is_count_below) (G_is_count_below : FnOk P w K mg base CX0 3 f_is_count_below d_is_count_below ["value", "bound"] (spBelow K)) :
    FnOk P w K mg base CX0 4 f fd ["run", "value"] (spIsWait K) := by
  have b_is_tuple_of : Binds K d_is_tuple_of ["value", "length"] [] := F_is_tuple_of.bindsN fun _ _ _ _ _ _ us hl => match us, hl with | [_, _], _ => rfl
  have b_is_count_below : Binds K d_is_count_below ["value", "bound"] [] := F_is_count_below.bindsN fun _ _ _ _ _ _ us hl => match us, hl with | [_, _], _ => rfl
  refine F.ok sc_is_wait_of (fun vs H Q E h => ?_) (fun cdv A outer s H vs Q E hr h => ?_)
  · obtain ⟨a, t, es, w, rfl, _⟩ := h
    rfl
  · obtain ⟨a, t, es, w, rfl, hR, hw, ok, k⟩ := h
    obtain ⟨ts, ha, lt, ht⟩ := hR.at_.got
    have l100 := hR.len
    have k1 := ok.lt
    have k2 := ok.len
    have sl : (3000 : Nat) ≤ sizeLine := by decide
    have nd := sc_is_wait_of.nd
    refine ⟨_, PSs.nox (pss_cons (ps_if (PW.pt (pw_or (pt_not (pt_val (pe_call G_is_tuple_of (hr.mono (by decide)) rfl g_is_tuple_of F_is_tuple_of.kp b_is_tuple_of .nil pass0 (pa_cons (pv 1) (pa_cons (pe_int) (pa_nil)))))) (pw_or1 (pt_not (pt_val (pe_callB (cr_all rfl) (by rfl) Z.all (by decide +kernel) (pa_cons (pe_lc (own := [("place", 4)]) (g := gName 4) (tt := tYes) (te := tCall (spBelow K) [] E0 (tCons (tVar 4) (tCons (tCB (rLenK K) (tCons (tVar 0) (tNil))) (tNil)))) (by rfl) nd (pi_tup (pv 1))
          (blkOk_by (own := [("place", 4)]) (N := N_is_wait_of) (sc := defScope s_is_wait_of) (by decide +kernel)) (fun _ _ _ _ _ => pg_name (i := 4) nd rfl (Or.inl rfl)) (fun _ _ _ _ _ => pts_nil)
          (fun _ _ _ _ _ => pe_call G_is_count_below (hr.mono (by decide)) rfl g_is_count_below F_is_count_below.kp b_is_count_below .nil pass0 (pa_cons (pv 4) (pa_cons (pe_callB call_len_seq (by rfl) Z.len (by decide +kernel) (pa_cons (pv 0) (pa_nil))) (pa_nil))))) (pa_nil)))))))) (pss_one (ps_ret (pe_bl))) (pss_nil))
      (pss_cons (ps_asg (pv 1) (pg_tup rfl (pgs_cons (pg_name (i := 2) nd rfl (Or.inl rfl)) (pgs_cons (pg_name (i := 3) nd rfl (Or.inl rfl)) (pgs_nil)))))
      (pss_cons (ps_if (PW.pt (pw_or (pt_cmpR op_ge (pv 2) (pv 3) (nomark _)) (pw_or1 (pt_cmpR op_ne (pe_ix ix_tup (pe_ix ix_list (pv 0) (pv 2) (fun _ _ => rfl)) (pe_int) (fun _ _ => rfl)) (pe_str) (nomark _))))) (pss_one (ps_ret (pe_bl))) (pss_nil))
      (pss_one (ps_ret (pe_or (pe_cmpR op_eq (pe_ix ix_tup (pe_ix ix_list (pv 0) (pv 3) (fun _ _ => rfl)) (pe_int) (fun _ _ => rfl)) (pe_str) (nomark _)) (pe_one (pe_and (pe_cmpR op_eq (pe_ix ix_tup (pe_ix ix_list (pv 0) (pv 3) (fun _ _ => rfl)) (pe_int) (fun _ _ => rfl)) (pe_str) (nomark _)) (pe_one (pe_cmpR op_ne (pe_ix ix_tup (pe_ix ix_list (pv 0) (pv 3) (fun _ _ => rfl)) (pe_int) (fun _ _ => rfl)) (pe_ix ix_tup (pe_ix ix_list (pv 0) (pv 2) (fun _ _ => rfl)) (pe_int) (fun _ _ => rfl)) (nomark _))))))))))), ?_⟩
    refine ⟨_, rfl, t, _, 2, rfl, hw, _, rfl, iteF ?_⟩
    refine ⟨_, rfl, t, rfl, ⟨_, hw⟩, fun D hD => ?_⟩
    refine lc_sel (walk_tup (K := K) (a := t) (xs := wv w)) (fun _ => some (.bl true)) (by show 2 ≤ 100000; decide) hD (fun H2 s2 => SqT_up s2 hw) ?_ ?_
    · rintro i v H2 H3 Qy Qn hi sH ⟨rfl, hv⟩ ky kn
      obtain ⟨n, rfl, hn⟩ : ∃ n : Nat, v = .int (n : Int) ∧ n < es.length := by
        match i with
        | 0 => cases hv; exact ⟨w.1, rfl, by omega⟩
        | 1 => cases hv; exact ⟨w.2, rfl, by omega⟩
        | i + 2 => simp [wv] at hv
      refine ⟨rfl, _, rfl, _, rfl, a, _, rfl, .inl (SqL.of (sH _ _ ha)), n, es.length, (by rw [List.length_map, lt]; rfl), ?_⟩
      rw [decide_eq_true hn]
      exact ky _ _ (Same.refl _) rfl
    · intro H2 s2 hR2
      obtain ⟨bs, hB, hb⟩ := all_bits (K := K) hR2
      refine ⟨D, bs, rfl, hB, ?_⟩
      rw [hb]
      refine ⟨true, rfl, iteF ?_⟩
      have hw2 := SqT_up s2 hw
      have ha2 := s2 _ _ ha
      refine ⟨_, rfl, t, [_, _], rfl, hw2, rfl, _, [_], rfl, _, [], rfl, rfl, ?_⟩
      obtain ⟨t1, a1, x1⟩ := ht w.1 (by omega)
      obtain ⟨t2, a2, x2⟩ := ht w.2 (by omega)
      obtain ⟨c, e1, e2⟩ := ok.ev
      rw [List.getElem?_eq_getElem (by omega)] at e1 e2
      rw [Option.some.inj e1] at x1
      have y1 := SqT_up s2 x1
      have y2 := SqT_up s2 x2
      refine ⟨_, rfl, _, rfl, _, _, rfl, rfl, _, rfl, ?_⟩
      refine iteQ (by omega) ?_
      refine ⟨_, rfl, _, rfl, a, _, (w.1 : Int), _, rfl, rfl, SqL.of ha2, atI_nat a1, t1, _, 0, _, rfl, rfl, y1, rfl, rfl, _, rfl, iteF ?_⟩
      rcases e2 with e2 | ⟨c', e2, nc⟩
      · rw [Option.some.inj e2] at y2
        exact ⟨_, rfl, _, rfl, a, _, (w.2 : Int), _, rfl, rfl, SqL.of ha2, atI_nat a2, t2, _, 0, _, rfl, rfl, y2, rfl, rfl, _, rfl, iteT (k _ s2)⟩
      · rw [Option.some.inj e2] at y2
        refine ⟨_, rfl, _, rfl, a, _, (w.2 : Int), _, rfl, rfl, SqL.of ha2, atI_nat a2, t2, _, 0, _, rfl, rfl, y2, rfl, rfl, _, rfl, iteF ?_⟩
        refine ⟨_, rfl, _, rfl, a, _, (w.2 : Int), _, rfl, rfl, SqL.of ha2, atI_nat a2, t2, _, 0, _, rfl, rfl, y2, rfl, rfl, _, rfl, iteT ?_⟩
        refine ⟨_, rfl, _, rfl, a, _, (w.2 : Int), _, rfl, rfl, SqL.of ha2, atI_nat a2, t2, _, 1, _, rfl, rfl, y2, rfl, ?_⟩
        refine ⟨_, rfl, _, rfl, a, _, (w.1 : Int), _, rfl, rfl, SqL.of ha2, atI_nat a1, t1, _, 1, _, rfl, rfl, y1, rfl, rfl, ?_⟩
        rw [decide_eq_false (fun z => nc (by have := V.int.inj z; omega))]
        exact k _ s2
abbrev s_are_waits_of : Stmt := top 17
abbrev N_are_waits_of : List Str := ["run", "value", "wait"]
theorem sc_are_waits_of : FnScope N_are_waits_of ["run", "value"] (defScope s_are_waits_of) := ⟨rfl, rfl, rfl, by decide +kernel, rfl, by decide +kernel, by decide +kernel⟩
theorem ok_are_waits_of {f : Addr} {fd : FuncData} (F : FnP K "are_waits_of" s_are_waits_of f fd) (Z : FreeS mg)
    {f_ascends : Addr} {d_ascends : FuncData} (g_ascends : mg "ascends" = some (.ref f_ascends)) (F_ascends : FnP K "ascends" s_ascends f_ascends d_ascends) (G_ascends : FnOk P w K mg base CX0 1 f_ascends d_ascends ["values"] (spAsc K))
    {f_is_wait_of : Addr} {d_is_wait_of : FuncData} (g_is_wait_of : mg "is_wait_of" = some (.ref f_is_wait_of)) (F_is_wait_of : FnP K "is_wait_of" s_is_wait_of f_is_wait_of d_is_wait_of) (G_is_wait_of : FnOk P w K mg base CX0 4 f_is_wait_of d_is_wait_of ["run", "value"] (spIsWait K)) :
    FnOk P w K mg base CX0 5 f fd ["run", "value"] (spWaits K) := by
  have b_ascends : Binds K d_ascends ["values"] [] := F_ascends.bindsN fun _ _ _ _ _ _ us hl => match us, hl with | [_], _ => rfl
  have b_is_wait_of : Binds K d_is_wait_of ["run", "value"] [] := F_is_wait_of.bindsN fun _ _ _ _ _ _ us hl => match us, hl with | [_, _], _ => rfl
  refine F.ok sc_are_waits_of (fun vs H Q E h => ?_) (fun cdv A outer s H vs Q E hr h => ?_)
  · obtain ⟨a, b, es, ws, rfl, _⟩ := h
    rfl
  · obtain ⟨a, b, es, ws, rfl, hR, hW, k⟩ := h
    obtain ⟨ts, hb, lt, ht⟩ := hW.at_.got
    have l1000 := hW.len
    have nd := sc_are_waits_of.nd
    refine ⟨_, PSs.nox (pss_one (ps_ret (pe_and (pe_callB call_isi (by rfl) Z.isi (by decide +kernel) (pa_cons (pv 1) (pa_cons (pe_bltn (v := .ty "list") (by rfl) Z.tlist (by decide +kernel) rfl) pa_nil))) (pe_and (pe_callB (cr_all rfl) (by rfl) Z.all (by decide +kernel) (pa_cons (pe_lc (own := [("wait", 2)]) (g := gName 2) (tt := tYes) (te := tCall (spIsWait K) [] E0 (tCons (tVar 0) (tCons (tVar 2) (tNil)))) (by rfl) nd (pi_list (pv 1))
          (blkOk_by (own := [("wait", 2)]) (N := N_are_waits_of) (sc := defScope s_are_waits_of) (by decide +kernel)) (fun _ _ _ _ _ => pg_name (i := 2) nd rfl (Or.inl rfl)) (fun _ _ _ _ _ => pts_nil)
          (fun _ _ _ _ _ => pe_call G_is_wait_of (hr.mono (by decide)) rfl g_is_wait_of F_is_wait_of.kp b_is_wait_of .nil pass0 (pa_cons (pv 0) (pa_cons (pv 2) (pa_nil))))) (pa_nil))) (pe_one (pe_call G_ascends (hr.mono (by decide)) rfl g_ascends F_ascends.kp b_ascends .nil pass0 (pa_cons (pv 1) (pa_nil)))))))), ?_⟩
    refine ⟨_, rfl, .ref b, .ty "list", .type "list", .type "list", true, rfl, .ty _, .base (.lst hb), kit_ty (by decide +kernel), true, rfl, iteT ?_⟩
    refine ⟨_, rfl, b, rfl, ⟨_, SqL.of hb⟩, fun D hD => ?_⟩
    refine lc_sel (walk_list (K := K) (a := b) (xs := ts.map V.ref)) (fun _ => some (.bl true)) (by rw [List.length_map]; omega) hD (fun H2 s2 => SqL.of (s2 _ _ hb)) ?_ ?_
    · rintro i v H2 H3 Qy Qn hi sH ⟨rfl, hv⟩ ky kn
      rw [List.length_map] at hi
      obtain ⟨t, e1, e2⟩ := ht i (by omega)
      rw [e1] at hv
      obtain rfl : V.ref t = v := Option.some.inj hv
      exact ⟨rfl, _, rfl, _, rfl, a, t, es, _, rfl, hR.same sH, SqT_up sH e2, hW.ok.ok _ (List.getElem_mem _), fun G s => ky _ _ s rfl⟩
    · intro H2 s2 hR2
      obtain ⟨bs, hB, hb⟩ := all_bits (K := K) hR2
      refine ⟨D, bs, rfl, hB, ?_⟩
      rw [hb]
      exact ⟨true, rfl, iteT ⟨_, rfl, b, rfl, .inr ⟨ws, hW.at_.same s2, hW.len, hW.ok.asc⟩, fun H3 s3 => k H3 (s2.trans s3)⟩⟩
abbrev s_need_waits : Stmt := top 18
abbrev N_need_waits : List Str := ["run", "waits"]
theorem sc_need_waits : FnScope N_need_waits ["run", "waits"] (defScope s_need_waits) := ⟨rfl, rfl, rfl, by decide +kernel, rfl, by decide +kernel, by decide +kernel⟩
theorem ok_need_waits {f : Addr} {fd : FuncData} (F : FnP K "need_waits" s_need_waits f fd) (Z : FreeS mg)
    {f_are_waits_of : Addr} {d_are_waits_of : FuncData} (g_are_waits_of : mg "are_waits_of" = some (.ref f_are_waits_of)) (F_are_waits_of : FnP K "are_waits_of" s_are_waits_of f_are_waits_of d_are_waits_of) (G_are_waits_of : FnOk P w K mg base CX0 5 f_are_waits_of d_are_waits_of ["run", "value"] (spWaits K)) :
    FnOk P w K mg base CX0 6 f fd ["run", "waits"] (spNeedWaits K) := by
  have b_are_waits_of : Binds K d_are_waits_of ["run", "value"] [] := F_are_waits_of.bindsN fun _ _ _ _ _ _ us hl => match us, hl with | [_, _], _ => rfl
  refine F.ok sc_need_waits (fun vs H Q E h => ?_) (fun cdv A outer s H vs Q E hr h => ?_)
  · obtain ⟨a, b, es, ws, rfl, _⟩ := h
    rfl
  · obtain ⟨a, b, es, ws, rfl, hR, hW, k⟩ := h
    have nd := sc_need_waits.nd
    refine ⟨_, PSs.nox (pss_one (ps_if (pt_not (pt_val (pe_call G_are_waits_of (hr.mono (by decide)) rfl g_are_waits_of F_are_waits_of.kp b_are_waits_of .nil pass0 (pa_cons (pv 0) (pa_cons (pv 1) (pa_nil)))))) (pss_one (ps_dead)) (pss_nil))), ?_⟩
    exact ⟨_, rfl, _, rfl, a, b, es, ws, rfl, hR, hW, fun H1 s1 => ⟨true, rfl, iteF (k H1 s1)⟩⟩
abbrev s_barriers_ahead : Stmt := top 19
abbrev N_barriers_ahead : List Str := ["run", "found", "many", "event"]
theorem sc_barriers_ahead : FnScope N_barriers_ahead ["run"] (defScope s_barriers_ahead) := ⟨rfl, rfl, rfl, by decide +kernel, rfl, by decide +kernel, by decide +kernel⟩
theorem ok_barriers_ahead {f : Addr} {fd : FuncData} (F : FnP K "barriers_ahead" s_barriers_ahead f fd) (Z : FreeS mg) :
    FnOk P w K mg base CX0 1 f fd ["run"] (spAhead K) := by
  refine F.ok sc_barriers_ahead (fun vs H Q E h => ?_) (fun cdv A outer s H vs Q E hr h => ?_)
  · obtain ⟨a, es, rfl, _⟩ := h
    rfl
  · obtain ⟨a, es, rfl, hR, k⟩ := h
    obtain ⟨ts, ha, lt, ht⟩ := hR.at_.got
    have l100 := hR.len
    have sl : (3000 : Nat) ≤ sizeLine := by decide
    have nd := sc_barriers_ahead.nd
    refine ⟨_, PSs.nox (pss_cons (ps_set (i := 1) nd rfl (Or.inl rfl) (pe_lst (pa_nil)))
      (pss_cons (ps_set (i := 2) nd rfl (Or.inl rfl) (pe_int))
      (pss_cons (ps_for PassesOwn.never rfl (pi_list (pv 0)) (pg_name (i := 3) nd rfl (Or.inl rfl))
        (pss_cons (ps_expr (pe_bm PySem.F.plainAttrs_list PySem.F.slot_list_append PySem.F.type_list_append mt_append (pv 1) (pa_cons (pv 2) (pa_nil))))
      (pss_one (ps_if (pt_cmpR (op_eqD hr.units) (pv 3) (pe_tup (pa_cons (pe_str) (pa_nil))) (nomark _)) (pss_one (ps_set (i := 2) nd rfl (Or.inl rfl) (pe_op op_add (pv 2) (pe_int)))) (pss_nil)))))
      (pss_one (ps_ret (pv 1)))))), ?_⟩
    refine ⟨(by show 0 ≤ sizeLine; omega), fun q hq => ?_⟩
    have s1 := Same.updf (o := .lst []) hq
    refine ⟨_, rfl, a, rfl, ⟨_, SqL.of (s1 _ _ ha)⟩, ?_⟩
    refine for_list (xs := ts.map V.ref) (fun i σ G => Same H G ∧ G q = some (.lst (numsV ((List.range i).map (ahead es)))) ∧ ∃ v3, σ = [some (.ref a), some (.ref q), some (.int (ahead es i : Int)), v3])
      ⟨s1, upd_same, none, rfl⟩ (fun i σ G _ hh => SqL.of (hh.1 _ _ ha)) ?_ ?_
    · rintro i y σ G hy ⟨sG, hqG, v3, rfl⟩
      have hi : i < es.length := by
        have := (List.getElem?_eq_some_iff.mp hy).1
        rw [List.length_map] at this
        omega
      obtain ⟨t, e1, e2⟩ := ht i hi
      rw [e1] at hy
      obtain rfl : V.ref t = y := Option.some.inj hy
      refine ⟨_, rfl, Or.inl ⟨rfl, _, SqL.of hqG⟩, _, rfl, q, _, _, rfl, rfl, hqG, (by unfold numsV; rw [List.length_map, List.length_map, List.length_range]; omega), ?_⟩
      obtain ⟨G1, eG⟩ : ∃ X, X = upd G q (.lst (numsV ((List.range i).map (ahead es)) ++ [.int (ahead es i : Int)])) := ⟨_, rfl⟩
      have sG1 : Same H G1 := fun c o e => by
        rw [eG, upd_ne (ne_of_none e hq)]
        exact sG _ _ e
      have hq1 : G1 q = some (.lst (numsV ((List.range (i + 1)).map (ahead es)))) := by
        rw [eG, upd_same, List.range_succ]
        unfold numsV
        rw [List.map_append, List.map_append]
        rfl
      rw [← eG]
      clear eG
      refine ⟨_, rfl, (by show 1 ≤ sizeLine; omega), fun t1 ht1 => ?_⟩
      have sT := Same.updf (o := .tup [V.str "barrier"]) ht1
      refine ⟨_, _, Ev.dp (SqT_up (sG1.trans sT) e2), Ev.dp (e := .bar) (SqT.of upd_same), shaped_ev _, shaped_ev .bar, _, rfl, ?_⟩
      rw [eqv_ev]
      have ea := ahead_succ es i
      have eb : isB es i = decide (es[i] = .bar) := by
        unfold isB
        rw [List.getElem?_eq_getElem hi, decide_eq_decide]
        exact ⟨fun z => Option.some.inj z, fun z => by rw [z]⟩
      rw [eb] at ea
      by_cases h : es[i] = .bar
      · rw [decide_eq_true h] at ea ⊢
        refine iteT ⟨_, rfl, _, _, rfl, rfl, sG1.trans sT, sT _ _ hq1, some (V.ref t), ?_⟩
        rw [ea]
        rfl
      · rw [decide_eq_false h] at ea ⊢
        refine iteF ⟨sG1.trans sT, sT _ _ hq1, some (V.ref t), ?_⟩
        rw [ea]
        rfl
    · rintro σ G ⟨sG, hqG, v3, rfl⟩
      rw [List.length_map, lt] at hqG
      exact ⟨_, rfl, k q G sG hq hqG⟩
abbrev s_kept_waits : Stmt := top 20
abbrev N_kept_waits : List Str := ["run", "waits", "ahead", "early", "late"]
theorem sc_kept_waits : FnScope N_kept_waits ["run", "waits"] (defScope s_kept_waits) := ⟨rfl, rfl, rfl, by decide +kernel, rfl, by decide +kernel, by decide +kernel⟩
theorem ok_kept_waits {f : Addr} {fd : FuncData} (F : FnP K "kept_waits" s_kept_waits f fd) (Z : FreeS mg)
    {f_barriers_ahead : Addr} {d_barriers_ahead : FuncData} (g_barriers_ahead : mg "barriers_ahead" = some (.ref f_barriers_ahead)) (F_barriers_ahead : FnP K "barriers_ahead" s_barriers_ahead f_barriers_ahead d_barriers_ahead) (G_barriers_ahead : FnOk P w K mg base CX0 1 f_barriers_ahead d_barriers_ahead ["run"] (spAhead K)) :
    FnOk P w K mg base CX0 2 f fd ["run", "waits"] (spKept K) := by
  have b_barriers_ahead : Binds K d_barriers_ahead ["run"] [] := F_barriers_ahead.bindsN fun _ _ _ _ _ _ us hl => match us, hl with | [_], _ => rfl
  refine F.ok sc_kept_waits (fun vs H Q E h => ?_) (fun cdv A outer s H vs Q E hr h => ?_)
  · obtain ⟨a, b, es, ws, rfl, _⟩ := h
    rfl
  · obtain ⟨a, b, es, ws, rfl, hR, hW, k⟩ := h
    obtain ⟨ts, hb, lt, ht⟩ := hW.at_.got
    have l1000 := hW.len
    have sl : (3000 : Nat) ≤ sizeLine := by decide
    have nd := sc_kept_waits.nd
    refine ⟨_, PSs.nox (pss_cons (ps_set (i := 2) nd rfl (Or.inr rfl) (pe_call G_barriers_ahead (hr.mono (by decide)) rfl g_barriers_ahead F_barriers_ahead.kp b_barriers_ahead .nil pass0 (pa_cons (pv 0) (pa_nil))))
      (pss_one (ps_ret (pe_lc (own := [("early", 3), ("late", 4)]) (g := gTup K 2 (gCons (gName 3) (gCons (gName 4) (gNil)))) (tt := tTest (tOp (rI0 fun i j => .bl (decide (i < j))) (tOp (rIxL K) (tVar 2) (tVar 3)) (tOp (rIxL K) (tVar 2) (tVar 4)))) (te := tTup (tCons (tVar 3) (tCons (tVar 4) (tNil)))) (by rfl) nd (pi_list (pv 1))
          (blkOk_by (own := [("early", 3), ("late", 4)]) (N := N_kept_waits) (sc := defScope s_kept_waits) (by decide +kernel)) (fun _ _ _ _ _ => pg_tup rfl (pgs_cons (pg_name (i := 3) nd rfl (Or.inl rfl)) (pgs_cons (pg_name (i := 4) nd rfl (Or.inl rfl)) (pgs_nil)))) (fun _ _ _ _ _ => pts_one (pt_cmpR op_lt (pe_ix ix_list (pv 2) (pv 3) (fun _ _ => rfl)) (pe_ix ix_list (pv 2) (pv 4) (fun _ _ => rfl)) (nomark _)))
          (fun _ _ _ _ _ => pe_tup (pa_cons (pv 3) (pa_cons (pv 4) (pa_nil)))))))), ?_⟩
    refine ⟨_, rfl, a, es, rfl, hR, fun q G sG nq hq => ?_⟩
    refine ⟨_, rfl, b, rfl, ⟨_, SqL.of (sG _ _ hb)⟩, fun D hD => ?_⟩
    refine lc_rel (n := ws.length) (by have := walk_list (K := K) (a := b) (xs := ts.map V.ref); rw [List.length_map, lt] at this; exact this) (fun i => (fun w => decide (ahead es w.1 < ahead es w.2)) (ws.getD i (0, 0))) (fun i y G => ∃ t, y = .ref t ∧ SqT K G t (wv (ws.getD i (0, 0)))) (fun i y G G' s ⟨t, e, h⟩ => ⟨t, e, SqT_up s h⟩) (by omega) hD (fun G2 s => SqL.of (s _ _ (sG _ _ hb))) ?_ ?_
    · rintro i v H2 H3 Qy Qn hi sH hacc ⟨rfl, hv⟩ ky kn
      obtain ⟨t, e1, e2⟩ := ht i hi
      rw [e1] at hv
      obtain rfl : V.ref t = v := Option.some.inj hv
      have ew : ws.getD i (0, 0) = ws[i] := by
        rw [List.getD_eq_getElem?_getD, List.getElem?_eq_getElem hi]
        rfl
      have ok := hW.ok.ok _ (List.getElem_mem hi)
      have l1 := ok.lt
      have l2 := ok.len
      have hw := SqT_up (sG.trans sH) e2
      dsimp only at ky kn
      rw [ew] at ky kn
      refine ⟨t, [_, _], rfl, hw, rfl, _, [_], rfl, _, [], rfl, rfl, ?_⟩
      refine ⟨rfl, _, rfl, _, rfl, q, _, _, _, rfl, rfl, SqL.of (sH _ _ hq), atI_nat (ahead_at (by omega)), _, rfl, _, rfl, q, _, _, _, rfl, rfl, SqL.of (sH _ _ hq), atI_nat (ahead_at l2), ?_⟩
      by_cases c : ahead es ws[i].1 < ahead es ws[i].2
      · refine ⟨_, _, rfl, rfl, _, rfl, iteP (by first | omega | rw [c]) ?_⟩
        refine ⟨_, rfl, _, rfl, (by show 2 ≤ sizeLine; omega), fun T hT => ?_⟩
        obtain ⟨acc, hacc⟩ := hacc
        refine ky _ _ (decide_eq_true c) (Same.updf hT) ⟨T, rfl, ?_⟩
        exact SqT.of (by rw [off_at (fun z => by rw [z, hacc] at hT; cases hT)]; exact upd_same)
      · exact ⟨_, _, rfl, rfl, _, rfl, iteQ (by first | omega | (intro z; have := V.int.inj z; omega)) (kn _ (decide_eq_false c) (Same.refl _))⟩
    · intro H2 ys s2 hys py
      exact k D H2 (sG.trans s2) (none_back sG hD) (LsT.of_paired hys (paired_mono (fun x y ⟨t, e, h⟩ => ⟨t, e, SqT_up (off_le _ _) h⟩) (paired_selG (R := fun x y => ∃ t, y = .ref t ∧ SqT K (off H2 D) t (wv x)) py)))
abbrev s_broken_waits : Stmt := top 21
abbrev N_broken_waits : List Str := ["run", "waits", "ahead", "early", "late"]
theorem sc_broken_waits : FnScope N_broken_waits ["run", "waits"] (defScope s_broken_waits) := ⟨rfl, rfl, rfl, by decide +kernel, rfl, by decide +kernel, by decide +kernel⟩
theorem ok_broken_waits {f : Addr} {fd : FuncData} (F : FnP K "broken_waits" s_broken_waits f fd) (Z : FreeS mg)
    {f_barriers_ahead : Addr} {d_barriers_ahead : FuncData} (g_barriers_ahead : mg "barriers_ahead" = some (.ref f_barriers_ahead)) (F_barriers_ahead : FnP K "barriers_ahead" s_barriers_ahead f_barriers_ahead d_barriers_ahead) (G_barriers_ahead : FnOk P w K mg base CX0 1 f_barriers_ahead d_barriers_ahead ["run"] (spAhead K)) :
    FnOk P w K mg base CX0 2 f fd ["run", "waits"] (spBrokenW K) := by
  have b_barriers_ahead : Binds K d_barriers_ahead ["run"] [] := F_barriers_ahead.bindsN fun _ _ _ _ _ _ us hl => match us, hl with | [_], _ => rfl
  refine F.ok sc_broken_waits (fun vs H Q E h => ?_) (fun cdv A outer s H vs Q E hr h => ?_)
  · obtain ⟨a, b, es, ws, rfl, _⟩ := h
    rfl
  · obtain ⟨a, b, es, ws, rfl, hR, hW, k⟩ := h
    obtain ⟨ts, hb, lt, ht⟩ := hW.at_.got
    have l1000 := hW.len
    have sl : (3000 : Nat) ≤ sizeLine := by decide
    have nd := sc_broken_waits.nd
    refine ⟨_, PSs.nox (pss_cons (ps_set (i := 2) nd rfl (Or.inr rfl) (pe_call G_barriers_ahead (hr.mono (by decide)) rfl g_barriers_ahead F_barriers_ahead.kp b_barriers_ahead .nil pass0 (pa_cons (pv 0) (pa_nil))))
      (pss_one (ps_ret (pe_lc (own := [("early", 3), ("late", 4)]) (g := gTup K 2 (gCons (gName 3) (gCons (gName 4) (gNil)))) (tt := tTest (tOp rEq (tOp (rIxL K) (tVar 2) (tVar 3)) (tOp (rIxL K) (tVar 2) (tVar 4)))) (te := tTup (tCons (tVar 3) (tCons (tVar 4) (tNil)))) (by rfl) nd (pi_list (pv 1))
          (blkOk_by (own := [("early", 3), ("late", 4)]) (N := N_broken_waits) (sc := defScope s_broken_waits) (by decide +kernel)) (fun _ _ _ _ _ => pg_tup rfl (pgs_cons (pg_name (i := 3) nd rfl (Or.inl rfl)) (pgs_cons (pg_name (i := 4) nd rfl (Or.inl rfl)) (pgs_nil)))) (fun _ _ _ _ _ => pts_one (pt_cmpR op_eq (pe_ix ix_list (pv 2) (pv 3) (fun _ _ => rfl)) (pe_ix ix_list (pv 2) (pv 4) (fun _ _ => rfl)) (nomark _)))
          (fun _ _ _ _ _ => pe_tup (pa_cons (pv 3) (pa_cons (pv 4) (pa_nil)))))))), ?_⟩
    refine ⟨_, rfl, a, es, rfl, hR, fun q G sG nq hq => ?_⟩
    refine ⟨_, rfl, b, rfl, ⟨_, SqL.of (sG _ _ hb)⟩, fun D hD => ?_⟩
    refine lc_rel (n := ws.length) (by have := walk_list (K := K) (a := b) (xs := ts.map V.ref); rw [List.length_map, lt] at this; exact this) (fun i => (fun w => decide (ahead es w.1 = ahead es w.2)) (ws.getD i (0, 0))) (fun i y G => ∃ t, y = .ref t ∧ SqT K G t (wv (ws.getD i (0, 0)))) (fun i y G G' s ⟨t, e, h⟩ => ⟨t, e, SqT_up s h⟩) (by omega) hD (fun G2 s => SqL.of (s _ _ (sG _ _ hb))) ?_ ?_
    · rintro i v H2 H3 Qy Qn hi sH hacc ⟨rfl, hv⟩ ky kn
      obtain ⟨t, e1, e2⟩ := ht i hi
      rw [e1] at hv
      obtain rfl : V.ref t = v := Option.some.inj hv
      have ew : ws.getD i (0, 0) = ws[i] := by
        rw [List.getD_eq_getElem?_getD, List.getElem?_eq_getElem hi]
        rfl
      have ok := hW.ok.ok _ (List.getElem_mem hi)
      have l1 := ok.lt
      have l2 := ok.len
      have hw := SqT_up (sG.trans sH) e2
      dsimp only at ky kn
      rw [ew] at ky kn
      refine ⟨t, [_, _], rfl, hw, rfl, _, [_], rfl, _, [], rfl, rfl, ?_⟩
      refine ⟨rfl, _, rfl, _, rfl, q, _, _, _, rfl, rfl, SqL.of (sH _ _ hq), atI_nat (ahead_at (by omega)), _, rfl, _, rfl, q, _, _, _, rfl, rfl, SqL.of (sH _ _ hq), atI_nat (ahead_at l2), ?_⟩
      by_cases c : ahead es ws[i].1 = ahead es ws[i].2
      · refine ⟨rfl, _, rfl, iteP (by first | omega | rw [c]) ?_⟩
        refine ⟨_, rfl, _, rfl, (by show 2 ≤ sizeLine; omega), fun T hT => ?_⟩
        obtain ⟨acc, hacc⟩ := hacc
        refine ky _ _ (decide_eq_true c) (Same.updf hT) ⟨T, rfl, ?_⟩
        exact SqT.of (by rw [off_at (fun z => by rw [z, hacc] at hT; cases hT)]; exact upd_same)
      · exact ⟨rfl, _, rfl, iteQ (by first | omega | (intro z; have := V.int.inj z; omega)) (kn _ (decide_eq_false c) (Same.refl _))⟩
    · intro H2 ys s2 hys py
      exact k D H2 (sG.trans s2) (none_back sG hD) (LsT.of_paired hys (paired_mono (fun x y ⟨t, e, h⟩ => ⟨t, e, SqT_up (off_le _ _) h⟩) (paired_selG (R := fun x y => ∃ t, y = .ref t ∧ SqT K (off H2 D) t (wv x)) py)))
end
end K18
set_option Elab.async false
set_option linter.all false
set_option maxRecDepth 100000
set_option maxHeartbeats 4000000
/-! sorted(xs, key=lambda y: y[n]), as a rule: the keys told item by item. -/
namespace KLam
open PySem PySem.Spec PyProof.Rows L2 LamX
/-- the wish: T: the tables of code objects -/
def tSortLamP (T : List (Addr × Str)) (K : PySem.W.Frag) (n : Int) (te : TE) : TE := fun σ H Q => te σ H fun x H1 => Tabs T H1 ∧ ∃ (a : Addr) (ps : List (V × Int)), x = .ref a ∧ SqL K H1 a (ps.map Prod.fst) ∧
  (∀ p ∈ ps, ∃ (t : Addr) (zs : List V), p.1 = .ref t ∧ SqT K H1 t zs ∧ atI zs n = some (.int p.2)) ∧
  ∀ H2 p, ExtN H1 H2 → Tabs T H2 → H2 p = none → Q (.ref p) (upd H2 p (.lst ((ps.mergeSort fun u v => decide (u.2 ≤ v.2)).map Prod.fst)))
section
variable {X : Cx}
theorem pe_sortedLamP {T : List (Addr × Str)} {c P : Addr} {params : Arguments} {scope : Scope} {y : Str} {n : Int} {kk j : Nat} {e : Expr} {te : TE} {p p1 p2 p3 lpos kpos pos : Pos} (he : PE X e te)
    (hgs : Gl X "sorted") (hm : X.mg "sorted" = none)
    (TB : TabB X.base X.mg c P) (hcode : X.env.code = .ref c) (hmT : (P, X.env.qual ++ "<lambda>") ∈ T) (hu : ∀ q ∈ T, q.1 = P → q.2 = X.env.qual ++ "<lambda>") (hr : Room 3 X.A)
    (hdef : defaultsOf params X.env = ([], [])) (hcl : cloFrom X.env.cells scope.names [] = []) (hfr : ∀ z ∈ scope.names, z.2 ≠ .free)
    (hco : scope.isCoroutine = false) (hgen : scope.isGenerator = false) (hk : scope.kind = .function) (hnc : ∀ x ∈ scope.names, x.2 ≠ .cell) (hy : scope.names.lookup y = some .local) (hd : (y == ("__debug__" : Str)) = false)
    (hb : ∀ (q : Str) (pm cv ctv u : Value), bindArgs (PySem.W.kla_fn "<lambda>" q params (.Subscript (.Name y p1) (.Constant (.int n) kk p2) p3) scope [] pm cv ctv) ⟨[u], []⟩ = pure [(y, u)])
    (hstar : starEach [e] X.env = (false, eval e X.env) :: starEach [] X.env := by rfl) (ha : backTo pos (starEach [e] X.env) = (false, eval e X.env) :: backTo pos (starEach [] X.env) := by rfl) (hpl : (backTo pos (starEach [e] X.env)).any (·.1) = false := by rfl) :
    PE X (.Call (.Name "sorted" p) [e] [⟨some "key", .Lambda params (.Subscript (.Name y p1) (.Constant (.int n) kk p2) p3) scope lpos, kpos⟩] pos) (tSortLamP T X.K n te) := by
  refine ⟨fun pins s σ H Q I h => ?_⟩
  refine wpAny_Call_Name_kw (ld_blt I hgs hm (by rfl : bootBuiltins "sorted" = some (.builtin "sorted")) ?_ (by decide) (by decide))
  have h' : tCons te tNil σ H (fun vs H1 => match vs with
    | [x] => Tabs T H1 ∧ ∃ (a : Addr) (ps : List (V × Int)), x = .ref a ∧ SqL X.K H1 a (ps.map Prod.fst) ∧
      (∀ p ∈ ps, ∃ (t : Addr) (zs : List V), p.1 = .ref t ∧ SqT X.K H1 t zs ∧ atI zs n = some (.int p.2)) ∧
      ∀ H2 p, ExtN H1 H2 → Tabs T H2 → H2 p = none → Q (.ref p) (upd H2 p (.lst ((ps.mergeSort fun u v => decide (u.2 ≤ v.2)).map Prod.fst)))
    | _ => False) := h
  refine PyProof.Rows.callWith_kw (thn ((pa_cons he pa_nil hstar).run pos pins s σ H _ I h') fun us s1 ⟨vs, H1, I1, r1, q1⟩ => ?_) ha hpl (by rfl) (by rfl)
  match vs, r1, q1 with
  | [], r1, q1 => exact q1.elim
  | _ :: _ :: _, r1, q1 => exact q1.elim
  | [x], r1, q1 =>
    obtain ⟨hT, a, ps, ex, hxs, hkp, qp⟩ := q1
    obtain ⟨g, hg⟩ : ∃ g : V → Int, ∀ p ∈ ps, g p.1 = p.2 := by
      refine ⟨fun u => ((ps.find? fun p => decide (p.1 = u)).map Prod.snd).getD 0, fun p hp => ?_⟩
      show ((ps.find? fun r => decide (r.1 = p.1)).map Prod.snd).getD 0 = p.2
      cases e : ps.find? fun r => decide (r.1 = p.1) with
      | none =>
        have := List.find?_eq_none.mp e p hp
        simp at this
      | some r =>
        have hr2 : r.1 = p.1 := by
          have := List.find?_some e
          simpa using this
        obtain ⟨t, zs, e1, h1, k1⟩ := hkp p hp
        obtain ⟨t', zs', e2, h2, k2⟩ := hkp r (List.mem_of_find?_eq_some e)
        rw [hr2, e1] at e2
        obtain rfl := V.ref.inj e2
        rw [I1.tuple_inj h2 h1, k1] at k2
        exact (V.int.inj (Option.some.inj k2)).symm
    have hsort : (ps.mergeSort fun u v => decide (u.2 ≤ v.2)).map Prod.fst = (ps.map Prod.fst).mergeSort fun u v => decide (g u ≤ g v) := by
      refine List.map_mergeSort fun u hu v hv => ?_
      rw [hg u hu, hg v hv]
    obtain ⟨xs, exs⟩ : ∃ xs, xs = ps.map Prod.fst := ⟨_, rfl⟩
    rw [← exs] at hxs hsort
    have hk1 : ∀ u ∈ xs, ∃ (t : Addr) (zs : List V), u = .ref t ∧ SqT X.K H1 t zs ∧ atI zs n = some (.int (g u)) := fun u hu => by
      rw [exs] at hu
      obtain ⟨p, hp, rfl⟩ := List.mem_map.mp hu
      obtain ⟨t, zs, e1, h1, k1⟩ := hkp p hp
      exact ⟨t, zs, e1, h1, by rw [hg p hp]; exact k1⟩
    have q : ∀ H2 p, ExtN H1 H2 → Tabs T H2 → H2 p = none → Q (.ref p) (upd H2 p (.lst (xs.mergeSort fun u v => decide (g u ≤ g v)))) := by
      rw [hsort] at qp
      exact qp
    subst ex
    obtain ⟨u, rfl, rx⟩ := vals1 r1
    obtain rfl : u = Value.ref a := rx
    show wpAny _ _ (evalAll ((do let v ← eval (.Lambda params (.Subscript (.Name y p1) (.Constant (.int n) kk p2) p3) scope lpos) X.env; standAt pos; pure v) :: [])) _ _ s1
    refine wpAny_evalAll_cons (wpAny_bind (lam_make2 I1 TB hcode hmT hu hT hdef (fun z hz e => absurd e (hfr z hz)) fun f c' pm' ctv H2 s2 I2 eN T2 hf hfn hfr2 hco2 => wpAny_bind (wpAny_standAt (wpAny_pure ?_))))
    refine wpAny_evalAll_nil ?_
    rw [hcl] at hf
    show wpAny _ _ (call (.builtin "sorted") [.ref a] [("key", .ref f)]) _ _ s2
    have hx2 := sqL_ext hxs eN
    obtain ⟨its, rv, hl, hz⟩ := I2.list hx2
    have lim2 : s2.heap.NoLimit := I2.nolimit
    refine PySem.W.sorted_key_data (b := false) (β := V) (bs := xs) (vs := its) (R := fun (v : Value) (x : V) => RelV x v) (fun u => .int (g u)) hl.isList (each_vals rv) (fun d hd d' hd' => ?_) (.inr fun d hd => ?_) hz (fun x hx => ?_) (ksk_s1 _ _) (fun x => ksk_l1 _ _) (fun x => ksk_t1 _ _) (fun v x rx hx h tk kp => ?_) (fun out c2 h3 tk kp fr get len each => ?_)
    · obtain ⟨x, _, rfl⟩ := List.mem_map.mp hd
      obtain ⟨x', _, rfl⟩ := List.mem_map.mp hd'
      rfl
    · obtain ⟨x, _, rfl⟩ := List.mem_map.mp hd
      exact ⟨(fun z => nomatch z), fun xs z => nomatch z⟩
    · have := hr.un
      show X.A.units + 2 + _ < cLine
      simp only [PyData.depth]
      omega
    · obtain ⟨t, zs, rfl, hsq, hat⟩ := hk1 x hx
      obtain rfl : v = Value.ref t := rx
      obtain ⟨its', rv', pl, hz'⟩ := I2.tuple (sqT_ext hsq eN)
      obtain ⟨j, j1, j2, j3, j4, j5⟩ := atI_get hat
      obtain ⟨w', ew, rw'⟩ := rv'.get j2
      obtain ⟨tk', rfl⟩ : ∃ tk', w' = .int (g (.ref t)) tk' := rw'
      have hl' := rv'.length
      have hn := line63
      refine lam_key (s := { s2 with heap := h, toks := tk }) (j := j) (its := its'.toArray) (hr.in1.in1.depth) (lim2.keeps kp) (kp _ _ hf) ?_ hco hgen hk hnc hy hd (fun u => hb _ _ _ _ u) (IsTup.keeps pl kp) (by rw [List.size_toArray, ← hl']; exact j1) (by omega) (by omega) (by simpa using ew)
      obtain ⟨⟨oc, vs, t', hoc, hdc, hvc⟩, _⟩ := I2.hok c' _ hco2
      exact ⟨c', oc, vs, t', rfl, kp _ _ hoc, hdc, hvc⟩
    · rw [PySem.W.dataLe_int] at each
      refine ⟨.ref _, upd H2 (s2.heap.objs.size + 1) (.lst (xs.mergeSort fun u v => decide (g u ≤ g v))), I2.laid (t' := tk) kp (Nat.le_succ _) ⟨by rw [List.length_mergeSort]; exact hz, _, c2, vals_each each, get⟩, rfl, q _ _ eN T2 (I2.hok.fresh (Nat.le_succ _))⟩
end
end KLam
set_option Elab.async false
set_option linter.all false
set_option maxRecDepth 100000
set_option maxHeartbeats 8000000
/-! Waits apart: the lambda's table is written. -/
namespace K18
open PySem PySem.Spec PyProof.Rows L2 KB LamX
abbrev cA (K : PySem.W.Frag) : Addr := (He.cT K ("apart_of", none)).1
abbrev tA (K : PySem.W.Frag) : Addr := (He.cT K ("apart_of", none)).2
/-- the table of the only lambda -/
abbrev TbK (K : PySem.W.Frag) : List (Addr × Str) := [(tA K, "apart_of.<locals>.<lambda>")]
/-- a def whose code object is known -/
theorem okT {P : Program} {w : World} {K : PySem.W.Frag} {mg : Str → Option Value} {base : Heap} {x qual : Str} {params : Arguments} {body : List Stmt} {scope : Scope} {dvs : List V} {kws : List (Str × V)} {dn : Str} {fd : FuncData} {CX : CXT} {N ps : List Str} {k : Nat} {sp : Sp}
    (F : FunD K x qual params body scope dvs kws (He.ga K dn) fd) (S : FnScope N ps scope) (len : ∀ (vs : List V) (H : Hp) (Q : VK) (E : XK), sp vs H Q E → vs.length = ps.length)
    (hbody : ∀ (A : Around) (outer : List Env) (s : Shared) (H : Hp) (vs : List V) (Q : VK) (E : XK), Room k (A.deeper (envOfC qual scope s.heap.objs.size (He.ga K dn) (.ref (He.codeOf K (dn, none))))) → sp vs H Q E →
      ∃ t, PSs (cxOf CX P w K mg base N qual scope (He.ga K dn) (.ref (He.codeOf K (dn, none))) A outer s H E) body t ∧ t { nx := fun x H' => Q V.non H', rt := Q } (L2.start N vs) H) :
    FnOk P w K mg base CX (k + 1) (He.ga K dn) fd ps sp := by
  obtain ⟨oc, od, dV, kV, doc, pm, an, cdv, ct, osl, rfl, lk, hcd, _, _⟩ := F.ex
  obtain ⟨c, rfl⟩ := He.codeIn_ref hcd
  have e : He.codeOf K (dn, none) = c := He.codeOf_eq (p := (dn, none)) lk rfl
  subst e
  exact fn_of lk hcd S len fun A outer s H vs Q E hr hsp => hbody A outer s H vs Q E hr hsp
theorem tabs_same {K : PySem.W.Frag} {H H' : Hp} (k : Same H H') (h : Tabs (TbK K) H) : Tabs (TbK K) H' := h.ext k
theorem tabs_but {K : PySem.W.Frag} {pu : Addr} {H H' : Hp} (k : But pu H H') (hp : ∃ xs, H pu = some (.lst xs)) (h : Tabs (TbK K) H) : Tabs (TbK K) H' := fun p hm => by
  obtain ⟨xs, hp⟩ := hp
  obtain ⟨ps, h1, h2, h3⟩ := h p hm
  refine ⟨ps, k _ _ (fun z => ?_) h1, h2, fun pos cv hc => ?_⟩
  · rw [z, hp] at h1
    cases h1
  · obtain ⟨c, e1, e2⟩ := h3 pos cv hc
    refine ⟨c, e1, k _ _ (fun z => ?_) e2⟩
    rw [z, hp] at e2
    cases e2
/-- all but p and the tables stays -/
def ButN (p : Addr) (H H' : Hp) : Prop := ∀ b o, b ≠ p → H b = some o → (∀ ps, o ≠ .tbl ps) → H' b = some o
theorem ButN.of {p : Addr} {H H' : Hp} (k : But p H H') : ButN p H H' := fun b o n e _ => k b o n e
theorem ButN.ofN {p : Addr} {H H' : Hp} (k : ExtN H H') : ButN p H H' := fun b o _ e t => k b o e t
theorem ButN.trans {p : Addr} {H H1 H2 : Hp} (a : ButN p H H1) (b : ButN p H1 H2) : ButN p H H2 := fun x o n e t => b x o n (a x o n e t) t
theorem butN_off {p : Addr} {H H' : Hp} (k : ButN p H H') : ExtN (off H p) (off H' p) := fun c o e t => by
  unfold off at *
  by_cases h : c = p
  · rw [if_pos h] at e
    cases e
  · rw [if_neg h] at e ⊢
    exact k _ _ h e t
theorem LsT.app {K : PySem.W.Frag} {α : Type} {vv : α → List V} {G : Hp} {q : Addr} {xs : List α} (h : LsT K vv G q xs) {t : Addr} {x : α} (ht : SqT K G t (vv x)) : ∃ ys, G q = some (.lst ys) ∧ ys.length = xs.length ∧ LsT K vv (upd G q (.lst (ys ++ [.ref t]))) q (xs ++ [x]) := by
  obtain ⟨us, hus, lus, kus⟩ := h
  have b : But q G (upd G q (.lst (us.map V.ref ++ [.ref t]))) := fun c o n e => by
    rw [upd_ne n]
    exact e
  refine ⟨_, hus, by rw [List.length_map, lus], us ++ [t], by rw [upd_same, List.map_append]; rfl, by rw [List.length_append, List.length_append, lus]; rfl, fun i u y e1 e2 => ?_⟩
  rcases Nat.lt_or_ge i us.length with c | c
  · rw [List.getElem?_append_left c] at e1
    rw [List.getElem?_append_left (by omega)] at e2
    exact SqT_but b (kus i u y e1 e2) ⟨_, hus⟩
  · rw [List.getElem?_append_right c] at e1
    rw [List.getElem?_append_right (by omega)] at e2
    have hi : i - us.length = 0 := by
      have := (List.getElem?_eq_some_iff.mp e1).1
      simp at this
      omega
    rw [hi] at e1
    rw [show i - xs.length = 0 by omega] at e2
    cases e1
    cases e2
    exact SqT_but b ht ⟨_, hus⟩
/-- new, or a table -/
def NewN (H : Hp) (q : Addr) : Prop := ∀ o, H q = some o → ∃ ps, o = .tbl ps
theorem NewN.of {H : Hp} {q : Addr} (h : H q = none) : NewN H q := fun o e => by rw [h] at e; cases e
theorem NewN.back {H H' : Hp} {q : Addr} (k : ExtN H H') (h : NewN H' q) : NewN H q := fun o e => by
  cases o with
  | tbl ps => exact ⟨ps, rfl⟩
  | _ => exact (h _ (k _ _ e (fun ps z => by cases z)))
theorem NewN.ne {H : Hp} {q a : Addr} {xs : List V} (h : NewN H q) (e : H a = some (.lst xs)) : a ≠ q := fun z => by
  rw [z] at e
  obtain ⟨ps, z⟩ := h _ e
  cases z
theorem fm_congr {α β : Type} {f g : α → Option β} : ∀ {l : List α}, (∀ x ∈ l, f x = g x) → l.filterMap f = l.filterMap g
  | [], _ => rfl
  | a :: l, h => by
    rw [List.filterMap_cons, List.filterMap_cons, h a (List.mem_cons_self ..), fm_congr fun x hx => h x (List.mem_cons_of_mem _ hx)]
theorem fm_all {α β : Type} (f : α → β) : ∀ (l : List α), (List.range l.length).filterMap (fun i => (l[i]?).map f) = l.map f
  | [] => rfl
  | x :: r => by
    rw [List.length_cons, List.range_succ_eq_map, List.filterMap_cons, List.filterMap_map]
    show f x :: (List.range r.length).filterMap (fun i => (r[i]?).map f) = _
    rw [fm_all f r]
    rfl
def spApart (K : PySem.W.Frag) : Sp := fun vs H Q _ => ∃ (b : Addr) (ws : List (Nat × Nat)), vs = [.ref b] ∧ WtAt K H b ws ∧ ws.length ≤ 1000 ∧ Tabs (TbK K) H ∧ ∀ q H', ExtN H H' → Tabs (TbK K) H' → NewN H q → WtAt K H' q (apart ws) → Q (.ref q) H'
def spEnds (K : PySem.W.Frag) : Sp := fun vs H Q _ => ∃ (b : Addr) (ws : List (Nat × Nat)), vs = [.ref b] ∧ WtAt K H b ws ∧ ws.length ≤ 1000 ∧ Tabs (TbK K) H ∧ ∀ q H', ExtN H H' → Tabs (TbK K) H' → NewN H q → H' q = some (.lst (numsV (ends ws))) → Q (.ref q) H'
section
variable {P : Program} {w : World} {K : PySem.W.Frag} {mg : Str → Option Value} {base : Heap}
abbrev s_apart_of : Stmt := top 22
abbrev N_apart_of : List Str := ["waits", "found", "last", "early", "late"]
theorem sc_apart_of : FnScope N_apart_of ["waits"] (defScope s_apart_of) := ⟨rfl, rfl, rfl, by decide +kernel, rfl, by decide +kernel, by decide +kernel⟩
theorem ok_apart_of {fd : FuncData} (F : FnP K "apart_of" s_apart_of (He.ga K "apart_of") fd) (Z : FreeS mg) (TB : TabB base mg (cA K) (tA K)) :
    FnOk P w K mg base CX0 4 (He.ga K "apart_of") fd ["waits"] (spApart K) := by
  refine okT F sc_apart_of (fun vs H Q E h => ?_) (fun A outer s H vs Q E hr h => ?_)
  · obtain ⟨b, ws, rfl, _⟩ := h
    rfl
  · obtain ⟨b, ws, rfl, hW, l1000, hT, k⟩ := h
    obtain ⟨ts, hb, lt, ht⟩ := id hW.ex
    have sl : (3000 : Nat) ≤ sizeLine := by decide
    have nd := sc_apart_of.nd
    refine ⟨_, PSs.nox (pss_cons (ps_set (i := 1) nd rfl (Or.inl rfl) (pe_lst (pa_nil)))
      (pss_cons (ps_set (i := 2) nd rfl (Or.inl rfl) (pe_int))
      (pss_cons (ps_for PassesOwn.never rfl (pi_list (KLam.pe_sortedLamP (j := 0) (T := TbK K) (c := cA K) (P := tA K) (pv 0) (by rfl) Z.sorted TB rfl (List.mem_singleton.mpr rfl) (fun q h _ => by rw [List.mem_singleton.mp h]; rfl) (hr.mono (by decide)) rfl rfl (by decide) rfl rfl rfl (by decide) rfl (by decide) (fun _ _ _ _ _ => rfl))) (pg_tup rfl (pgs_cons (pg_name (i := 3) nd rfl (Or.inl rfl)) (pgs_cons (pg_name (i := 4) nd rfl (Or.inl rfl)) (pgs_nil))))
        (pss_one (ps_if (pt_cmpR op_ge (pv 3) (pv 2) (nomark _)) (pss_cons (ps_expr (pe_bm PySem.F.plainAttrs_list PySem.F.slot_list_append PySem.F.type_list_append mt_append (pv 1) (pa_cons (pe_tup (pa_cons (pv 3) (pa_cons (pv 4) (pa_nil)))) (pa_nil))))
      (pss_one (ps_set (i := 2) nd rfl (Or.inl rfl) (pv 4)))) (pss_nil))))
      (pss_one (ps_ret (pv 1)))))), ?_⟩
    refine ⟨(by show 0 ≤ sizeLine; omega), fun q hq => ?_⟩
    have s1 := Same.updf (o := .lst []) hq
    obtain ⟨G0, eG0⟩ : ∃ X, X = upd H q (.lst []) := ⟨_, rfl⟩
    have hq0 : G0 q = some (.lst []) := by rw [eG0]; exact upd_same
    rw [← eG0] at s1 ⊢
    clear eG0
    obtain ⟨zw, ezw⟩ : ∃ z, z = ts.zip ws := ⟨_, rfl⟩
    have z1 : zw.map Prod.fst = ts := by rw [ezw, List.map_fst_zip (by omega)]
    have z2 : zw.map Prod.snd = ws := by rw [ezw, List.map_snd_zip (by omega)]
    have zm : ∀ p ∈ zw, SqT K H p.1 (wv p.2) := fun p hp => by
      obtain ⟨i, hi, rfl⟩ := List.getElem_of_mem hp
      refine ht i _ _ ?_ ?_
      · rw [← z1, List.getElem?_map, List.getElem?_eq_getElem hi]
        rfl
      · rw [← z2, List.getElem?_map, List.getElem?_eq_getElem hi]
        rfl
    have zl : zw.length = ws.length := by rw [← z2, List.length_map]
    refine ⟨_, rfl, tabs_same s1 hT, b, zw.map fun p => (.ref p.1, (p.2.2 : Int)), rfl, ?_, fun p hp => ?_, fun G1 r e1 T1 n1 => ?_⟩
    · rw [List.map_map, show (Prod.fst ∘ fun p : Addr × (Nat × Nat) => (V.ref p.1, (p.2.2 : Int))) = (V.ref ∘ Prod.fst) from rfl, ← List.map_map, z1]
      exact SqL.of (s1 _ _ hb)
    · obtain ⟨p', hp', rfl⟩ := List.mem_map.mp hp
      exact ⟨p'.1, wv p'.2, rfl, SqT_up s1 (zm p' hp'), atI_nat (j := 1) rfl⟩
    obtain ⟨zs, ezs⟩ : ∃ z, z = zw.mergeSort fun u v => decide (u.2.2 ≤ v.2.2) := ⟨_, rfl⟩
    have el : ((zw.map fun p => (V.ref p.1, (p.2.2 : Int))).mergeSort fun u v => decide (u.2 ≤ v.2)).map Prod.fst = (zs.map Prod.fst).map V.ref := by
      rw [ezs, ← List.map_mergeSort (r := fun u v : Addr × (Nat × Nat) => decide (u.2.2 ≤ v.2.2)) (f := fun p : Addr × (Nat × Nat) => (V.ref p.1, (p.2.2 : Int))) (fun u _ v _ => by rw [decide_eq_decide]; omega), List.map_map, List.map_map]
      rfl
    have eb : zs.map Prod.snd = byEnd ws := by
      rw [ezs, List.map_mergeSort (s := fun u v : Nat × Nat => decide (u.2 ≤ v.2)) (fun u _ v _ => rfl), z2]
      rfl
    have zsm : ∀ p ∈ zs, SqT K H p.1 (wv p.2) := fun p hp => zm p (by rw [ezs] at hp; exact List.mem_mergeSort.mp hp)
    have zsl : zs.length = ws.length := by rw [ezs, List.length_mergeSort, zl]
    rw [el]
    have sr := Same.updf (o := .lst ((zs.map Prod.fst).map V.ref)) n1
    have e2 : ExtN G0 (upd G1 r (.lst ((zs.map Prod.fst).map V.ref))) := e1.trans (ExtN.of sr)
    have T2 := tabs_same sr T1
    have hr2 := upd_same (H := G1) (a := r) (o := .lst ((zs.map Prod.fst).map V.ref))
    obtain ⟨G2, eG2⟩ : ∃ X, X = upd G1 r (.lst ((zs.map Prod.fst).map V.ref)) := ⟨_, rfl⟩
    rw [← eG2] at e2 T2 hr2 ⊢
    clear eG2 sr
    have hq2 : G2 q = some (.lst []) := e2 _ _ hq0 fun ps z => by cases z
    have nrq : r ≠ q := fun z => by
      rw [z, e1 _ _ hq0 (fun ps z => by cases z)] at n1
      cases n1
    refine ⟨r, rfl, ⟨_, SqL.of hr2⟩, ?_⟩
    have bl : (byEnd ws).length = ws.length := List.length_mergeSort _
    refine for_list (xs := (zs.map Prod.fst).map V.ref) (fun i σ G => But q G2 G ∧ ∃ (last : Nat) (acc : List (Nat × Nat)) (v3 v4 : Option V), apart ws = acc ++ greedy last ((byEnd ws).drop i) ∧ acc.length ≤ i ∧ WtAt K G q acc ∧ σ = [some (.ref b), some (.ref q), some (.int (last : Int)), v3, v4])
      ⟨But.refl _ _, 0, [], none, none, rfl, Nat.le_refl _, LsT.nil hq2, rfl⟩ (fun i σ G _ hh => SqL.of (hh.1 _ _ nrq hr2)) ?_ ?_
    · rintro i y σ G hy ⟨bG, last, acc, v3, v4, ea, la, hA, rfl⟩
      have hi : i < zs.length := by
        have := (List.getElem?_eq_some_iff.mp hy).1
        rw [List.length_map, List.length_map] at this
        exact this
      rw [List.getElem?_map, List.getElem?_map, List.getElem?_eq_getElem hi] at hy
      obtain rfl : V.ref zs[i].1 = y := Option.some.inj hy
      have hw0 := KLam.sqT_ext (SqT_up s1 (zsm _ (List.getElem_mem hi))) e2
      have hw : SqT K G zs[i].1 (wv zs[i].2) := SqT_but bG hw0 ⟨_, hq2⟩
      have ei : (byEnd ws).drop i = zs[i].2 :: (byEnd ws).drop (i + 1) := by
        rw [← eb, List.drop_eq_getElem_cons (by rw [List.length_map]; exact hi), List.getElem_map]
      rw [ei] at ea
      refine ⟨zs[i].1, [_, _], rfl, hw, rfl, _, [_], rfl, _, [], rfl, rfl, ?_⟩
      refine ⟨_, rfl, _, rfl, _, _, rfl, rfl, _, rfl, ?_⟩
      by_cases c : last ≤ zs[i].2.1
      · have eg : greedy last (zs[i].2 :: (byEnd ws).drop (i + 1)) = zs[i].2 :: greedy zs[i].2.2 ((byEnd ws).drop (i + 1)) := if_pos c
        rw [eg] at ea
        refine iteP (by omega) ?_
        obtain ⟨ys, y1, y2, _⟩ := hA.app hw
        refine ⟨_, rfl, Or.inl ⟨rfl, _, SqL.of y1⟩, _, rfl, _, rfl, (by show 2 ≤ sizeLine; omega), fun T hT => ?_⟩
        have sT := Same.updf (o := .tup [V.int (zs[i].2.1 : Int), V.int (zs[i].2.2 : Int)]) hT
        obtain ⟨ys', y1', y2', hA'⟩ := (hA.same sT).app (t := T) (x := zs[i].2) (SqT.of upd_same)
        refine ⟨q, _, _, rfl, rfl, y1', by omega, ?_⟩
        refine ⟨_, rfl, (bG.trans (But.of sT)).trans (fun c o n e => by rw [upd_ne n]; exact e), zs[i].2.2, acc ++ [zs[i].2], _, _, by rw [ea, List.append_assoc]; rfl, by rw [List.length_append]; show _ + 1 ≤ _; omega, hA', rfl⟩
      · have eg : greedy last (zs[i].2 :: (byEnd ws).drop (i + 1)) = greedy last ((byEnd ws).drop (i + 1)) := if_neg c
        rw [eg] at ea
        exact iteQ (by omega) ⟨bG, last, acc, _, _, ea, by omega, hA, rfl⟩
    · rintro σ G ⟨bG, last, acc, v3, v4, ea, la, hA, rfl⟩
      rw [List.length_map, List.length_map, List.drop_of_length_le (by omega), show greedy last [] = [] from rfl, List.append_nil] at ea
      rw [← ea] at hA
      refine ⟨_, rfl, k q G (fun c o e nt => ?_) (tabs_but bG ⟨_, hq2⟩ T2) (NewN.of hq) hA⟩
      exact bG _ _ (ne_of_none e hq) (e2 _ _ (s1 _ _ e) nt)
abbrev s_ends_of : Stmt := top 23
abbrev N_ends_of : List Str := ["waits", "early", "late"]
theorem sc_ends_of : FnScope N_ends_of ["waits"] (defScope s_ends_of) := ⟨rfl, rfl, rfl, by decide +kernel, rfl, by decide +kernel, by decide +kernel⟩
theorem ok_ends_of {f : Addr} {fd : FuncData} (F : FnP K "ends_of" s_ends_of f fd) (Z : FreeS mg)
    {f_apart_of : Addr} {d_apart_of : FuncData} (g_apart_of : mg "apart_of" = some (.ref f_apart_of)) (F_apart_of : FnP K "apart_of" s_apart_of f_apart_of d_apart_of) (G_apart_of : FnOk P w K mg base CX0 4 f_apart_of d_apart_of ["waits"] (spApart K)) :
    FnOk P w K mg base CX0 5 f fd ["waits"] (spEnds K) := by
  have b_apart_of : Binds K d_apart_of ["waits"] [] := F_apart_of.bindsN fun _ _ _ _ _ _ us hl => match us, hl with | [_], _ => rfl
  refine F.ok sc_ends_of (fun vs H Q E h => ?_) (fun cdv A outer s H vs Q E hr h => ?_)
  · obtain ⟨b, ws, rfl, _⟩ := h
    rfl
  · obtain ⟨b, ws, rfl, hW, l1000, hT, k⟩ := h
    have sl : (3000 : Nat) ≤ sizeLine := by decide
    have nd := sc_ends_of.nd
    refine ⟨_, PSs.nox (pss_one (ps_ret (pe_lc (own := [("early", 1), ("late", 2)]) (g := gTup K 2 (gCons (gName 1) (gCons (gName 2) (gNil)))) (tt := tYes) (te := tVar 2) (by rfl) nd (pi_list (pe_call G_apart_of (hr.mono (by decide)) rfl g_apart_of F_apart_of.kp b_apart_of .nil pass0 (pa_cons (pv 0) (pa_nil))))
          (blkOk_by (own := [("early", 1), ("late", 2)]) (N := N_ends_of) (sc := defScope s_ends_of) (by decide +kernel)) (fun _ _ _ _ _ => pg_tup rfl (pgs_cons (pg_name (i := 1) nd rfl (Or.inl rfl)) (pgs_cons (pg_name (i := 2) nd rfl (Or.inl rfl)) (pgs_nil)))) (fun _ _ _ _ _ => pts_nil)
          (fun _ _ _ _ _ => pv 2)))), ?_⟩
    refine ⟨_, rfl, b, ws, rfl, hW, l1000, hT, fun q G eG TG nq hA => ?_⟩
    obtain ⟨ts, hq, lt, ht⟩ := hA.got
    have la : (apart ws).length ≤ 1000 := by
      have := (greedy_sub (byEnd ws) 0).length_le
      have bl : (byEnd ws).length = ws.length := List.length_mergeSort _
      unfold apart
      omega
    refine ⟨q, rfl, ⟨_, SqL.of hq⟩, fun D hD => ?_⟩
    refine lc_sel (n := (apart ws).length) (by have := walk_list (K := K) (a := q) (xs := ts.map V.ref); rw [List.length_map, lt] at this; exact this) (fun i => ((apart ws)[i]?).map fun w => .int (w.2 : Int)) (by omega) hD (fun G2 s => SqL.of (s _ _ hq)) ?_ ?_
    · rintro i v H2 H3 Qy Qn hi sH ⟨rfl, hv⟩ ky kn
      obtain ⟨t, e1, e2⟩ := ht i hi
      rw [e1] at hv
      obtain rfl : V.ref t = v := Option.some.inj hv
      refine ⟨t, [_, _], rfl, SqT_up sH e2, rfl, _, [_], rfl, _, [], rfl, rfl, ?_⟩
      exact ⟨rfl, _, rfl, ky _ _ (Same.refl _) (by rw [List.getElem?_eq_getElem hi]; rfl)⟩
    · intro H2 s2 hR
      refine k D H2 (eG.trans (ExtN.of s2)) (tabs_same s2 TG) (NewN.back eG (NewN.of hD)) ?_
      rw [hR, fm_all (fun w : Nat × Nat => V.int (w.2 : Int)) (apart ws)]
      unfold ends numsV
      rw [List.map_map]
      rfl
end
end K18
set_option Elab.async false
set_option linter.all false
set_option maxRecDepth 100000
set_option maxHeartbeats 4000000
/-! set() of a list of whole numbers, what is in it. -/
namespace KB
open PySem PySem.Spec PyProof.Rows L2
/-- the set of the ints of a list -/
def SetJ (P : Program) (w : World) (a : Addr) (S : Int → Bool) : HO := .ext fun h => ∃ n, h.SetOf (intKind P w) a S n
section
variable {X : Cx}
/-- set(xs), xs a list of ints -/
def rSetJ (P : Program) (w : World) (K : PySem.W.Frag) : List V → Hp → VK → Prop := fun xs H Q => ∃ (l : Addr) (ns : List Int), xs = [.ref l] ∧ SqL K H l (ns.map V.int) ∧ ns.length < 1000 ∧
  ∀ (p : Addr) (S : Int → Bool), H p = none → (∀ k, S k = ns.any (· == k)) → Q (.ref p) (upd H p (SetJ P w p S))
theorem cr_setJ (hc : X.calm = true) : CallR X (.type "set") (rSetJ X.prog X.w X.K) := by
  intro pins s σ H xs us Q I r h
  obtain ⟨l, ns, rfl, hs, hl, q⟩ := h
  obtain ⟨its, rv, hls, _⟩ := I.list hs
  rw [Vals.ref1 r]
  have hlen : its.length = ns.length := by rw [← rv.length, List.length_map]
  have hsz : its.toArray.size = ns.length := by rw [List.size_toArray, hlen]
  refine call_set_list (I.ok.hd hc) hls.isList (ns := ns) (by simpa using Vals.ints rv) (by rw [hsz]; show ns.length + 1 < 4096; omega) fun h' tk hS hk => ?_
  have ho : ∃ o, h'.get? s.heap.objs.size = some o := by
    obtain ⟨o, _, _, _, ho, _⟩ := hS
    exact ⟨o, ho⟩
  refine ⟨.ref _, upd H s.heap.objs.size (SetJ X.prog X.w s.heap.objs.size _), I.laid (t' := tk) (a := s.heap.objs.size) (fun b u e => hk b u (Heap.lt_size e) e) (Nat.le_refl _) ⟨⟨_, hS⟩, ho, fun h1 h2 p k => ?_⟩, rfl, q _ _ (I.hok.fresh (Nat.le_refl _)) fun k => ?_⟩
  · obtain ⟨n, o, es, ep, t, e, r⟩ := p
    exact ⟨n, o, es, ep, t, k _ e, r⟩
  · rw [firstMet_any, hsz]
    have e : (List.range ns.length).map (fun i => ns.getD i 0) = ns := by
      refine List.ext_getElem? fun j => ?_
      rw [List.getElem?_map]
      by_cases hj : j < ns.length
      · rw [List.getElem?_range hj, List.getElem?_eq_getElem hj]
        show some (ns.getD j 0) = some ns[j]
        rw [List.getD_eq_getElem?_getD, List.getElem?_eq_getElem hj]
        rfl
      · rw [List.getElem?_eq_none (by rw [List.length_range]; omega), List.getElem?_eq_none (by omega)]
        rfl
    rw [e]
/-- k in such a set -/
def rInJ (P : Program) (w : World) : R2 := fun x y H Q => ∃ k a S, x = V.int k ∧ y = V.ref a ∧ H a = some (SetJ P w a S) ∧ Q (.bl (S k)) H
theorem op_inJ : OpR X (compareOp .In) (rInJ X.prog X.w) := by
  intro pins s σ H x y v u Q I rx ry h
  obtain ⟨k, a, S, rfl, rfl, ha, q⟩ := h
  obtain ⟨tk, rfl⟩ := rx
  cases ry
  obtain ⟨⟨n, hS⟩, _⟩ := I.hok a _ ha
  exact wpAny_inSet_of (intKind_is _ _ _ _) rfl hS ⟨.bl (S k), H, I.tok _, rfl, q⟩
end
end KB
set_option Elab.async false
set_option linter.all false
set_option maxRecDepth 100000
set_option maxHeartbeats 8000000
/-! Barriers put in. -/
namespace K18
open PySem PySem.Spec PyProof.Rows L2 KB LamX
/-- ascending places of a run -/
structure PlOk (n : Nat) (P : List Nat) : Prop where
  asc : P.Pairwise (· < ·)
  lt : ∀ p ∈ P, p < n
theorem PlOk.nd {n : Nat} {P : List Nat} (h : PlOk n P) : P.Nodup := List.nodup_iff_pairwise_ne.mpr (h.asc.imp fun h => Nat.ne_of_lt h)
def spBroken (K : PySem.W.Frag) : Sp := spBrokenW K
def spNeedPl (K : PySem.W.Frag) : Sp := fun vs H Q _ => ∃ (a c : Addr) (es : List Ev) (P : List Nat), vs = [.ref a, .ref c] ∧ RunOk K H a es ∧ H c = some (.lst (numsV P)) ∧ PlOk es.length P ∧ P.length ≤ 1000 ∧ ∀ H', Same H H' → Q .non H'
def spThese (K : PySem.W.Frag) : Sp := fun vs H Q _ => ∃ (a b c : Addr) (es : List Ev) (ws : List (Nat × Nat)) (P : List Nat), vs = [.ref a, .ref b, .ref c] ∧ RunOk K H a es ∧ WtAt K H b ws ∧ (∀ w ∈ ws, w.1 < es.length ∧ w.2 < es.length) ∧ ws.length ≤ 1000 ∧ H c = some (.lst (numsV P)) ∧ PlOk es.length P ∧
  ∀ t q r H', Same H H' → H q = none → H r = none → H' t = some (.tup [.ref q, .ref r]) → RunAt K H' q (wr es P es.length) → WtAt K H' r (movedL P ws) → Q (.ref t) H'
def spFor (K : PySem.W.Frag) : Sp := fun vs H Q _ => ∃ (a b : Addr) (es : List Ev) (ws : List (Nat × Nat)), vs = [.ref a, .ref b] ∧ RunOk K H a es ∧ WtOk K H b es ws ∧ Tabs (TbK K) H ∧ ∀ q H', ExtN H H' → Tabs (TbK K) H' → NewN H q → H' q = some (.lst (numsV (ends (brokenL es ws)))) → Q (.ref q) H'
def spWithB (K : PySem.W.Frag) : Sp := fun vs H Q _ => ∃ (a c : Addr) (es : List Ev) (P : List Nat), vs = [.ref a, .ref c] ∧ RunOk K H a es ∧ H c = some (.lst (numsV P)) ∧ PlOk es.length P ∧
  ∀ q H', Same H H' → H q = none → RunAt K H' q (wr es P es.length) → Q (.ref q) H'
def spThen (K : PySem.W.Frag) : Sp := fun vs H Q _ => ∃ (a b c : Addr) (es : List Ev) (ws : List (Nat × Nat)) (P : List Nat), vs = [.ref a, .ref b, .ref c] ∧ RunOk K H a es ∧ WtOk K H b es ws ∧ H c = some (.lst (numsV P)) ∧ PlOk es.length P ∧
  ∀ q H', Same H H' → H q = none → WtAt K H' q (movedL P ws) → Q (.ref q) H'
def bareL (es : List Ev) : List Ev := es.filter fun e => decide (e ≠ .bar)
def spBare (K : PySem.W.Frag) : Sp := fun vs H Q _ => ∃ (a : Addr) (es : List Ev), vs = [.ref a] ∧ RunOk K H a es ∧ ∀ q H', Same H H' → H q = none → RunAt K H' q (bareL es) → Q (.ref q) H'
def spPlaces (K : PySem.W.Frag) : Sp := fun vs H Q _ => ∃ (a : Addr) (es : List Ev), vs = [.ref a] ∧ RunOk K H a es ∧ ∀ q H', Same H H' → H q = none → H' q = some (.lst (numsV (bars es))) → Q (.ref q) H'
theorem asc_len : ∀ {P : List Nat} {b n : Nat}, P.Pairwise (· < ·) → (∀ p ∈ P, b ≤ p ∧ p < n) → P.length ≤ n - b
  | [], _, _, _, _ => Nat.zero_le _
  | x :: r, b, n, h, k => by
    obtain ⟨h1, h2⟩ := List.pairwise_cons.mp h
    have hx := k x List.mem_cons_self
    have := asc_len (b := x + 1) (n := n) h2 fun p hp => ⟨h1 p hp, (k p (List.mem_cons_of_mem _ hp)).2⟩
    rw [List.length_cons]
    omega
theorem PlOk.len {n : Nat} {P : List Nat} (h : PlOk n P) : P.length ≤ n := asc_len (b := 0) h.asc fun p hp => ⟨Nat.zero_le _, h.lt p hp⟩
theorem SqT_off {K : PySem.W.Frag} {G H : Hp} {t D : Addr} {xs : List V} (h : SqT K G t xs) (k : Same G H) (n : G D = none) : SqT K (off H D) t xs := by
  rcases h with (h | ⟨o, h⟩) | h
  · exact .inl (.inl (by rw [off_at (ne_of_none h n)]; exact k _ _ h))
  · exact .inl (.inr ⟨o, by rw [off_at (ne_of_none h n)]; exact k _ _ h⟩)
  · exact .inr h
theorem LsT.but {K : PySem.W.Frag} {α : Type} {vv : α → List V} {H H' : Hp} {a p : Addr} {xs : List α} (k : But p H H') (n : a ≠ p) (hp : ∃ ys, H p = some (.lst ys)) (h : LsT K vv H a xs) : LsT K vv H' a xs := by
  obtain ⟨ts, h1, h2, h3⟩ := h
  exact ⟨ts, k _ _ n h1, h2, fun i t e e1 e2 => SqT_but k (h3 i t e e1 e2) hp⟩
theorem But.upd' {p : Addr} {H : Hp} {o : HO} : But p H (upd H p o) := fun c o' n e => by
  rw [upd_ne n]
  exact e
theorem any_contains (P : List Nat) (i : Nat) : (P.map fun x : Nat => (x : Int)).any (· == (i : Int)) = P.contains i := by
  rw [List.any_map, Bool.eq_iff_iff, List.any_eq_true, List.contains_iff_mem]
  constructor
  · rintro ⟨x, hx, e⟩
    have : (x : Int) = (i : Int) := by simpa using e
    rw [show i = x by omega]
    exact hx
  · intro h
    exact ⟨i, h, by simp⟩
theorem wr_len2 {es : List Ev} {P : List Nat} (nd : P.Nodup) {i : Nat} (h : i ≤ es.length) (l : P.length ≤ es.length) : (wr es P i).length ≤ 2 * es.length := by
  rw [wr_len nd i h]
  have := List.length_filter_le (fun p => decide (p < i)) P
  omega
section
variable {P : Program} {w : World} {K : PySem.W.Frag} {mg : Str → Option Value} {base : Heap}
abbrev s_broken : Stmt := top 25
abbrev N_broken : List Str := ["run", "waits"]
theorem sc_broken : FnScope N_broken ["run", "waits"] (defScope s_broken) := ⟨rfl, rfl, rfl, by decide +kernel, rfl, by decide +kernel, by decide +kernel⟩
theorem ok_broken {f : Addr} {fd : FuncData} (F : FnP K "broken" s_broken f fd) (Z : FreeS mg)
    {f_need_run : Addr} {d_need_run : FuncData} (g_need_run : mg "need_run" = some (.ref f_need_run)) (F_need_run : FnP K "need_run" s_need_run f_need_run d_need_run) (G_need_run : FnOk P w K mg base CX0 5 f_need_run d_need_run ["run"] (spNeedRun K))
    {f_need_waits : Addr} {d_need_waits : FuncData} (g_need_waits : mg "need_waits" = some (.ref f_need_waits)) (F_need_waits : FnP K "need_waits" s_need_waits f_need_waits d_need_waits) (G_need_waits : FnOk P w K mg base CX0 6 f_need_waits d_need_waits ["run", "waits"] (spNeedWaits K))
    {f_broken_waits : Addr} {d_broken_waits : FuncData} (g_broken_waits : mg "broken_waits" = some (.ref f_broken_waits)) (F_broken_waits : FnP K "broken_waits" s_broken_waits f_broken_waits d_broken_waits) (G_broken_waits : FnOk P w K mg base CX0 2 f_broken_waits d_broken_waits ["run", "waits"] (spBrokenW K)) :
    FnOk P w K mg base CX0 7 f fd ["run", "waits"] (spBroken K) := by
  have b_need_run : Binds K d_need_run ["run"] [] := F_need_run.bindsN fun _ _ _ _ _ _ us hl => match us, hl with | [_], _ => rfl
  have b_need_waits : Binds K d_need_waits ["run", "waits"] [] := F_need_waits.bindsN fun _ _ _ _ _ _ us hl => match us, hl with | [_, _], _ => rfl
  have b_broken_waits : Binds K d_broken_waits ["run", "waits"] [] := F_broken_waits.bindsN fun _ _ _ _ _ _ us hl => match us, hl with | [_, _], _ => rfl
  refine F.ok sc_broken (fun vs H Q E h => ?_) (fun cdv A outer s H vs Q E hr h => ?_)
  · obtain ⟨a, b, es, ws, rfl, _⟩ := h
    rfl
  · obtain ⟨a, b, es, ws, rfl, hR, hW, k⟩ := h
    have nd := sc_broken.nd
    refine ⟨_, PSs.nox (pss_cons (ps_expr (pe_call G_need_run (hr.mono (by decide)) rfl g_need_run F_need_run.kp b_need_run .nil pass0 (pa_cons (pv 0) (pa_nil))))
      (pss_cons (ps_expr (pe_call G_need_waits (hr.mono (by decide)) rfl g_need_waits F_need_waits.kp b_need_waits .nil pass0 (pa_cons (pv 0) (pa_cons (pv 1) (pa_nil)))))
      (pss_one (ps_ret (pe_call G_broken_waits (hr.mono (by decide)) rfl g_broken_waits F_broken_waits.kp b_broken_waits .nil pass0 (pa_cons (pv 0) (pa_cons (pv 1) (pa_nil)))))))), ?_⟩
    refine ⟨_, rfl, a, es, rfl, hR, fun G1 s1 => ⟨_, rfl, _, rfl, a, b, es, ws, rfl, hR.same s1, hW.same s1, fun G2 s2 => ?_⟩⟩
    have s12 := s1.trans s2
    exact ⟨_, rfl, _, rfl, a, b, es, ws, rfl, hR.same s12, hW.same s12, fun q G s nq hq => k q G (s12.trans s) (none_back s12 nq) hq⟩
abbrev s_need_places : Stmt := top 26
abbrev N_need_places : List Str := ["run", "places"]
theorem sc_need_places : FnScope N_need_places ["run", "places"] (defScope s_need_places) := ⟨rfl, rfl, rfl, by decide +kernel, rfl, by decide +kernel, by decide +kernel⟩
theorem ok_need_places {f : Addr} {fd : FuncData} (F : FnP K "need_places" s_need_places f fd) (Z : FreeS mg)
    {f_are_ascending_below : Addr} {d_are_ascending_below : FuncData} (g_are_ascending_below : mg "are_ascending_below" = some (.ref f_are_ascending_below)) (F_are_ascending_below : FnP K "are_ascending_below" s_are_ascending_below f_are_ascending_below d_are_ascending_below) (G_are_ascending_below : FnOk P w K mg base CX0 4 f_are_ascending_below d_are_ascending_below ["value", "bound"] (spAscB K)) :
    FnOk P w K mg base CX0 5 f fd ["run", "places"] (spNeedPl K) := by
  have b_are_ascending_below : Binds K d_are_ascending_below ["value", "bound"] [] := F_are_ascending_below.bindsN fun _ _ _ _ _ _ us hl => match us, hl with | [_, _], _ => rfl
  refine F.ok sc_need_places (fun vs H Q E h => ?_) (fun cdv A outer s H vs Q E hr h => ?_)
  · obtain ⟨a, c, es, ps, rfl, _⟩ := h
    rfl
  · obtain ⟨a, c, es, ps, rfl, hR, hc, hP, l1, k⟩ := h
    obtain ⟨ts, ha, lt, ht⟩ := hR.at_.got
    have nd := sc_need_places.nd
    refine ⟨_, PSs.nox (pss_one (ps_if (pt_not (pt_val (pe_call G_are_ascending_below (hr.mono (by decide)) rfl g_are_ascending_below F_are_ascending_below.kp b_are_ascending_below .nil pass0 (pa_cons (pv 1) (pa_cons (pe_callB call_len_seq (by rfl) Z.len (by decide +kernel) (pa_cons (pv 0) (pa_nil))) (pa_nil)))))) (pss_one (ps_dead)) (pss_nil))), ?_⟩
    exact ⟨_, rfl, _, rfl, a, _, rfl, .inl (SqL.of ha), c, ps, es.length, (by rw [List.length_map, lt]; rfl), hc, l1, hP.asc, hP.lt, fun G s => ⟨true, rfl, iteF (k G s)⟩⟩
abbrev s_with_these : Stmt := top 27
abbrev N_with_these : List Str := ["run", "waits", "places", "put_in", "events", "moved", "place", "event", "early", "late"]
theorem sc_with_these : FnScope N_with_these ["run", "waits", "places"] (defScope s_with_these) := ⟨rfl, rfl, rfl, by decide +kernel, rfl, by decide +kernel, by decide +kernel⟩
theorem ok_with_these {f : Addr} {fd : FuncData} (F : FnP K "with_these" s_with_these f fd) (Z : FreeS mg) :
    FnOk P w K mg base CX0 1 f fd ["run", "waits", "places"] (spThese K) := by
  refine F.ok sc_with_these (fun vs H Q E h => ?_) (fun cdv A outer s H vs Q E hr h => ?_)
  · obtain ⟨a, b, c, es, ws, ps, rfl, _⟩ := h
    rfl
  · obtain ⟨a, b, c, es, ws, ps, rfl, hR, hW, hlt, l1000, hc, hP, k⟩ := h
    obtain ⟨ts, ha, lt, ht⟩ := hR.at_.got
    have l100 := hR.len
    have sl : (3000 : Nat) ≤ sizeLine := by decide
    have lP := hP.len
    have nd := sc_with_these.nd
    refine ⟨_, PSs.nox (pss_cons (ps_set (i := 3) nd rfl (Or.inl rfl) (pe_callTy (cr_setJ rfl) (by rfl) Z.tset (by decide +kernel) (pa_cons (pv 2) pa_nil)))
      (pss_cons (ps_set (i := 4) nd rfl (Or.inl rfl) (pe_lst (pa_nil)))
      (pss_cons (ps_set (i := 5) nd rfl (Or.inr rfl) (pe_lst (pa_nil)))
      (pss_cons (ps_for PassesOwn.never rfl (pi_enum (by rfl) Z.enumerate (pa_cons (pv 0) (pa_nil))) (pg_tup rfl (pgs_cons (pg_name (i := 6) nd rfl (Or.inl rfl)) (pgs_cons (pg_name (i := 7) nd rfl (Or.inl rfl)) (pgs_nil))))
        (pss_cons (ps_if (pt_cmpR op_inJ (pv 6) (pv 3) (by rfl)) (pss_one (ps_expr (pe_bm PySem.F.plainAttrs_list PySem.F.slot_list_append PySem.F.type_list_append mt_append (pv 4) (pa_cons (pe_tup (pa_cons (pe_str) (pa_nil))) (pa_nil))))) (pss_nil))
      (pss_cons (ps_expr (pe_bm PySem.F.plainAttrs_list PySem.F.slot_list_append PySem.F.type_list_append mt_append (pv 5) (pa_cons (pe_callB call_len_seq (by rfl) Z.len (by decide +kernel) (pa_cons (pv 4) (pa_nil))) (pa_nil))))
      (pss_one (ps_expr (pe_bm PySem.F.plainAttrs_list PySem.F.slot_list_append PySem.F.type_list_append mt_append (pv 4) (pa_cons (pv 7) (pa_nil))))))))
      (pss_one (ps_ret (pe_tup (pa_cons (pv 4) (pa_cons (pe_lc (own := [("early", 8), ("late", 9)]) (g := gTup K 2 (gCons (gName 8) (gCons (gName 9) (gNil)))) (tt := tYes) (te := tTup (tCons (tOp (rIxL K) (tVar 5) (tVar 8)) (tCons (tOp (rIxL K) (tVar 5) (tVar 9)) (tNil)))) (by rfl) nd (pi_list (pv 1))
          (blkOk_by (own := [("early", 8), ("late", 9)]) (N := N_with_these) (sc := defScope s_with_these) (by decide +kernel)) (fun _ _ _ _ _ => pg_tup rfl (pgs_cons (pg_name (i := 8) nd rfl (Or.inl rfl)) (pgs_cons (pg_name (i := 9) nd rfl (Or.inl rfl)) (pgs_nil)))) (fun _ _ _ _ _ => pts_nil)
          (fun _ _ _ _ _ => pe_tup (pa_cons (pe_ix ix_list (pv 5) (pv 8) (fun _ _ => rfl)) (pa_cons (pe_ix ix_list (pv 5) (pv 9) (fun _ _ => rfl)) (pa_nil))))) (pa_nil)))))))))), ?_⟩
    refine ⟨_, rfl, c, ps.map fun x : Nat => (x : Int), rfl, SqL.of (by rw [List.map_map]; exact hc), (by rw [List.length_map]; omega), fun u S hu hS => ?_⟩
    dsimp only [cxOf, Cx.nox]
    have hS' : ∀ i : Nat, S (i : Int) = ps.contains i := fun i => by rw [hS, any_contains]
    have s0 := Same.updf (o := SetJ P w u S) hu
    obtain ⟨G0, eG⟩ : ∃ X, X = upd H u (SetJ P w u S) := ⟨_, rfl⟩
    have hu0 : G0 u = some (SetJ P w u S) := by rw [eG]; exact upd_same
    rw [← eG] at s0 ⊢
    clear eG hS
    refine ⟨(by show 0 ≤ sizeLine; omega), fun q hq => ⟨(by show 0 ≤ sizeLine; omega), fun r hr' => ?_⟩⟩
    have s1 := Same.updf (o := .lst []) hq
    have s2 := Same.updf (o := .lst []) hr'
    have nqr : q ≠ r := fun z => by
      rw [← z, upd_same] at hr'
      cases hr'
    have hqG : (upd (upd G0 q (.lst [])) r (.lst [])) q = some (.lst []) := by rw [upd_ne nqr, upd_same]
    have hrG : (upd (upd G0 q (.lst [])) r (.lst [])) r = some (.lst []) := upd_same
    have nH : H q = none := none_back s0 hq
    have nH2 : H r = none := none_back (s0.trans s1) hr'
    obtain ⟨G1, eG⟩ : ∃ X, X = upd (upd G0 q (.lst [])) r (.lst []) := ⟨_, rfl⟩
    have s01 : Same G0 G1 := by rw [eG]; exact s1.trans s2
    have sH := s0.trans s01
    rw [← eG] at hqG hrG ⊢
    clear eG s1 s2
    have ne1 : ∀ {c : Addr} {o : HO}, H c = some o → c ≠ q := fun e => ne_of_none e nH
    have ne2 : ∀ {c : Addr} {o : HO}, H c = some o → c ≠ r := fun e => ne_of_none e nH2
    have nuq : u ≠ q := fun z => by rw [z, hq] at hu0; cases hu0
    have nur : u ≠ r := fun z => by
      have := s01 _ _ hu0
      rw [z, hrG] at this
      cases this
    refine ⟨_, rfl, a, _, rfl, SqL.of (sH _ _ ha), ?_⟩
    refine for_it (n := es.length) (by have := walk_enum (K := K) (a := a) (xs := ts.map V.ref); rw [List.length_map, lt] at this; exact this) (fun i σ G => (∀ c o, c ≠ q → c ≠ r → G1 c = some o → G c = some o) ∧ RunAt K G q (wr es ps i) ∧ G r = some (.lst (numsV ((List.range i).map (sent ps)))) ∧ ∃ v6 v7, σ = [some (.ref a), some (.ref b), some (.ref c), some (.ref u), some (.ref q), some (.ref r), v6, v7, none, none])
      ⟨fun c o _ _ e => e, LsT.nil hqG, hrG, none, none, rfl⟩ (fun i σ G _ hh => SqL.of (hh.1 _ _ (ne1 ha) (ne2 ha) (sH _ _ ha))) ?_ ?_
    · rintro i v σ G' G hi ⟨bG, hQ, hM, v6, v7, rfl⟩ ⟨T, x1, x2, rfl, nT, rfl, g1, g2⟩
      dsimp only at g1 g2
      obtain rfl := Option.some.inj g1
      obtain ⟨t, e1, e2⟩ := ht i hi
      rw [e1] at g2
      obtain rfl := Option.some.inj g2
      have sT := Same.updf (o := .tup [V.int (i : Nat), V.ref t]) nT
      have he : SqT K G' t es[i].v := by
        rcases SqT_up sH e2 with (h | ⟨o, h⟩) | h
        · exact .inl (.inl (bG _ _ (fun z => by rw [z, hqG] at h; cases h) (fun z => by rw [z, hrG] at h; cases h) h))
        · exact .inl (.inr ⟨o, bG _ _ (fun z => by rw [z, hqG] at h; cases h) (fun z => by rw [z, hrG] at h; cases h) h⟩)
        · exact .inr h
      have heT := SqT_up sT he
      have hQT := hQ.same sT
      have hMT := sT _ _ hM
      have huT := sT _ _ (bG _ _ nuq nur (s01 _ _ hu0))
      have bT : ∀ c o, c ≠ q → c ≠ r → G1 c = some o → (upd G' T (.tup [V.int (i : Nat), V.ref t])) c = some o := fun c o a b e => sT _ _ (bG _ _ a b e)
      obtain ⟨G2, eG⟩ : ∃ X, X = upd G' T (.tup [V.int (i : Nat), V.ref t]) := ⟨_, rfl⟩
      have hTT : SqT K G2 T [V.int (i : Nat), V.ref t] := by rw [eG]; exact SqT.of upd_same
      rw [← eG] at heT hQT hMT huT bT ⊢
      clear eG sT hQ hM bG he nT
      refine ⟨T, [_, _], rfl, hTT, rfl, _, [_], rfl, _, [], rfl, rfl, ?_⟩
      refine ⟨_, rfl, _, rfl, (i : Int), u, S, rfl, rfl, huT, _, rfl, ?_⟩
      rw [hS' i]
      have le1 := wr_len2 hP.nd (show i ≤ es.length by omega) lP
      have fin : ∀ (G5 : Hp) (pre' : List Ev), (∀ c o, c ≠ q → c ≠ r → G1 c = some o → G5 c = some o) → RunAt K G5 q pre' → SqT K G5 t es[i].v → G5 r = some (.lst (numsV ((List.range i).map (sent ps)))) → pre es ps i = pre' →
          ∀ σ : L2.St, σ = [some (.ref a), some (.ref b), some (.ref c), some (.ref u), some (.ref q), some (.ref r), some (.int (i : Nat)), some (.ref t), none, none] → ∃ ys, G5 q = some (.lst ys) ∧ ys.length = sent ps i ∧ ∃ zs, G5 r = some (.lst zs) ∧ zs.length < sizeLine ∧
            ∃ G6, G6 = upd G5 r (.lst (zs ++ [.int ((sent ps i : Nat) : Int)])) ∧ G6 q = some (.lst ys) ∧ ys.length < sizeLine ∧ (∀ c o, c ≠ q → c ≠ r → G1 c = some o → (upd G6 q (.lst (ys ++ [.ref t]))) c = some o) ∧ RunAt K (upd G6 q (.lst (ys ++ [.ref t]))) q (wr es ps (i + 1)) ∧ (upd G6 q (.lst (ys ++ [.ref t]))) r = some (.lst (numsV ((List.range (i + 1)).map (sent ps)))) := fun G5 pre' b5 hQ5 he5 hM5 ep σ eσ => by
        have h6 := hQ5.but (But.upd' (p := r) (o := .lst (numsV ((List.range i).map (sent ps)) ++ [.int ((sent ps i : Nat) : Int)]))) nqr ⟨_, hM5⟩
        have he6 := SqT_but (But.upd' (p := r) (o := .lst (numsV ((List.range i).map (sent ps)) ++ [.int ((sent ps i : Nat) : Int)]))) he5 ⟨_, hM5⟩
        obtain ⟨ys, y1, y2, y3⟩ := h6.app he6
        rw [← ep] at y2 y3
        have pl := pre_len (es := es) hP.nd (show i ≤ es.length by omega)
        have y1' : G5 q = some (.lst ys) := by rw [upd_ne nqr] at y1; exact y1
        have cnt := List.length_filter_le (fun p => decide (p < i + 1)) ps
        refine ⟨ys, y1', by rw [y2, pl], _, hM5, by unfold numsV; rw [List.length_map, List.length_map, List.length_range]; omega, _, rfl, y1, ?_, fun c o n1 n2 e => ?_, ?_, ?_⟩
        · rw [y2, pl]
          unfold sent
          omega
        · rw [upd_ne n1, upd_ne n2]
          exact b5 _ _ n1 n2 e
        · rw [wr_succ, List.getElem?_eq_getElem hi]
          exact y3
        · rw [upd_ne nqr.symm, upd_same, List.range_succ]
          unfold numsV
          rw [List.map_append, List.map_append]
          rfl
      cases qc : ps.contains i with
      | true =>
        have ep : pre es ps i = wr es ps i ++ [.bar] := by
          unfold pre
          rw [qc]
          rfl
        obtain ⟨us, u1, u2, _⟩ := hQT.app heT
        refine iteT ⟨_, rfl, Or.inl ⟨rfl, _, SqL.of u1⟩, (by show 1 ≤ sizeLine; omega), fun tb htb => ?_⟩
        have sb := Same.updf (o := .tup [V.str "barrier"]) htb
        obtain ⟨us', u1', u2', u3'⟩ := (hQT.same sb).app (t := tb) (x := Ev.bar) (SqT.of upd_same)
        refine ⟨q, _, _, rfl, rfl, u1', by omega, ?_⟩
        have bq : But q (upd G2 tb (.tup [V.str "barrier"])) (upd (upd G2 tb (.tup [V.str "barrier"])) q (.lst (us' ++ [.ref tb]))) := But.upd'
        have he5 := SqT_but bq (SqT_up sb heT) ⟨_, u1'⟩
        have hM5 := bq _ _ nqr.symm (sb _ _ hMT)
        have b5 : ∀ c o, c ≠ q → c ≠ r → G1 c = some o → (upd (upd G2 tb (.tup [V.str "barrier"])) q (.lst (us' ++ [.ref tb]))) c = some o := fun c o n1 n2 e => bq _ _ n1 (sb _ _ (bT _ _ n1 n2 e))
        obtain ⟨G5, eG⟩ : ∃ X, X = upd (upd G2 tb (.tup [V.str "barrier"])) q (.lst (us' ++ [.ref tb])) := ⟨_, rfl⟩
        rw [← eG] at u3' he5 hM5 b5 ⊢
        clear eG bq
        obtain ⟨ys, y1, yl, zs, z1, z2, G6, e6, y6, yl2, c1, c2, c3⟩ := fin G5 _ b5 u3' he5 hM5 ep _ rfl
        refine ⟨_, rfl, Or.inl ⟨rfl, _, SqL.of z1⟩, _, rfl, q, _, rfl, .inl (SqL.of y1), r, _, _, rfl, rfl, z1, z2, ?_⟩
        rw [yl, ← e6]
        exact ⟨_, rfl, Or.inl ⟨rfl, _, SqL.of y6⟩, _, rfl, q, _, _, rfl, rfl, y6, yl2, c1, c2, c3, _, _, rfl⟩
      | false =>
        have ep : pre es ps i = wr es ps i := by
          unfold pre
          rw [qc]
          exact List.append_nil _
        obtain ⟨ys, y1, yl, zs, z1, z2, G6, e6, y6, yl2, c1, c2, c3⟩ := fin G2 _ bT hQT heT hMT ep _ rfl
        refine iteF ⟨_, rfl, Or.inl ⟨rfl, _, SqL.of z1⟩, _, rfl, q, _, rfl, .inl (SqL.of y1), r, _, _, rfl, rfl, z1, z2, ?_⟩
        rw [yl, ← e6]
        exact ⟨_, rfl, Or.inl ⟨rfl, _, SqL.of y6⟩, _, rfl, q, _, _, rfl, rfl, y6, yl2, c1, c2, c3, _, _, rfl⟩
    · rintro σ G ⟨bG, hQ, hM, v6, v7, rfl⟩
      have sG : Same H G := fun c o e => bG _ _ (ne1 e) (ne2 e) (sH _ _ e)
      obtain ⟨tw, hb, ltw, htw⟩ := hW.got
      refine via_nx ?_
      refine ⟨_, rfl, _, rfl, b, rfl, ⟨_, SqL.of (sG _ _ hb)⟩, fun D hD => ?_⟩
      refine lc_rel (n := ws.length) (by have := walk_list (K := K) (a := b) (xs := tw.map V.ref); rw [List.length_map, ltw] at this; exact this) (fun i => (fun w => true) (ws.getD i (0, 0))) (fun i y G => ∃ t, y = .ref t ∧ SqT K G t (wv ((fun w : Nat × Nat => (sent ps w.1, sent ps w.2)) (ws.getD i (0, 0))))) (fun i y G G' s ⟨t, e, h⟩ => ⟨t, e, SqT_up s h⟩) (by omega) hD (fun G2 s => SqL.of (s _ _ (sG _ _ hb))) ?_ ?_
      · rintro i v H2 H3 Qy Qn hi sH' hacc ⟨rfl, hv⟩ ky kn
        obtain ⟨t, e1, e2⟩ := htw i hi
        rw [e1] at hv
        obtain rfl : V.ref t = v := Option.some.inj hv
        have ew : ws.getD i (0, 0) = ws[i] := by
          rw [List.getD_eq_getElem?_getD, List.getElem?_eq_getElem hi]
          rfl
        obtain ⟨l1, l2⟩ := hlt _ (List.getElem_mem hi)
        have hw := SqT_up (sG.trans sH') e2
        rw [ew] at ky
        have at_ : ∀ j, j < es.length → (numsV ((List.range es.length).map (sent ps)))[j]? = some (.int (sent ps j : Int)) := fun j hj => by
          unfold numsV
          rw [List.getElem?_map, List.getElem?_map, List.getElem?_range hj]
          rfl
        refine ⟨t, [_, _], rfl, hw, rfl, _, [_], rfl, _, [], rfl, rfl, ?_⟩
        refine ⟨rfl, _, rfl, _, rfl, r, _, _, _, rfl, rfl, SqL.of (sH' _ _ hM), atI_nat (at_ _ l1), _, rfl, _, rfl, r, _, _, _, rfl, rfl, SqL.of (sH' _ _ hM), atI_nat (at_ _ l2), (by show 2 ≤ sizeLine; omega), fun T hT => ?_⟩
        obtain ⟨acc, hacc⟩ := hacc
        refine ky _ _ rfl (Same.updf hT) ⟨T, rfl, ?_⟩
        exact SqT.of (by rw [off_at (fun z => by rw [z, hacc] at hT; cases hT)]; exact upd_same)
      · intro H2 ys s2 hys py
        refine ⟨(by show 2 ≤ sizeLine; omega), fun T hT => ?_⟩
        have sT := Same.updf (o := .tup [V.ref q, V.ref D]) hT
        have pp := paired_selG (l := ws) (z := (0, 0)) (c := fun _ => true) (R := fun x y => ∃ t, y = .ref t ∧ SqT K (off H2 D) t (wv ((fun w : Nat × Nat => (sent ps w.1, sent ps w.2)) x))) py
        rw [List.filter_eq_self.mpr (fun _ _ => rfl)] at pp
        have hD0 := none_back sG hD
        have hWD : WtAt K H2 D (movedL ps ws) := by
          obtain ⟨ts', e1, e2, e3⟩ := (LsT.of_paired (vv := fun x : Nat × Nat => wv ((fun w : Nat × Nat => (sent ps w.1, sent ps w.2)) x)) hys (paired_mono (fun x y ⟨t, e, h⟩ => ⟨t, e, SqT_up (off_le _ _) h⟩) pp)).ex
          refine ⟨ts', e1, by unfold movedL; rw [List.length_map, e2], fun i t x h1 h2 => ?_⟩
          unfold movedL at h2
          rw [List.getElem?_map] at h2
          obtain ⟨v, q1, rfl⟩ := Option.map_eq_some_iff.mp h2
          exact e3 i t v h1 q1
        exact k T q D _ ((sG.trans s2).trans sT) nH hD0 upd_same (hQ.same (s2.trans sT)) (hWD.same sT)
abbrev s_barriers_for : Stmt := top 28
abbrev N_barriers_for : List Str := ["run", "waits"]
theorem sc_barriers_for : FnScope N_barriers_for ["run", "waits"] (defScope s_barriers_for) := ⟨rfl, rfl, rfl, by decide +kernel, rfl, by decide +kernel, by decide +kernel⟩
theorem ok_barriers_for {f : Addr} {fd : FuncData} (F : FnP K "barriers_for" s_barriers_for f fd) (Z : FreeS mg)
    {f_need_run : Addr} {d_need_run : FuncData} (g_need_run : mg "need_run" = some (.ref f_need_run)) (F_need_run : FnP K "need_run" s_need_run f_need_run d_need_run) (G_need_run : FnOk P w K mg base CX0 5 f_need_run d_need_run ["run"] (spNeedRun K))
    {f_need_waits : Addr} {d_need_waits : FuncData} (g_need_waits : mg "need_waits" = some (.ref f_need_waits)) (F_need_waits : FnP K "need_waits" s_need_waits f_need_waits d_need_waits) (G_need_waits : FnOk P w K mg base CX0 6 f_need_waits d_need_waits ["run", "waits"] (spNeedWaits K))
    {f_ends_of : Addr} {d_ends_of : FuncData} (g_ends_of : mg "ends_of" = some (.ref f_ends_of)) (F_ends_of : FnP K "ends_of" s_ends_of f_ends_of d_ends_of) (G_ends_of : FnOk P w K mg base CX0 5 f_ends_of d_ends_of ["waits"] (spEnds K))
    {f_broken_waits : Addr} {d_broken_waits : FuncData} (g_broken_waits : mg "broken_waits" = some (.ref f_broken_waits)) (F_broken_waits : FnP K "broken_waits" s_broken_waits f_broken_waits d_broken_waits) (G_broken_waits : FnOk P w K mg base CX0 2 f_broken_waits d_broken_waits ["run", "waits"] (spBrokenW K)) :
    FnOk P w K mg base CX0 7 f fd ["run", "waits"] (spFor K) := by
  have b_need_run : Binds K d_need_run ["run"] [] := F_need_run.bindsN fun _ _ _ _ _ _ us hl => match us, hl with | [_], _ => rfl
  have b_need_waits : Binds K d_need_waits ["run", "waits"] [] := F_need_waits.bindsN fun _ _ _ _ _ _ us hl => match us, hl with | [_, _], _ => rfl
  have b_ends_of : Binds K d_ends_of ["waits"] [] := F_ends_of.bindsN fun _ _ _ _ _ _ us hl => match us, hl with | [_], _ => rfl
  have b_broken_waits : Binds K d_broken_waits ["run", "waits"] [] := F_broken_waits.bindsN fun _ _ _ _ _ _ us hl => match us, hl with | [_, _], _ => rfl
  refine F.ok sc_barriers_for (fun vs H Q E h => ?_) (fun cdv A outer s H vs Q E hr h => ?_)
  · obtain ⟨a, b, es, ws, rfl, _⟩ := h
    rfl
  · obtain ⟨a, b, es, ws, rfl, hR, hW, hT, k⟩ := h
    have nd := sc_barriers_for.nd
    refine ⟨_, PSs.nox (pss_cons (ps_expr (pe_call G_need_run (hr.mono (by decide)) rfl g_need_run F_need_run.kp b_need_run .nil pass0 (pa_cons (pv 0) (pa_nil))))
      (pss_cons (ps_expr (pe_call G_need_waits (hr.mono (by decide)) rfl g_need_waits F_need_waits.kp b_need_waits .nil pass0 (pa_cons (pv 0) (pa_cons (pv 1) (pa_nil)))))
      (pss_one (ps_ret (pe_call G_ends_of (hr.mono (by decide)) rfl g_ends_of F_ends_of.kp b_ends_of .nil pass0 (pa_cons (pe_call G_broken_waits (hr.mono (by decide)) rfl g_broken_waits F_broken_waits.kp b_broken_waits .nil pass0 (pa_cons (pv 0) (pa_cons (pv 1) (pa_nil)))) (pa_nil))))))), ?_⟩
    refine ⟨_, rfl, a, es, rfl, hR, fun G1 s1 => ⟨_, rfl, _, rfl, a, b, es, ws, rfl, hR.same s1, hW.same s1, fun G2 s2 => ?_⟩⟩
    have s12 := s1.trans s2
    refine ⟨_, rfl, _, rfl, a, b, es, ws, rfl, hR.same s12, hW.same s12, fun q G s nq hq => ?_⟩
    have s123 := s12.trans s
    refine ⟨q, _, rfl, hq, (by have := List.length_filter_le (fun w => decide (ahead es w.1 = ahead es w.2)) ws; have := hW.len; unfold brokenL; omega), tabs_same s123 hT, fun r G' e T' nr hr' => ?_⟩
    exact k r G' ((ExtN.of s123).trans e) T' (NewN.back (ExtN.of s123) nr) hr'
abbrev s_with_barriers : Stmt := top 29
abbrev N_with_barriers : List Str := ["run", "places"]
theorem sc_with_barriers : FnScope N_with_barriers ["run", "places"] (defScope s_with_barriers) := ⟨rfl, rfl, rfl, by decide +kernel, rfl, by decide +kernel, by decide +kernel⟩
theorem ok_with_barriers {f : Addr} {fd : FuncData} (F : FnP K "with_barriers" s_with_barriers f fd) (Z : FreeS mg)
    {f_need_run : Addr} {d_need_run : FuncData} (g_need_run : mg "need_run" = some (.ref f_need_run)) (F_need_run : FnP K "need_run" s_need_run f_need_run d_need_run) (G_need_run : FnOk P w K mg base CX0 5 f_need_run d_need_run ["run"] (spNeedRun K))
    {f_need_places : Addr} {d_need_places : FuncData} (g_need_places : mg "need_places" = some (.ref f_need_places)) (F_need_places : FnP K "need_places" s_need_places f_need_places d_need_places) (G_need_places : FnOk P w K mg base CX0 5 f_need_places d_need_places ["run", "places"] (spNeedPl K))
    {f_with_these : Addr} {d_with_these : FuncData} (g_with_these : mg "with_these" = some (.ref f_with_these)) (F_with_these : FnP K "with_these" s_with_these f_with_these d_with_these) (G_with_these : FnOk P w K mg base CX0 1 f_with_these d_with_these ["run", "waits", "places"] (spThese K)) :
    FnOk P w K mg base CX0 6 f fd ["run", "places"] (spWithB K) := by
  have b_need_run : Binds K d_need_run ["run"] [] := F_need_run.bindsN fun _ _ _ _ _ _ us hl => match us, hl with | [_], _ => rfl
  have b_need_places : Binds K d_need_places ["run", "places"] [] := F_need_places.bindsN fun _ _ _ _ _ _ us hl => match us, hl with | [_, _], _ => rfl
  have b_with_these : Binds K d_with_these ["run", "waits", "places"] [] := F_with_these.bindsN fun _ _ _ _ _ _ us hl => match us, hl with | [_, _, _], _ => rfl
  refine F.ok sc_with_barriers (fun vs H Q E h => ?_) (fun cdv A outer s H vs Q E hr h => ?_)
  · obtain ⟨a, c, es, ps, rfl, _⟩ := h
    rfl
  · obtain ⟨a, c, es, ps, rfl, hR, hc, hP, k⟩ := h
    have l100 := hR.len
    have lP := hP.len
    have sl : (3000 : Nat) ≤ sizeLine := by decide
    have nd := sc_with_barriers.nd
    refine ⟨_, PSs.nox (pss_cons (ps_expr (pe_call G_need_run (hr.mono (by decide)) rfl g_need_run F_need_run.kp b_need_run .nil pass0 (pa_cons (pv 0) (pa_nil))))
      (pss_cons (ps_expr (pe_call G_need_places (hr.mono (by decide)) rfl g_need_places F_need_places.kp b_need_places .nil pass0 (pa_cons (pv 0) (pa_cons (pv 1) (pa_nil)))))
      (pss_one (ps_ret (pe_ix ix_tup (pe_call G_with_these (hr.mono (by decide)) rfl g_with_these F_with_these.kp b_with_these .nil pass0 (pa_cons (pv 0) (pa_cons (pe_lst (pa_nil)) (pa_cons (pv 1) (pa_nil))))) (pe_int) (fun _ _ => rfl)))))), ?_⟩
    refine ⟨_, rfl, a, es, rfl, hR, fun G1 s1 => ⟨_, rfl, _, rfl, a, c, es, ps, rfl, hR.same s1, s1 _ _ hc, hP, by omega, fun G2 s2 => ?_⟩⟩
    have s12 := s1.trans s2
    refine ⟨_, rfl, (by show 0 ≤ sizeLine; omega), fun e0 he0 => ⟨_, rfl, ?_⟩⟩
    have s0 := Same.updf (o := .lst []) he0
    have s120 := s12.trans s0
    refine ⟨a, e0, c, es, [], ps, rfl, hR.same s120, LsT.nil upd_same, (fun w h => nomatch h), Nat.zero_le _, s120 _ _ hc, hP, fun t q r G s nq nr ht hQ hM => ?_⟩
    exact ⟨t, _, 0, _, rfl, rfl, SqT.of ht, rfl, k q G (s120.trans s) (none_back s120 nq) hQ⟩
abbrev s_waits_then : Stmt := top 30
abbrev N_waits_then : List Str := ["run", "waits", "places"]
theorem sc_waits_then : FnScope N_waits_then ["run", "waits", "places"] (defScope s_waits_then) := ⟨rfl, rfl, rfl, by decide +kernel, rfl, by decide +kernel, by decide +kernel⟩
theorem ok_waits_then {f : Addr} {fd : FuncData} (F : FnP K "waits_then" s_waits_then f fd) (Z : FreeS mg)
    {f_need_run : Addr} {d_need_run : FuncData} (g_need_run : mg "need_run" = some (.ref f_need_run)) (F_need_run : FnP K "need_run" s_need_run f_need_run d_need_run) (G_need_run : FnOk P w K mg base CX0 5 f_need_run d_need_run ["run"] (spNeedRun K))
    {f_need_waits : Addr} {d_need_waits : FuncData} (g_need_waits : mg "need_waits" = some (.ref f_need_waits)) (F_need_waits : FnP K "need_waits" s_need_waits f_need_waits d_need_waits) (G_need_waits : FnOk P w K mg base CX0 6 f_need_waits d_need_waits ["run", "waits"] (spNeedWaits K))
    {f_need_places : Addr} {d_need_places : FuncData} (g_need_places : mg "need_places" = some (.ref f_need_places)) (F_need_places : FnP K "need_places" s_need_places f_need_places d_need_places) (G_need_places : FnOk P w K mg base CX0 5 f_need_places d_need_places ["run", "places"] (spNeedPl K))
    {f_with_these : Addr} {d_with_these : FuncData} (g_with_these : mg "with_these" = some (.ref f_with_these)) (F_with_these : FnP K "with_these" s_with_these f_with_these d_with_these) (G_with_these : FnOk P w K mg base CX0 1 f_with_these d_with_these ["run", "waits", "places"] (spThese K)) :
    FnOk P w K mg base CX0 7 f fd ["run", "waits", "places"] (spThen K) := by
  have b_need_run : Binds K d_need_run ["run"] [] := F_need_run.bindsN fun _ _ _ _ _ _ us hl => match us, hl with | [_], _ => rfl
  have b_need_waits : Binds K d_need_waits ["run", "waits"] [] := F_need_waits.bindsN fun _ _ _ _ _ _ us hl => match us, hl with | [_, _], _ => rfl
  have b_need_places : Binds K d_need_places ["run", "places"] [] := F_need_places.bindsN fun _ _ _ _ _ _ us hl => match us, hl with | [_, _], _ => rfl
  have b_with_these : Binds K d_with_these ["run", "waits", "places"] [] := F_with_these.bindsN fun _ _ _ _ _ _ us hl => match us, hl with | [_, _, _], _ => rfl
  refine F.ok sc_waits_then (fun vs H Q E h => ?_) (fun cdv A outer s H vs Q E hr h => ?_)
  · obtain ⟨a, b, c, es, ws, ps, rfl, _⟩ := h
    rfl
  · obtain ⟨a, b, c, es, ws, ps, rfl, hR, hW, hc, hP, k⟩ := h
    have l100 := hR.len
    have lP := hP.len
    have sl : (3000 : Nat) ≤ sizeLine := by decide
    have nd := sc_waits_then.nd
    refine ⟨_, PSs.nox (pss_cons (ps_expr (pe_call G_need_run (hr.mono (by decide)) rfl g_need_run F_need_run.kp b_need_run .nil pass0 (pa_cons (pv 0) (pa_nil))))
      (pss_cons (ps_expr (pe_call G_need_waits (hr.mono (by decide)) rfl g_need_waits F_need_waits.kp b_need_waits .nil pass0 (pa_cons (pv 0) (pa_cons (pv 1) (pa_nil)))))
      (pss_cons (ps_expr (pe_call G_need_places (hr.mono (by decide)) rfl g_need_places F_need_places.kp b_need_places .nil pass0 (pa_cons (pv 0) (pa_cons (pv 2) (pa_nil)))))
      (pss_one (ps_ret (pe_ix ix_tup (pe_call G_with_these (hr.mono (by decide)) rfl g_with_these F_with_these.kp b_with_these .nil pass0 (pa_cons (pv 0) (pa_cons (pv 1) (pa_cons (pv 2) (pa_nil))))) (pe_int) (fun _ _ => rfl))))))), ?_⟩
    refine ⟨_, rfl, a, es, rfl, hR, fun G1 s1 => ⟨_, rfl, _, rfl, a, b, es, ws, rfl, hR.same s1, hW.same s1, fun G2 s2 => ?_⟩⟩
    have s12 := s1.trans s2
    refine ⟨_, rfl, _, rfl, a, c, es, ps, rfl, hR.same s12, s12 _ _ hc, hP, by omega, fun G3 s3 => ?_⟩
    have s13 := s12.trans s3
    refine ⟨_, rfl, _, rfl, _, rfl, a, b, c, es, ws, ps, rfl, hR.same s13, hW.at_.same s13, (fun w h => ?_), hW.len, s13 _ _ hc, hP, fun t q r G s nq nr ht hQ hM => ?_⟩
    · have ok := hW.ok.ok w h
      have := ok.lt
      have := ok.len
      omega
    exact ⟨t, _, 1, _, rfl, rfl, SqT.of ht, rfl, k r G (s13.trans s) (none_back s13 nr) hM⟩
abbrev s_bare : Stmt := top 31
abbrev N_bare : List Str := ["run", "event"]
theorem sc_bare : FnScope N_bare ["run"] (defScope s_bare) := ⟨rfl, rfl, rfl, by decide +kernel, rfl, by decide +kernel, by decide +kernel⟩
theorem ok_bare {f : Addr} {fd : FuncData} (F : FnP K "bare" s_bare f fd) (Z : FreeS mg)
    {f_need_run : Addr} {d_need_run : FuncData} (g_need_run : mg "need_run" = some (.ref f_need_run)) (F_need_run : FnP K "need_run" s_need_run f_need_run d_need_run) (G_need_run : FnOk P w K mg base CX0 5 f_need_run d_need_run ["run"] (spNeedRun K)) :
    FnOk P w K mg base CX0 6 f fd ["run"] (spBare K) := by
  have b_need_run : Binds K d_need_run ["run"] [] := F_need_run.bindsN fun _ _ _ _ _ _ us hl => match us, hl with | [_], _ => rfl
  refine F.ok sc_bare (fun vs H Q E h => ?_) (fun cdv A outer s H vs Q E hr h => ?_)
  · obtain ⟨a, es, rfl, _⟩ := h
    rfl
  · obtain ⟨a, es, rfl, hR, k⟩ := h
    obtain ⟨ts, ha, lt, ht⟩ := hR.at_.got
    have l100 := hR.len
    have sl : (3000 : Nat) ≤ sizeLine := by decide
    have nd := sc_bare.nd
    refine ⟨_, PSs.nox (pss_cons (ps_expr (pe_call G_need_run (hr.mono (by decide)) rfl g_need_run F_need_run.kp b_need_run .nil pass0 (pa_cons (pv 0) (pa_nil))))
      (pss_one (ps_ret (pe_lc (own := [("event", 1)]) (g := gName 1) (tt := tTest (tOp (rNeD K) (tVar 1) (tTup (tCons (tC (.str "barrier")) (tNil))))) (te := tVar 1) (by rfl) nd (pi_list (pv 0))
          (blkOk_by (own := [("event", 1)]) (N := N_bare) (sc := defScope s_bare) (by decide +kernel)) (fun _ _ _ _ _ => pg_name (i := 1) nd rfl (Or.inl rfl)) (fun _ _ _ _ _ => pts_one (pt_cmpR (op_neD hr.units) (pv 1) (pe_tup (pa_cons (pe_str) (pa_nil))) (nomark _)))
          (fun _ _ _ _ _ => pv 1))))), ?_⟩
    refine ⟨_, rfl, a, es, rfl, hR, fun G sG => ?_⟩
    refine ⟨_, rfl, a, rfl, ⟨_, SqL.of (sG _ _ ha)⟩, fun D hD => ?_⟩
    refine lc_rel (n := es.length) (by have := walk_list (K := K) (a := a) (xs := ts.map V.ref); rw [List.length_map, lt] at this; exact this) (fun i => (fun e => decide (e ≠ Ev.bar)) (es.getD i .tell)) (fun i y G => ∃ t, y = .ref t ∧ SqT K G t (es.getD i .tell).v) (fun i y G G' s ⟨t, e, h⟩ => ⟨t, e, SqT_up s h⟩) (by omega) hD (fun G2 s => SqL.of (s _ _ (sG _ _ ha))) ?_ ?_
    · rintro i v H2 H3 Qy Qn hi sH hacc ⟨rfl, hv⟩ ky kn
      obtain ⟨t, e1, e2⟩ := ht i hi
      rw [e1] at hv
      obtain rfl : V.ref t = v := Option.some.inj hv
      have ew : es.getD i .tell = es[i] := by
        rw [List.getD_eq_getElem?_getD, List.getElem?_eq_getElem hi]
        rfl
      have he := SqT_up (sG.trans sH) e2
      dsimp only at ky kn
      rw [ew] at ky kn
      refine ⟨rfl, _, rfl, (by show 1 ≤ sizeLine; omega), fun tb htb => ?_⟩
      have sb := Same.updf (o := .tup [V.str "barrier"]) htb
      refine ⟨_, _, Ev.dp (SqT_up sb he), Ev.dp (e := .bar) (SqT.of upd_same), shaped_ev _, shaped_ev .bar, _, rfl, ?_⟩
      rw [eqv_ev]
      obtain ⟨acc, hacc⟩ := hacc
      by_cases c : es[i] = .bar
      · rw [decide_eq_true c]
        exact iteF (kn _ (decide_eq_false (fun z => z c)) sb)
      · rw [decide_eq_false c]
        exact iteT ⟨_, rfl, ky _ _ (decide_eq_true c) sb ⟨t, rfl, SqT_off (SqT_up sG e2) (sH.trans sb) hD⟩⟩
    · intro H2 ys s2 hys py
      exact k D H2 (sG.trans s2) (none_back sG hD) (LsT.of_paired hys (paired_mono (fun x y ⟨t, e, h⟩ => ⟨t, e, SqT_up (off_le _ _) h⟩) (paired_selG (R := fun x y => ∃ t, y = .ref t ∧ SqT K (off H2 D) t x.v) py)))
abbrev s_places_of_barriers : Stmt := top 32
abbrev N_places_of_barriers : List Str := ["run", "place", "event"]
theorem sc_places_of_barriers : FnScope N_places_of_barriers ["run"] (defScope s_places_of_barriers) := ⟨rfl, rfl, rfl, by decide +kernel, rfl, by decide +kernel, by decide +kernel⟩
theorem ok_places_of_barriers {f : Addr} {fd : FuncData} (F : FnP K "places_of_barriers" s_places_of_barriers f fd) (Z : FreeS mg) :
    FnOk P w K mg base CX0 1 f fd ["run"] (spPlaces K) := by
  refine F.ok sc_places_of_barriers (fun vs H Q E h => ?_) (fun cdv A outer s H vs Q E hr h => ?_)
  · obtain ⟨a, es, rfl, _⟩ := h
    rfl
  · obtain ⟨a, es, rfl, hR, k⟩ := h
    obtain ⟨ts, ha, lt, ht⟩ := hR.at_.got
    have l100 := hR.len
    have sl : (3000 : Nat) ≤ sizeLine := by decide
    have nd := sc_places_of_barriers.nd
    refine ⟨_, PSs.nox (pss_one (ps_ret (pe_lc (own := [("place", 1), ("event", 2)]) (g := gTup K 2 (gCons (gName 1) (gCons (gName 2) (gNil)))) (tt := tTest (tOp (rEqD K) (tVar 2) (tTup (tCons (tC (.str "barrier")) (tNil))))) (te := tVar 1) (by rfl) nd (pi_enum (by rfl) Z.enumerate (pa_cons (pv 0) (pa_nil)))
          (blkOk_by (own := [("place", 1), ("event", 2)]) (N := N_places_of_barriers) (sc := defScope s_places_of_barriers) (by decide +kernel)) (fun _ _ _ _ _ => pg_tup rfl (pgs_cons (pg_name (i := 1) nd rfl (Or.inl rfl)) (pgs_cons (pg_name (i := 2) nd rfl (Or.inl rfl)) (pgs_nil)))) (fun _ _ _ _ _ => pts_one (pt_cmpR (op_eqD hr.units) (pv 2) (pe_tup (pa_cons (pe_str) (pa_nil))) (nomark _)))
          (fun _ _ _ _ _ => pv 1)))), ?_⟩
    refine ⟨_, rfl, a, _, rfl, SqL.of ha, fun D hD => ?_⟩
    refine lc_sel (n := es.length) (by have := walk_enum (K := K) (a := a) (xs := ts.map V.ref); rw [List.length_map, lt] at this; exact this) (fun i => if isB es i = true then some (.int (i : Int)) else none) (by omega) hD (fun H2 s2 => SqL.of (s2 _ _ ha)) ?_ ?_
    · rintro i v H2 H3 Qy Qn hi sH ⟨T2, x1, x2, rfl, nT, rfl, g1, g2⟩ ky kn
      dsimp only at g1 g2
      obtain rfl := Option.some.inj g1
      obtain ⟨t, e1, e2⟩ := ht i hi
      rw [e1] at g2
      obtain rfl := Option.some.inj g2
      have sT : Same H2 (upd H2 T2 (.tup [.int (i : Nat), .ref t])) := Same.updf nT
      refine ⟨T2, [_, _], rfl, .inl (.inl upd_same), rfl, _, [_], rfl, _, [], rfl, rfl, ?_⟩
      refine ⟨rfl, _, rfl, (by show 1 ≤ sizeLine; omega), fun tb htb => ?_⟩
      have sb := Same.updf (o := .tup [V.str "barrier"]) htb
      refine ⟨_, _, Ev.dp (SqT_up ((sH.trans sT).trans sb) e2), Ev.dp (e := .bar) (SqT.of upd_same), shaped_ev _, shaped_ev .bar, _, rfl, ?_⟩
      rw [eqv_ev]
      have eb : isB es i = decide (es[i] = .bar) := by
        unfold isB
        rw [List.getElem?_eq_getElem hi, decide_eq_decide]
        exact ⟨fun z => Option.some.inj z, fun z => by rw [z]⟩
      by_cases h : es[i] = .bar
      · rw [decide_eq_true h] at eb ⊢
        exact iteT ⟨_, rfl, ky _ _ (sT.trans sb) (if_pos eb)⟩
      · rw [decide_eq_false h] at eb ⊢
        exact iteF (kn _ (sT.trans sb) (if_neg (by rw [eb]; exact Bool.false_ne_true)))
    · intro H2 s2 hR2
      refine k D H2 s2 hD (hR2.trans (congrArg (fun l => some (HO.lst l)) ?_))
      unfold bars numsV
      rw [← List.filterMap_eq_filter, List.map_filterMap]
      refine fm_congr fun i _ => ?_
      show _ = Option.map _ (Option.guard _ i)
      unfold Option.guard
      by_cases h : isB es i = true
      · rw [if_pos h, if_pos h]
        rfl
      · rw [if_neg h, if_neg h]
        rfl
end
end K18
set_option Elab.async false
set_option linter.all false
set_option maxRecDepth 100000
set_option maxHeartbeats 8000000
/-! Comprehensions over lists of numbers and of tuples. -/
namespace K18
open PySem PySem.Spec PyProof.Rows L2 KB LamX
theorem paired_fm {α : Type} {f : Nat → Option α} {R : α → V → Prop} : ∀ {is : List Nat} {ys : List V}, Paired (fun i y => ∃ d, f i = some d ∧ R d y) is ys → Paired R (is.filterMap f) ys
  | _, _, .nil => .nil
  | i :: is, _, .cons r t => by
    obtain ⟨d, e, h⟩ := r
    rw [List.filterMap_cons, e]
    exact .cons h (paired_fm t)
theorem fm_get {α β : Type} (f : α → β) (c : α → Bool) (l : List α) : (((List.range l.length).filter fun i => ((l[i]?).map c).getD false).filterMap fun i => (l[i]?).map f) = (l.filter c).map f := by
  induction l with
  | nil => rfl
  | cons x r ih =>
    rw [List.length_cons, List.range_succ_eq_map, List.filter_cons, List.filter_map]
    have e : ((fun i => (((x :: r)[i]?).map c).getD false) ∘ Nat.succ) = fun i => ((r[i]?).map c).getD false := rfl
    have e2 : ∀ is : List Nat, ((is.map Nat.succ).filterMap fun i => ((x :: r)[i]?).map f) = is.filterMap fun i => (r[i]?).map f := fun is => by
      rw [List.filterMap_map]
      rfl
    rw [e]
    by_cases h : c x = true
    · rw [if_pos (by simpa using h), List.filterMap_cons, e2, ih, List.filter_cons, if_pos h]
      rfl
    · rw [if_neg (by simpa using h), e2, ih, List.filter_cons, if_neg h]
theorem sel_bool (c : Nat → Bool) (l : List Nat) : ((List.range l.length).filterMap fun i => (l[i]?).bind fun x => if c x = true then some (V.int (x : Int)) else none) = numsV (l.filter c) := by
  induction l with
  | nil => rfl
  | cons x l ih =>
    rw [List.length_cons, List.range_succ_eq_map, List.filterMap_cons, List.filterMap_map, List.filter_cons]
    have e : ((fun i => ((x :: l)[i]?).bind fun x => if c x = true then some (V.int (x : Int)) else none) ∘ Nat.succ) = fun i => (l[i]?).bind fun x => if c x = true then some (V.int (x : Int)) else none := rfl
    rw [e, ih]
    by_cases h : c x = true
    · simp [h, numsV]
    · simp [h, numsV]
theorem paired_len {α β : Type} {R : α → β → Prop} : ∀ {xs : List α} {ys : List β}, Paired R xs ys → xs.length = ys.length
  | _, _, .nil => rfl
  | _, _, .cons _ t => congrArg (· + 1) (paired_len t)
theorem lc_nums {K : PySem.W.Frag} {l : List Nat} {a : Addr} {g : TG} {tt : TT} {te : TE} {vs : List Nat} {σ : L2.St} {H1 : Hp} {D : Addr} {Qd : Hp → Prop} (c : Nat → Bool) (hn : l.length ≤ 100000) (ha : H1 a = some (.lst (numsV l))) (hD : H1 D = none)
    (hs : ∀ p H (Qy : V → Hp → Prop) (Qn : Hp → Prop), p ∈ l → Same H1 H → (∀ H4, Same H H4 → c p = true → Qy (.int (p : Int)) H4) → (∀ H4, Same H H4 → c p = false → Qn H4) →
      g (.int (p : Int)) (wipe σ vs) H fun σ2 H2 => wipe σ2 vs = wipe σ vs ∧ tt σ2 H2 fun b H3 => if b = true then te σ2 H3 Qy else Qn H3)
    (hd : ∀ H, Same H1 H → H D = some (.lst (numsV (l.filter c))) → Qd H) :
    ∃ W : Nat → Nat → Hp → Prop, (∃ m, W 0 m (upd H1 D (.lst []))) ∧ ∀ i m H, W i m H →
      ((Itl K a).stop i H ∧ Qd H) ∨ ((Itl K a).go i H ∧ ∃ Nx : Hp → Prop, (∀ H', Nx H' → ∃ m', m' < m ∧ W (i + 1) m' H') ∧ ∀ x H', (Itl K a).yld i H x H' → g x (wipe σ vs) H' fun σ2 H2 => wipe σ2 vs = wipe σ vs ∧ tt σ2 H2 fun b H3 =>
        if b = true then te σ2 H3 fun y H4 => ∃ acc, H4 D = some (.lst acc) ∧ acc.length < sizeLine ∧ Nx (upd H4 D (.lst (acc ++ [y]))) else Nx H3) := by
  have ln : (numsV l).length = l.length := List.length_map _
  refine lc_sel (n := (numsV l).length) (walk_list (K := K) (a := a) (xs := numsV l)) (fun j => (l[j]?).bind fun x => if c x = true then some (V.int (x : Int)) else none) (by omega) hD (fun H2 s3 => SqL.of (s3 _ _ ha)) ?_ ?_
  · rintro j v H5 H6 Qy Qn hj s5 ⟨rfl, hy⟩ ky_ kn
    have lj : j < l.length := by omega
    unfold numsV at hy
    rw [List.getElem?_map, List.getElem?_eq_getElem lj] at hy
    obtain rfl := Option.some.inj hy
    rw [List.getElem?_eq_getElem lj, Option.bind_some] at ky_ kn
    exact hs _ _ Qy Qn (List.getElem_mem lj) s5 (fun H4 s4 e => ky_ _ _ s4 (by rw [if_pos e])) (fun H4 s4 e => kn _ s4 (by rw [e]; rfl))
  · intro H5 s5 hR
    rw [ln, sel_bool] at hR
    exact hd H5 s5 hR
theorem lc_bools {K : PySem.W.Frag} {l : List Nat} {a : Addr} {g : TG} {tt : TT} {te : TE} {vs : List Nat} {σ : L2.St} {H1 : Hp} {D : Addr} {Qd : Hp → Prop} (c : Nat → Bool) (hn : l.length ≤ 100000) (ha : H1 a = some (.lst (numsV l))) (hD : H1 D = none)
    (hs : ∀ p H (Qy : V → Hp → Prop) (Qn : Hp → Prop), p ∈ l → Same H1 H → (∀ H4, Same H H4 → Qy (.bl (c p)) H4) →
      g (.int (p : Int)) (wipe σ vs) H fun σ2 H2 => wipe σ2 vs = wipe σ vs ∧ tt σ2 H2 fun b H3 => if b = true then te σ2 H3 Qy else Qn H3)
    (hd : ∀ H, Same H1 H → H D = some (.lst ((l.map c).map V.bl)) → Qd H) :
    ∃ W : Nat → Nat → Hp → Prop, (∃ m, W 0 m (upd H1 D (.lst []))) ∧ ∀ i m H, W i m H →
      ((Itl K a).stop i H ∧ Qd H) ∨ ((Itl K a).go i H ∧ ∃ Nx : Hp → Prop, (∀ H', Nx H' → ∃ m', m' < m ∧ W (i + 1) m' H') ∧ ∀ x H', (Itl K a).yld i H x H' → g x (wipe σ vs) H' fun σ2 H2 => wipe σ2 vs = wipe σ vs ∧ tt σ2 H2 fun b H3 =>
        if b = true then te σ2 H3 fun y H4 => ∃ acc, H4 D = some (.lst acc) ∧ acc.length < sizeLine ∧ Nx (upd H4 D (.lst (acc ++ [y]))) else Nx H3) := by
  have ln : (numsV l).length = l.length := List.length_map _
  refine lc_sel (n := (numsV l).length) (walk_list (K := K) (a := a) (xs := numsV l)) (fun j => (l[j]?).map fun x => V.bl (c x)) (by omega) hD (fun H2 s3 => SqL.of (s3 _ _ ha)) ?_ ?_
  · rintro j v H5 H6 Qy Qn hj s5 ⟨rfl, hy⟩ ky_ kn
    have lj : j < l.length := by omega
    unfold numsV at hy
    rw [List.getElem?_map, List.getElem?_eq_getElem lj] at hy
    obtain rfl := Option.some.inj hy
    rw [List.getElem?_eq_getElem lj, Option.map_some] at ky_
    exact hs _ _ Qy Qn (List.getElem_mem lj) s5 (fun H4 s4 => ky_ _ _ s4 rfl)
  · intro H5 s5 hR
    refine hd H5 s5 ?_
    rw [hR, ln]
    refine congrArg (fun z => some (HO.lst z)) ?_
    refine List.ext_getElem? fun j => ?_
    have key : ∀ m : Nat, (List.range m).filterMap (fun j => (l[j]?).map fun x => V.bl (c x)) = ((l.take m).map c).map V.bl := fun m => by
      induction m with
      | zero => rfl
      | succ m ih =>
        rw [List.range_succ, List.filterMap_append, ih, List.take_succ, List.map_append, List.map_append]
        cases h : l[m]? <;> simp [h]
    rw [key, List.take_length]
theorem ls_bools {K : PySem.W.Frag} {α : Type} {vv : α → List V} {xs : List α} {a : Addr} {g : TG} {tt : TT} {te : TE} {vs : List Nat} {σ : L2.St} {H1 : Hp} {D : Addr} {Qd : Hp → Prop} (c : α → Bool) (hn : xs.length ≤ 100000) (ha : LsT K vv H1 a xs) (hD : H1 D = none)
    (hs : ∀ x t H (Qy : V → Hp → Prop) (Qn : Hp → Prop), x ∈ xs → Same H1 H → SqT K H t (vv x) → (∀ H4, Same H H4 → Qy (.bl (c x)) H4) →
      g (.ref t) (wipe σ vs) H fun σ2 H2 => wipe σ2 vs = wipe σ vs ∧ tt σ2 H2 fun b H3 => if b = true then te σ2 H3 Qy else Qn H3)
    (hd : ∀ H, Same H1 H → H D = some (.lst ((xs.map c).map V.bl)) → Qd H) :
    ∃ W : Nat → Nat → Hp → Prop, (∃ m, W 0 m (upd H1 D (.lst []))) ∧ ∀ i m H, W i m H →
      ((Itl K a).stop i H ∧ Qd H) ∨ ((Itl K a).go i H ∧ ∃ Nx : Hp → Prop, (∀ H', Nx H' → ∃ m', m' < m ∧ W (i + 1) m' H') ∧ ∀ x H', (Itl K a).yld i H x H' → g x (wipe σ vs) H' fun σ2 H2 => wipe σ2 vs = wipe σ vs ∧ tt σ2 H2 fun b H3 =>
        if b = true then te σ2 H3 fun y H4 => ∃ acc, H4 D = some (.lst acc) ∧ acc.length < sizeLine ∧ Nx (upd H4 D (.lst (acc ++ [y]))) else Nx H3) := by
  obtain ⟨ts, h1, h2, h3⟩ := ha.got
  refine lc_sel (n := xs.length) (by have := walk_list (K := K) (a := a) (xs := ts.map V.ref); rw [List.length_map, h2] at this; exact this) (fun j => (xs[j]?).map fun x => V.bl (c x)) hn hD (fun H2 s3 => SqL.of (s3 _ _ h1)) ?_ ?_
  · rintro j v H5 H6 Qy Qn hj s5 ⟨rfl, hy⟩ ky_ kn
    obtain ⟨t, e1, e2⟩ := h3 j hj
    rw [e1] at hy
    obtain rfl := Option.some.inj hy
    exact hs xs[j] t _ Qy Qn (List.getElem_mem hj) s5 (SqT_up s5 e2) fun H4 s4 => ky_ _ _ s4 (by rw [List.getElem?_eq_getElem hj]; rfl)
  · intro H2 s2 hR
    refine hd H2 s2 ?_
    rw [hR, fm_all (fun x => V.bl (c x)) xs, List.map_map]
    rfl
theorem ls_rel {K : PySem.W.Frag} {α : Type} {vv : α → List V} {xs : List α} {a : Addr} {g : TG} {tt : TT} {te : TE} {vs : List Nat} {σ : L2.St} {H1 : Hp} {D : Addr} {Qd : Hp → Prop} (c : α → Bool) (R : α → V → Hp → Prop) (hR : ∀ x y H H', Same H H' → R x y H → R x y H') (hn : xs.length ≤ 100000) (ha : LsT K vv H1 a xs) (hD : H1 D = none)
    (hs : ∀ x t H (Qy : V → Hp → Prop) (Qn : Hp → Prop), x ∈ xs → Same H1 H → (∃ acc, H D = some (.lst acc)) → SqT K H t (vv x) → SqT K (off H D) t (vv x) → (∀ y H4, c x = true → Same H H4 → R x y (off H4 D) → Qy y H4) → (∀ H4, c x = false → Same H H4 → Qn H4) →
      g (.ref t) (wipe σ vs) H fun σ2 H2 => wipe σ2 vs = wipe σ vs ∧ tt σ2 H2 fun b H3 => if b = true then te σ2 H3 Qy else Qn H3)
    (hd : ∀ H ys, Same H1 H → H D = some (.lst ys) → Paired (fun x y => R x y (off H D)) (xs.filter c) ys → Qd H) :
    ∃ W : Nat → Nat → Hp → Prop, (∃ m, W 0 m (upd H1 D (.lst []))) ∧ ∀ i m H, W i m H →
      ((Itl K a).stop i H ∧ Qd H) ∨ ((Itl K a).go i H ∧ ∃ Nx : Hp → Prop, (∀ H', Nx H' → ∃ m', m' < m ∧ W (i + 1) m' H') ∧ ∀ x H', (Itl K a).yld i H x H' → g x (wipe σ vs) H' fun σ2 H2 => wipe σ2 vs = wipe σ vs ∧ tt σ2 H2 fun b H3 =>
        if b = true then te σ2 H3 fun y H4 => ∃ acc, H4 D = some (.lst acc) ∧ acc.length < sizeLine ∧ Nx (upd H4 D (.lst (acc ++ [y]))) else Nx H3) := by
  obtain ⟨ts, h1, h2, h3⟩ := ha.got
  refine lc_rel (n := xs.length) (by have := walk_list (K := K) (a := a) (xs := ts.map V.ref); rw [List.length_map, h2] at this; exact this) (fun i => ((xs[i]?).map c).getD false) (fun i y G => ∃ x, ((xs[i]?).map id) = some x ∧ R x y G) (fun i y G G' s ⟨x, e, h⟩ => ⟨x, e, hR _ _ _ _ s h⟩) hn hD (fun H2 s3 => SqL.of (s3 _ _ h1)) ?_ ?_
  · rintro j v H5 H6 Qy Qn hj s5 hacc ⟨rfl, hy⟩ ky_ kn
    obtain ⟨t, e1, e2⟩ := h3 j hj
    rw [e1] at hy
    obtain rfl := Option.some.inj hy
    rw [List.getElem?_eq_getElem hj] at ky_ kn
    exact hs xs[j] t _ Qy Qn (List.getElem_mem hj) s5 hacc (SqT_up s5 e2) (SqT_off e2 s5 hD) (fun y H4 cx s4 r => ky_ y H4 cx s4 ⟨_, rfl, r⟩) fun H4 cx s4 => kn H4 cx s4
  · intro H2 ys s2 hys py
    refine hd H2 ys s2 hys ?_
    have h := paired_fm py
    rw [fm_get id c xs, List.map_id] at h
    exact h
end K18
set_option Elab.async false
set_option linter.all false
set_option maxRecDepth 100000
set_option maxHeartbeats 4000000
/-! y = {k: v for ..}, y a local name. -/
namespace KB
open PySem PySem.Spec PyProof.Rows L2
theorem ps_setDc {X : Cx} {i : Nat} {y : Str} {py : Pos} {kx vx tg iter : Expr} {ifs : List Expr} {scope : Scope} {own : List (Str × Nat)} {pos spos : Pos} {wi : TI} {g : TG} {tt : TT} {tk tv : TE}
    (hc : X.calm = true) (hN : X.N.Nodup) (hy : X.N[i]? = some y) (hl : X.env.scope.names.lookup y = some .local) (sw : swapsWith (.DictComp kx vx [⟨tg, iter, ifs, 0⟩] scope pos) (some (.Name y py)) spos.line X.env = pure true)
    (hi : PI X tg iter wi) (ok : BlkOk X.N X.env.scope scope own)
    (hg : ∀ (s : Shared) (H : Hp) (C : Addr) (cl : List (Str × Addr)) (fp : List Addr), PG (X.blk s H scope (compEnvC scope cl C X.env) fp) tg g) (ht : ∀ (s : Shared) (H : Hp) (C : Addr) (cl : List (Str × Addr)) (fp : List Addr), PTs (X.blk s H scope (compEnvC scope cl C X.env) fp) ifs tt)
    (hk : ∀ (s : Shared) (H : Hp) (C : Addr) (cl : List (Str × Addr)) (fp : List Addr), PE (X.blk s H scope (compEnvC scope cl C X.env) fp) kx tk) (hv : ∀ (s : Shared) (H : Hp) (C : Addr) (cl : List (Str × Addr)) (fp : List Addr), PE (X.blk s H scope (compEnvC scope cl C X.env) fp) vx tv)
    (hs : ∀ x, foldedSetIterable iter X.env x = pure x := by intro _; rfl) : PS X (.Assign [.Name y py] (.DictComp kx vx [⟨tg, iter, ifs, 0⟩] scope pos) spos) (tAsg (tDc wi g tt tk tv (own.map (·.2))) (gName i)) := by
  refine ⟨fun pins s σ H D I h => ?_⟩
  rw [exec_Assign_Name_used _ _ _ _ sw]
  refine wpAny_bind (wpAny_standAt (wpAny_bind ?_))
  have h' : tDc wi g tt tk tv (own.map (·.2)) σ H (fun x G => gName i x σ G D.nx) := h
  have run := dc_core (use := some (assign (.Name y py) X.env)) (pos := pos) (pos' := firstIterPos [⟨tg, iter, ifs, 0⟩] pos) (Qf := fun _ s' => SP X pins D .next s') hc hN I hi ok hg ht hk hv hs h' fun L C s' m G J q hn f => by
    show wpAny _ _ (assign (.Name y py) X.env (.ref L)) _ _ _
    refine wpAny_assign_Name (store_ok2 (v := V.ref L) J hN hy (.inl hl) rfl (fun s2 J2 ⟨a, sb, ha⟩ => ?_) (.inr hl))
    obtain ⟨f0, f1, f2, f3, f4, f5⟩ := f
    have ne : C ≠ a := by
      rcases ha with z | z
      · rw [z]
        exact f1
      · exact fun e => f4 y a z e.symm
    exact ⟨m, hn.sameBut sb ne, fun h3 sb3 => ⟨_, G, J2.turned (t' := s2.toks) (fun b o hb e => (sb3.2 b hb).trans e) f0 f1 f3 f4 f5, q⟩⟩
  refine wpAny_bind (thn run fun _ s' hq => ?_)
  exact wpAny_pure (wpAny_pure hq)
end KB
set_option Elab.async false
set_option linter.all false
set_option maxRecDepth 100000
set_option maxHeartbeats 4000000
/-! sorted(xs), xs new lists of counts: some order of them. -/
namespace KB
open PySem PySem.Spec PyProof.Rows L2
/-- y is a list of these counts -/
def LsAt (H : Hp) (l : List Nat) (y : V) : Prop := ∃ T, y = .ref T ∧ H T = some (.lst (l.map fun x : Nat => V.int (x : Int)))
theorem LsAt.same {H H' : Hp} (k : Same H H') {t : List Nat} {y : V} : LsAt H t y → LsAt H' t y := fun ⟨T, e, h⟩ => ⟨T, e, k _ _ h⟩
def lsD (t : List Nat) : PyData := .list ((t.map fun x : Nat => (x : Int)).map PyData.int)
def encL (H : Hp) (y : V) : PyData := match y with
  | .ref T => (match H T with
    | some (.lst xs) => .list (xs.map fun v => match v with | .int i => PyData.int i | _ => .none)
    | _ => .none)
  | _ => .none
theorem encL_at {H : Hp} {t : List Nat} {y : V} (h : LsAt H t y) : encL H y = lsD t := by
  obtain ⟨T, rfl, h⟩ := h
  simp only [encL, lsD, h, List.map_map]
  rfl
def rSortL (K : PySem.W.Frag) : List V → Hp → VK → Prop := fun vs H Q => ∃ (a : Addr) (xs : List V) (ts : List (List Nat)), vs = [.ref a] ∧ SqL K H a xs ∧ Paired (LsAt H) ts xs ∧
  ∀ p ys ts', H p = none → ts'.Perm ts → Paired (LsAt H) ts' ys → Q (.ref p) (upd H p (.lst ys))
theorem cr_sortedL {X : Cx} (hu : X.A.units + 64 < cLine) : CallR X (.builtin "sorted") (rSortL X.K) := by
  intro pins s σ H vs us Q I r h
  obtain ⟨a, xs, ts, rfl, hs, py, q⟩ := h
  have get : ∀ x ∈ xs, ∃ t ∈ ts, LsAt H t x := fun x mx => by
    obtain ⟨h1, h2, h3⟩ := zip_paired py
    rw [← h3] at mx
    obtain ⟨p, hp, rfl⟩ := List.mem_map.mp mx
    refine ⟨p.1, ?_, h1 p hp⟩
    rw [← h2]
    exact List.mem_map.mpr ⟨p, hp, rfl⟩
  refine cr_sortedD hu pins s σ H _ us Q I r ⟨a, xs, encL H, rfl, hs, fun x mx => ?_, fun d hd d' hd' => ?_, .inr fun d hd => ?_, fun x mx => ?_, fun p hp => ?_⟩
  · obtain ⟨t, _, h⟩ := get x mx
    rw [encL_at h]
    obtain ⟨T, rfl, hT⟩ := h
    refine .lst (SqL.of hT) ?_
    have := dpAll_ints (K := X.K) (H := H) (t.map fun x : Nat => (x : Int))
    rw [List.map_map] at this
    exact this
  · obtain ⟨x, mx, rfl⟩ := List.mem_map.mp hd
    obtain ⟨y, my, rfl⟩ := List.mem_map.mp hd'
    obtain ⟨t, _, h⟩ := get x mx
    obtain ⟨t', _, h'⟩ := get y my
    rw [encL_at h, encL_at h']
    show PySem.W.alike (.list _) (.list _) = true
    simp only [PySem.W.alike, alikeAll_ints]
  · obtain ⟨x, mx, rfl⟩ := List.mem_map.mp hd
    obtain ⟨t, mt, h⟩ := get x mx
    rw [encL_at h]
    unfold lsD
    constructor
    · intro z
      cases z
    · intro xs z
      cases z
  · obtain ⟨t, _, h⟩ := get x mx
    rw [encL_at h]
    unfold lsD
    simp only [PyData.depth, depth_ints]
    decide
  · obtain ⟨h1, h2, h3⟩ := zip_paired py
    have ps := paired_sort (F := LsAt H) (le := PySem.W.dataLe false (encL H)) (le' := PySem.W.dataLe false lsD) (fun a x b y h1 h2 => by
      unfold PySem.W.dataLe PySem.W.sortLe
      dsimp only
      rw [encL_at h1, encL_at h2]) py
    exact q p _ _ hp (List.mergeSort_perm _ _) ps
end KB
set_option Elab.async false
set_option linter.all false
set_option maxRecDepth 100000
set_option maxHeartbeats 4000000
/-! a op1 b op2 c op3 d op4 e -/
namespace KB
open PySem PySem.Spec PyProof.Rows L2
def tChain4 (r1 r2 r3 r4 : R2) (ta tb tc td te : TE) : TE := fun σ H Q => ta σ H fun x H1 => tb σ H1 fun y H2 => r1 x y H2 fun z H3 => ∃ k, z = .bl k ∧
  (if k = true then tc σ H3 fun y2 H4 => r2 y y2 H4 fun z2 H5 => ∃ k2, z2 = .bl k2 ∧
    (if k2 = true then td σ H5 fun y3 H6 => r3 y2 y3 H6 fun z3 H7 => ∃ k3, z3 = .bl k3 ∧
      (if k3 = true then te σ H7 fun y4 H8 => r4 y3 y4 H8 Q else Q (.bl false) H7)
    else Q (.bl false) H5) else Q (.bl false) H3)
section
variable {X : Cx} {a b c d e : Expr} {ta tb tc td te : TE} {pos : Pos}
theorem pe_chain4 {o1 o2 o3 o4 : CmpOp} {r1 r2 r3 r4 : R2} (h1 : OpR X (compareOp o1) r1) (h2 : OpR X (compareOp o2) r2) (h3 : OpR X (compareOp o3) r3) (h4 : OpR X (compareOp o4) r4) (ha : PE X a ta) (hb : PE X b tb) (hc : PE X c tc) (hd : PE X d td) (he : PE X e te)
    (hm : lastMarks [o1, o2, o3, o4] [b, c, d, e] = false := by with_unfolding_all rfl) : PE X (.Compare a [o1, o2, o3, o4] [b, c, d, e] pos) (tChain4 r1 r2 r3 r4 ta tb tc td te) := by
  refine ⟨fun pins s σ H Q I h => ?_⟩
  refine Compare_chain (thn (ha.run pins s σ H _ I h) fun v s1 ⟨x, H1, I1, rx, q1⟩ => chain_link (thn (hb.run pins s1 σ H1 _ I1 q1) fun u s2 ⟨y, H2, I2, ry, q2⟩ =>
    thn (h1 pins s2 σ H2 x y v u _ I2 rx ry q2) fun d1 s3 ⟨z, H3, I3, r3', k, e1, q3⟩ => ?_)) hm
  subst e1
  cases r3'
  refine wpAny_truthy_bool ?_
  cases k with
  | false => exact ite_ff ⟨.bl false, H3, I3, rfl, q3⟩
  | true =>
    refine ite_tt (chain_link (thn (hc.run pins s3 σ H3 _ I3 q3) fun u2 s4 ⟨y2, H4, I4, ry2, q4⟩ => thn (h2 pins s4 σ H4 y y2 u u2 _ I4 ry ry2 q4) fun d2 s5 ⟨z2, H5, I5, r5', k2, e2, q5⟩ => ?_))
    subst e2
    cases r5'
    refine wpAny_truthy_bool ?_
    cases k2 with
    | false => exact ite_ff ⟨.bl false, H5, I5, rfl, q5⟩
    | true =>
      refine ite_tt (chain_link (thn (hd.run pins s5 σ H5 _ I5 q5) fun u3 s6 ⟨y3, H6, I6, ry3, q6⟩ => thn (h3 pins s6 σ H6 y2 y3 u2 u3 _ I6 ry2 ry3 q6) fun d3 s7 ⟨z3, H7, I7, r7', k3, e3, q7⟩ => ?_))
      subst e3
      cases r7'
      refine wpAny_truthy_bool ?_
      cases k3 with
      | false => exact ite_ff ⟨.bl false, H7, I7, rfl, q7⟩
      | true => exact ite_tt (chain_last (thn (he.run pins s7 σ H7 _ I7 q7) fun w' s8 ⟨z', H8, I8, r8, q8⟩ => h4 pins s8 σ H8 y3 z' u3 w' Q I8 ry3 r8 q8))
end
end KB
set_option Elab.async false
set_option linter.all false
set_option maxRecDepth 100000
set_option maxHeartbeats 8000000
/-! Barriers left out; moments that serve. -/
namespace K18
open PySem PySem.Spec PyProof.Rows L2 KB LamX
def spNeedless (K : PySem.W.Frag) : Sp := fun vs H Q _ => ∃ (a b : Addr) (es : List Ev) (ws : List (Nat × Nat)), vs = [.ref a, .ref b] ∧ RunOk K H a es ∧ WtOk K H b es ws ∧ ∀ q H', Same H H' → H q = none → H' q = some (.lst (numsV (aloneL es ws))) → Q (.ref q) H'
def spSpared (K : PySem.W.Frag) : Sp := fun vs H Q _ => ∃ (a b : Addr) (es : List Ev) (ws : List (Nat × Nat)), vs = [.ref a, .ref b] ∧ RunOk K H a es ∧ WtOk K H b es ws ∧ ∀ q H', Same H H' → H q = none → H' q = some (.lst (numsV (goneL es ws (bars es).length))) → Q (.ref q) H'
def spIsDue (K : PySem.W.Frag) : Sp := fun vs H Q _ => ∃ (t : Addr) (w : Nat × Nat), vs = [.ref t] ∧ SqT K H t (wv w) ∧ w.1 < w.2 ∧ Q (.bl true) H
/-- tuples of a moment and a greater one -/
structure DueOk (K : PySem.W.Frag) (H : Hp) (b : Addr) (ws : List (Nat × Nat)) : Prop where
  at_ : WtAt K H b ws
  lt : ∀ w ∈ ws, w.1 < w.2
  len : ws.length ≤ 100
theorem DueOk.ext {K : PySem.W.Frag} {H H' : Hp} {b : Addr} {ws : List (Nat × Nat)} (k : ExtN H H') (h : DueOk K H b ws) : DueOk K H' b ws := ⟨h.at_.ext k, h.lt, h.len⟩
theorem DueOk.same {K : PySem.W.Frag} {H H' : Hp} {b : Addr} {ws : List (Nat × Nat)} (k : Same H H') (h : DueOk K H b ws) : DueOk K H' b ws := h.ext (ExtN.of k)
def spNeedDue (K : PySem.W.Frag) : Sp := fun vs H Q _ => ∃ (b : Addr) (ws : List (Nat × Nat)), vs = [.ref b] ∧ DueOk K H b ws ∧ ∀ H', Same H H' → Q .non H'
def spSyncs (K : PySem.W.Frag) : Sp := fun vs H Q _ => ∃ (b : Addr) (ws : List (Nat × Nat)), vs = [.ref b] ∧ DueOk K H b ws ∧ Tabs (TbK K) H ∧ ∀ q H', ExtN H H' → Tabs (TbK K) H' → NewN H q → H' q = some (.lst (numsV (ends ws))) → Q (.ref q) H'
def spBetween (K : PySem.W.Frag) : Sp := fun vs H Q _ => ∃ (c : Addr) (ms : List Nat) (w : Nat × Nat), vs = [.ref c, .int (w.1 : Int), .int (w.2 : Int)] ∧ H c = some (.lst (numsV ms)) ∧ ms.length ≤ 1000 ∧ ∀ q H', Same H H' → H q = none → H' q = some (.lst (numsV ((List.range ms.length).filter fun i => decide (w.1 < ms.getD i 0) && decide (ms.getD i 0 ≤ w.2)))) → Q (.ref q) H'
/-- a list of lists of numbers -/
def LLs (H0 H : Hp) (q : Addr) (L : List (List Nat)) : Prop := ∃ ys, H q = some (.lst ys) ∧ Paired (fun l y => ∃ T, y = V.ref T ∧ H0 T = none ∧ H T = some (.lst (numsV l))) L ys
def spServed (K : PySem.W.Frag) : Sp := fun vs H Q _ => ∃ (b c : Addr) (ws : List (Nat × Nat)) (ms : List Nat), vs = [.ref b, .ref c] ∧ DueOk K H b ws ∧ H c = some (.lst (numsV ms)) ∧ ms.length ≤ 1000 ∧ ms.Pairwise (· < ·) ∧ ∀ q H', Same H H' → H q = none → LLs H H' q ((List.range ms.length).map (servedBy ws ms)) → Q (.ref q) H'
theorem bars_at {es : List Ev} {i p : Nat} (h : (bars es)[i]? = some p) : (numsV (bars es))[i]? = some (.int (p : Int)) := by
  unfold numsV
  rw [List.getElem?_map, h]
  rfl
theorem fm_if {α β : Type} (C : α → Bool) (f : α → β) : ∀ l : List α, l.filterMap (fun i => if C i = true then some (f i) else none) = (l.filter C).map f
  | [] => rfl
  | x :: r => by
    rw [List.filterMap_cons, List.filter_cons, fm_if C f r]
    by_cases h : C x = true
    · rw [if_pos h, if_pos h]
      rfl
    · rw [if_neg h, if_neg h]
theorem fm_getD {α β : Type} {z : α} (c : α → Bool) (f : α → β) (l : List α) : (List.range l.length).filterMap (fun i => if c (l.getD i z) = true then some (f (l.getD i z)) else none) = (l.filter c).map f := by
  rw [fm_if (fun i => c (l.getD i z)) (fun i => f (l.getD i z)), ← sel_getG z l c, List.map_map]
  rfl
theorem paired_of {α β : Type} {R : α → β → Prop} : ∀ {xs : List α} {ys : List β}, xs.length = ys.length → (∀ (i : Nat) (x : α) (y : β), xs[i]? = some x → ys[i]? = some y → R x y) → Paired R xs ys
  | [], [], _, _ => .nil
  | [], _ :: _, l, _ => by cases l
  | _ :: _, [], l, _ => by cases l
  | x :: xs, y :: ys, l, k => .cons (k 0 x y rfl rfl) (paired_of (Nat.succ.inj l) fun i u v h1 h2 => k (i + 1) u v h1 h2)
theorem cut_one (xs : List V) : cutV xs none (some 1) = xs.take 1 := by
  unfold cutV
  have e1 : HT.sIx xs.length 0 none = 0 := rfl
  rw [e1, List.drop_zero]
  cases xs with
  | nil => rfl
  | cons x r =>
    have e2 : HT.sIx (x :: r).length (x :: r).length (some 1) = 1 := by
      unfold HT.sIx
      simp
    rw [e2]
theorem spare_len (es : List Ev) (ws : List (Nat × Nat)) : ∀ i, (spareL es ws i).1.length ≤ i
  | 0 => Nat.le_refl _
  | i + 1 => by
    have ih := spare_len es ws i
    show (match (bars es)[i]? with | some p => if stayB es ws (spareL es ws i).2 p (((bars es)[i + 1]?).getD es.length) then ((spareL es ws i).1, p + 1) else ((spareL es ws i).1 ++ [p], (spareL es ws i).2) | none => spareL es ws i).1.length ≤ i + 1
    split
    · split
      · exact Nat.le_succ_of_le ih
      · rw [List.length_append]
        exact Nat.succ_le_succ ih
    · exact Nat.le_succ_of_le ih
section
variable {P : Program} {w : World} {K : PySem.W.Frag} {mg : Str → Option Value} {base : Heap}
abbrev s_needless : Stmt := top 33
abbrev N_needless : List Str := ["run", "waits", "ahead", "barriers", "wanted", "early", "late", "place"]
theorem sc_needless : FnScope N_needless ["run", "waits"] (defScope s_needless) := ⟨rfl, rfl, rfl, by decide +kernel, rfl, by decide +kernel, by decide +kernel⟩
theorem ok_needless {f : Addr} {fd : FuncData} (F : FnP K "needless" s_needless f fd) (Z : FreeS mg)
    {f_need_run : Addr} {d_need_run : FuncData} (g_need_run : mg "need_run" = some (.ref f_need_run)) (F_need_run : FnP K "need_run" s_need_run f_need_run d_need_run) (G_need_run : FnOk P w K mg base CX0 5 f_need_run d_need_run ["run"] (spNeedRun K))
    {f_need_waits : Addr} {d_need_waits : FuncData} (g_need_waits : mg "need_waits" = some (.ref f_need_waits)) (F_need_waits : FnP K "need_waits" s_need_waits f_need_waits d_need_waits) (G_need_waits : FnOk P w K mg base CX0 6 f_need_waits d_need_waits ["run", "waits"] (spNeedWaits K))
    {f_barriers_ahead : Addr} {d_barriers_ahead : FuncData} (g_barriers_ahead : mg "barriers_ahead" = some (.ref f_barriers_ahead)) (F_barriers_ahead : FnP K "barriers_ahead" s_barriers_ahead f_barriers_ahead d_barriers_ahead) (G_barriers_ahead : FnOk P w K mg base CX0 1 f_barriers_ahead d_barriers_ahead ["run"] (spAhead K))
    {f_places_of_barriers : Addr} {d_places_of_barriers : FuncData} (g_places_of_barriers : mg "places_of_barriers" = some (.ref f_places_of_barriers)) (F_places_of_barriers : FnP K "places_of_barriers" s_places_of_barriers f_places_of_barriers d_places_of_barriers) (G_places_of_barriers : FnOk P w K mg base CX0 1 f_places_of_barriers d_places_of_barriers ["run"] (spPlaces K)) :
    FnOk P w K mg base CX0 7 f fd ["run", "waits"] (spNeedless K) := by
  have b_need_run : Binds K d_need_run ["run"] [] := F_need_run.bindsN fun _ _ _ _ _ _ us hl => match us, hl with | [_], _ => rfl
  have b_need_waits : Binds K d_need_waits ["run", "waits"] [] := F_need_waits.bindsN fun _ _ _ _ _ _ us hl => match us, hl with | [_, _], _ => rfl
  have b_barriers_ahead : Binds K d_barriers_ahead ["run"] [] := F_barriers_ahead.bindsN fun _ _ _ _ _ _ us hl => match us, hl with | [_], _ => rfl
  have b_places_of_barriers : Binds K d_places_of_barriers ["run"] [] := F_places_of_barriers.bindsN fun _ _ _ _ _ _ us hl => match us, hl with | [_], _ => rfl
  refine F.ok sc_needless (fun vs H Q E h => ?_) (fun cdv A outer s H vs Q E hr h => ?_)
  · obtain ⟨a, b, es, ws, rfl, _⟩ := h
    rfl
  · obtain ⟨a, b, es, ws, rfl, hR, hW, k⟩ := h
    obtain ⟨ts, hb, lt, ht⟩ := hW.at_.got
    have l1000 := hW.len
    have l100 := hR.len
    have sl : (3000 : Nat) ≤ sizeLine := by decide
    have hu : _ + 1 < cLine := Nat.lt_of_le_of_lt (Nat.add_le_add_left (by decide : 1 ≤ 64) _) hr.units
    have nd := sc_needless.nd
    refine ⟨_, PSs.nox (pss_cons (ps_expr (pe_call G_need_run (hr.mono (by decide)) rfl g_need_run F_need_run.kp b_need_run .nil pass0 (pa_cons (pv 0) (pa_nil))))
      (pss_cons (ps_expr (pe_call G_need_waits (hr.mono (by decide)) rfl g_need_waits F_need_waits.kp b_need_waits .nil pass0 (pa_cons (pv 0) (pa_cons (pv 1) (pa_nil)))))
      (pss_cons (ps_set (i := 2) nd rfl (Or.inr rfl) (pe_call G_barriers_ahead (hr.mono (by decide)) rfl g_barriers_ahead F_barriers_ahead.kp b_barriers_ahead .nil pass0 (pa_cons (pv 0) (pa_nil))))
      (pss_cons (ps_set (i := 3) nd rfl (Or.inr rfl) (pe_call G_places_of_barriers (hr.mono (by decide)) rfl g_places_of_barriers F_places_of_barriers.kp b_places_of_barriers .nil pass0 (pa_cons (pv 0) (pa_nil))))
      (pss_cons (ps_set (i := 4) nd rfl (Or.inr rfl) (pe_dc (own := [("early", 5), ("late", 6)]) (g := gTup K 2 (gCons (gName 5) (gCons (gName 6) (gNil)))) (tt := tTest (tOp rEq (tOp (rI0 fun i j => .int (i - j)) (tOp (rIxL K) (tVar 2) (tVar 6)) (tOp (rIxL K) (tVar 2) (tVar 5))) (tC (.int 1)))) (tk := tOp (rIxL K) (tVar 3) (tOp (rIxL K) (tVar 2) (tVar 5))) (tv := tC (.bl true)) rfl nd (pi_list (pv 1)) (blkOk_by (own := [("early", 5), ("late", 6)]) (N := N_needless) (sc := defScope s_needless) (by decide +kernel)) (fun _ _ _ _ _ => pg_tup rfl (pgs_cons (pg_name (i := 5) nd rfl (Or.inl rfl)) (pgs_cons (pg_name (i := 6) nd rfl (Or.inl rfl)) (pgs_nil)))) (fun _ _ _ _ _ => pts_one (pt_cmpR op_eq (pe_op op_sub (pe_ix ix_list (pv 2) (pv 6) (fun _ _ => rfl)) (pe_ix ix_list (pv 2) (pv 5) (fun _ _ => rfl))) (pe_int) (nomark _))) (fun _ _ _ _ _ => pe_ix ix_list (pv 3) (pe_ix ix_list (pv 2) (pv 5) (fun _ _ => rfl)) (fun _ _ => rfl)) (fun _ _ _ _ _ => pe_bl)))
      (pss_one (ps_ret (pe_lc (own := [("place", 7)]) (g := gName 7) (tt := tTest (tDNotIn (tVar 7) (tVar 4))) (te := tVar 7) (by rfl) nd (pi_list (pv 3))
          (blkOk_by (own := [("place", 7)]) (N := N_needless) (sc := defScope s_needless) (by decide +kernel)) (fun _ _ _ _ _ => pg_name (i := 7) nd rfl (Or.inl rfl)) (fun _ _ _ _ _ => pts_one (pt_cmp (pc_dnotin hu (pv 7) (pv 4))))
          (fun _ _ _ _ _ => pv 7))))))))), ?_⟩
    refine ⟨_, rfl, a, es, rfl, hR, fun G1 s1 => ⟨_, rfl, _, rfl, a, b, es, ws, rfl, hR.same s1, hW.same s1, fun G2 s2 => ?_⟩⟩
    have s12 := s1.trans s2
    refine ⟨_, rfl, a, es, rfl, hR.same s12, fun q3 G3 s3 n3 h3 => ?_⟩
    have s13 := s12.trans s3
    refine ⟨_, rfl, a, es, rfl, hR.same s13, fun q4 G4 s4 n4 h4 => ?_⟩
    have s14 := s13.trans s4
    have h34 := s4 _ _ h3
    refine ⟨_, rfl, b, rfl, ⟨_, SqL.of (s14 _ _ hb)⟩, fun D hD => ?_⟩
    refine dc_walk (n := ws.length) (by have := walk_list (K := K) (a := b) (xs := ts.map V.ref); rw [List.length_map, lt] at this; exact this) (fun i G => Same G4 G ∧ ∃ (ps : List Nat) (F : Nat → V), G D = some (.dK (dV ps F)) ∧ ps.length ≤ i ∧ ∀ p, p ∈ ps ↔ ∃ w ∈ ws.take i, ahead es w.2 - ahead es w.1 = 1 ∧ (bars es)[ahead es w.1]? = some p)
      ⟨Same.updf hD, [], fun _ => .non, upd_same, Nat.le_refl _, fun p => ⟨fun h => (nomatch h), fun ⟨w, h, _⟩ => (nomatch h)⟩⟩ (fun i G _ hh => SqL.of (hh.1 _ _ (s14 _ _ hb))) ?_ ?_
    · rintro i v G G' hi ⟨sG, ps, Fv, hDG, lps, hps⟩ ⟨rfl, hv⟩
      obtain ⟨t, e1, e2⟩ := ht i hi
      rw [e1] at hv
      obtain rfl : V.ref t = v := Option.some.inj hv
      have ok := hW.ok.ok _ (List.getElem_mem hi)
      have l1 := ok.lt
      have l2 := ok.len
      have hw := SqT_up (s14.trans sG) e2
      have tk : ws.take (i + 1) = ws.take i ++ [ws[i]] := by
        rw [List.take_succ, List.getElem?_eq_getElem hi]
        rfl
      refine ⟨t, [_, _], rfl, hw, rfl, _, [_], rfl, _, [], rfl, rfl, ?_⟩
      refine ⟨rfl, _, rfl, _, rfl, q3, _, _, _, rfl, rfl, SqL.of (sG _ _ h34), atI_nat (ahead_at l2), _, rfl, _, rfl, q3, _, _, _, rfl, rfl, SqL.of (sG _ _ h34), atI_nat (ahead_at (by omega)), ?_⟩
      refine ⟨_, _, rfl, rfl, rfl, _, rfl, ?_⟩
      have m1 := ahead_mono es (Nat.le_of_lt l1)
      have m2 := ahead_mono es (Nat.le_of_lt l2)
      by_cases c : ahead es ws[i].2 - ahead es ws[i].1 = 1
      · refine iteP (congrArg V.int (show (ahead es ws[i].2 : Int) - (ahead es ws[i].1 : Int) = 1 by omega)) ?_
        have m3 : ahead es ws[i].1 < (bars es).length := by
          rw [bars_len]
          omega
        obtain ⟨p, hp⟩ : ∃ p, (bars es)[ahead es ws[i].1]? = some p := ⟨_, List.getElem?_eq_getElem m3⟩
        refine ⟨_, rfl, _, rfl, _, rfl, q3, _, _, _, rfl, rfl, SqL.of (sG _ _ h34), atI_nat (ahead_at (by omega)), q4, _, _, _, rfl, rfl, SqL.of (sG _ _ h4), atI_nat (bars_at hp), ?_⟩
        refine ⟨_, ky p, rfl, hDG, by rw [dV_len]; omega, fun c o e => by rw [upd_ne (ne_of_none e hD)]; exact sG _ _ e, ?_⟩
        have mem : ∀ p', (∃ w ∈ ws.take (i + 1), ahead es w.2 - ahead es w.1 = 1 ∧ (bars es)[ahead es w.1]? = some p') ↔ p' ∈ ps ∨ p' = p := fun p' => by
          rw [hps, tk]
          constructor
          · rintro ⟨w, hw, q1, q2⟩
            rcases List.mem_append.mp hw with m | m
            · exact .inl ⟨w, m, q1, q2⟩
            · rw [List.mem_singleton.mp m, hp] at q2
              exact .inr (Option.some.inj q2).symm
          · rintro (⟨w, hw, q⟩ | rfl)
            · exact ⟨w, List.mem_append_left _ hw, q⟩
            · exact ⟨ws[i], List.mem_append_right _ (List.mem_singleton.mpr rfl), c, hp⟩
        by_cases m : p ∈ ps
        · refine ⟨ps, put Fv p (.bl true), by rw [upd_same, dV_put m], by omega, fun p' => ?_⟩
          rw [mem]
          exact ⟨.inl, fun h => h.elim id fun z => z ▸ m⟩
        · refine ⟨ps ++ [p], put Fv p (.bl true), by rw [upd_same, dV_new m], by rw [List.length_append]; show _ + 1 ≤ _; omega, fun p' => ?_⟩
          rw [mem, List.mem_append, List.mem_singleton]
      · refine iteQ (fun z => c (by have := V.int.inj z; omega)) ⟨sG, ps, Fv, hDG, by omega, fun p' => ?_⟩
        rw [hps, tk]
        constructor
        · rintro ⟨w, hw, q⟩
          exact ⟨w, List.mem_append_left _ hw, q⟩
        · rintro ⟨w, hw, q1, q2⟩
          rcases List.mem_append.mp hw with m | m
          · exact ⟨w, m, q1, q2⟩
          · rw [List.mem_singleton.mp m] at q1
            exact absurd q1 c
    · rintro G5 ⟨sG, ps, Fv, hDG, lps, hps⟩
      rw [List.take_length] at hps
      have s15 := s14.trans sG
      have h45 := sG _ _ h4
      have lb : (numsV (bars es)).length = (bars es).length := List.length_map _
      have lb2 : (bars es).length ≤ es.length := by
        have := List.length_filter_le (isB es) (List.range es.length)
        rw [List.length_range] at this
        exact this
      refine via_nx ?_
      refine ⟨_, rfl, q4, rfl, ⟨_, SqL.of h45⟩, fun D2 hD2 => ?_⟩
      refine lc_sel (n := (bars es).length) (by have := walk_list (K := K) (a := q4) (xs := numsV (bars es)); rw [lb] at this; exact this) (fun i => if (!wantedB es ws ((bars es).getD i 0)) = true then some (.int ((bars es).getD i 0 : Int)) else none) (by omega) hD2 (fun H2 s2 => SqL.of (s2 _ _ h45)) ?_ ?_
      · rintro i v H2 H3 Qy Qn hi sH ⟨rfl, hv⟩ ky_ kn
        obtain ⟨p, hp⟩ : ∃ p, (bars es)[i]? = some p := ⟨_, List.getElem?_eq_getElem hi⟩
        rw [bars_at hp] at hv
        obtain rfl := Option.some.inj hv
        have eg : (bars es).getD i 0 = p := by
          rw [List.getD_eq_getElem?_getD, hp]
          rfl
        rw [eg] at ky_ kn
        have wi : wantedB es ws p = decide (p ∈ ps) := by
          rw [Bool.eq_iff_iff, decide_eq_true_eq, hps]
          unfold wantedB
          rw [List.any_eq_true]
          simp only [Bool.and_eq_true, decide_eq_true_eq]
        rw [wi] at ky_ kn
        have dg : DGet H3 D (.int (p : Int)) (if p ∈ ps then some (Fv p) else none) := by
          refine .inl ⟨_, ky p, .inl (sH _ _ hDG), rfl, ?_⟩
          by_cases m : p ∈ ps
          · rw [dV_val m, if_pos m]
          · rw [dV_none m, if_neg m]
        refine ⟨rfl, _, rfl, _, rfl, D, _, rfl, dg, _, rfl, ?_⟩
        by_cases m : p ∈ ps
        · rw [if_pos m]
          rw [decide_eq_true m] at kn
          exact iteF (kn _ (Same.refl _) rfl)
        · rw [if_neg m]
          rw [decide_eq_false m] at ky_
          exact iteT ⟨_, rfl, ky_ _ _ (Same.refl _) rfl⟩
      · intro H2 s2 hR2
        refine k D2 H2 (s15.trans s2) (none_back s15 hD2) (hR2.trans (congrArg (fun l => some (HO.lst l)) ?_))
        rw [← alone_eq]
        unfold numsV
        exact fm_getD (fun p => !wantedB es ws p) (fun p : Nat => V.int (p : Int)) (bars es)
abbrev s_spared : Stmt := top 34
abbrev N_spared : List Str := ["run", "waits", "kept", "barriers", "gone", "last", "place", "onward", "early", "late"]
theorem sc_spared : FnScope N_spared ["run", "waits"] (defScope s_spared) := ⟨rfl, rfl, rfl, by decide +kernel, rfl, by decide +kernel, by decide +kernel⟩
theorem ok_spared {f : Addr} {fd : FuncData} (F : FnP K "spared" s_spared f fd) (Z : FreeS mg)
    {f_need_run : Addr} {d_need_run : FuncData} (g_need_run : mg "need_run" = some (.ref f_need_run)) (F_need_run : FnP K "need_run" s_need_run f_need_run d_need_run) (G_need_run : FnOk P w K mg base CX0 5 f_need_run d_need_run ["run"] (spNeedRun K))
    {f_need_waits : Addr} {d_need_waits : FuncData} (g_need_waits : mg "need_waits" = some (.ref f_need_waits)) (F_need_waits : FnP K "need_waits" s_need_waits f_need_waits d_need_waits) (G_need_waits : FnOk P w K mg base CX0 6 f_need_waits d_need_waits ["run", "waits"] (spNeedWaits K))
    {f_kept_waits : Addr} {d_kept_waits : FuncData} (g_kept_waits : mg "kept_waits" = some (.ref f_kept_waits)) (F_kept_waits : FnP K "kept_waits" s_kept_waits f_kept_waits d_kept_waits) (G_kept_waits : FnOk P w K mg base CX0 2 f_kept_waits d_kept_waits ["run", "waits"] (spKept K))
    {f_places_of_barriers : Addr} {d_places_of_barriers : FuncData} (g_places_of_barriers : mg "places_of_barriers" = some (.ref f_places_of_barriers)) (F_places_of_barriers : FnP K "places_of_barriers" s_places_of_barriers f_places_of_barriers d_places_of_barriers) (G_places_of_barriers : FnOk P w K mg base CX0 1 f_places_of_barriers d_places_of_barriers ["run"] (spPlaces K)) :
    FnOk P w K mg base CX0 7 f fd ["run", "waits"] (spSpared K) := by
  have b_need_run : Binds K d_need_run ["run"] [] := F_need_run.bindsN fun _ _ _ _ _ _ us hl => match us, hl with | [_], _ => rfl
  have b_need_waits : Binds K d_need_waits ["run", "waits"] [] := F_need_waits.bindsN fun _ _ _ _ _ _ us hl => match us, hl with | [_, _], _ => rfl
  have b_kept_waits : Binds K d_kept_waits ["run", "waits"] [] := F_kept_waits.bindsN fun _ _ _ _ _ _ us hl => match us, hl with | [_, _], _ => rfl
  have b_places_of_barriers : Binds K d_places_of_barriers ["run"] [] := F_places_of_barriers.bindsN fun _ _ _ _ _ _ us hl => match us, hl with | [_], _ => rfl
  refine F.ok sc_spared (fun vs H Q E h => ?_) (fun cdv A outer s H vs Q E hr h => ?_)
  · obtain ⟨a, b, es, ws, rfl, _⟩ := h
    rfl
  · obtain ⟨a, b, es, ws, rfl, hR, hW, k⟩ := h
    obtain ⟨ta, ha, lta, _⟩ := hR.at_.got
    have l1000 := hW.len
    have l100 := hR.len
    have sl : (3000 : Nat) ≤ sizeLine := by decide
    have nd := sc_spared.nd
    refine ⟨_, PSs.nox (pss_cons (ps_expr (pe_call G_need_run (hr.mono (by decide)) rfl g_need_run F_need_run.kp b_need_run .nil pass0 (pa_cons (pv 0) (pa_nil))))
      (pss_cons (ps_expr (pe_call G_need_waits (hr.mono (by decide)) rfl g_need_waits F_need_waits.kp b_need_waits .nil pass0 (pa_cons (pv 0) (pa_cons (pv 1) (pa_nil)))))
      (pss_cons (ps_set (i := 2) nd rfl (Or.inl rfl) (pe_call G_kept_waits (hr.mono (by decide)) rfl g_kept_waits F_kept_waits.kp b_kept_waits .nil pass0 (pa_cons (pv 0) (pa_cons (pv 1) (pa_nil)))))
      (pss_cons (ps_set (i := 3) nd rfl (Or.inl rfl) (pe_call G_places_of_barriers (hr.mono (by decide)) rfl g_places_of_barriers F_places_of_barriers.kp b_places_of_barriers .nil pass0 (pa_cons (pv 0) (pa_nil))))
      (pss_cons (ps_set (i := 4) nd rfl (Or.inl rfl) (pe_lst (pa_nil)))
      (pss_cons (ps_set (i := 5) nd rfl (Or.inr rfl) (pe_un un_neg (pe_int)))
      (pss_cons (ps_for PassesOwn.never rfl (pi_zip (by rfl) Z.zip (pa_cons (pv 3) (pa_cons (pe_op op_cat (pe_slice sl_list (pv 3) (po_some (pe_int)) (po_none)) (pe_lst (pa_cons (pe_callB call_len_seq (by rfl) Z.len (by decide +kernel) (pa_cons (pv 0) (pa_nil))) (pa_nil)))) (pa_nil)))) (pg_tup rfl (pgs_cons (pg_name (i := 6) nd rfl (Or.inr rfl)) (pgs_cons (pg_name (i := 7) nd rfl (Or.inr rfl)) (pgs_nil))))
        (pss_one (ps_if (pt_val (pe_callB (cr_any rfl) (by rfl) Z.any (by decide +kernel) (pa_cons (pe_lc (own := [("early", 8), ("late", 9)]) (g := gTup K 2 (gCons (gName 8) (gCons (gName 9) (gNil)))) (tt := tYes) (te := tChain4 (rI0 fun i j => .bl (decide (i < j))) (rI0 fun i j => .bl (decide (i < j))) (rI0 fun i j => .bl (decide (i < j))) (rI0 fun i j => .bl (decide (i < j))) (tVar 5) (tVar 8) (tVar 6) (tVar 9) (tVar 7)) (by rfl) nd (pi_list (pv 2))
          (blkOk_by (own := [("early", 8), ("late", 9)]) (N := N_spared) (sc := defScope s_spared) (by decide +kernel)) (fun _ _ _ _ _ => pg_tup rfl (pgs_cons (pg_name (i := 8) nd rfl (Or.inl rfl)) (pgs_cons (pg_name (i := 9) nd rfl (Or.inl rfl)) (pgs_nil)))) (fun _ _ _ _ _ => pts_nil)
          (fun _ _ _ _ _ => pe_chain4 op_lt op_lt op_lt op_lt (pv 5) (pv 8) (pv 6) (pv 9) (pv 7))) (pa_nil)))) (pss_one (ps_set (i := 5) nd rfl (Or.inr rfl) (pv 6))) (pss_one (ps_expr (pe_bm PySem.F.plainAttrs_list PySem.F.slot_list_append PySem.F.type_list_append mt_append (pv 4) (pa_cons (pv 6) (pa_nil))))))))
      (pss_one (ps_ret (pv 4)))))))))), ?_⟩
    refine ⟨_, rfl, a, es, rfl, hR, fun G1 s1 => ⟨_, rfl, _, rfl, a, b, es, ws, rfl, hR.same s1, hW.same s1, fun G2 s2 => ?_⟩⟩
    have s12 := s1.trans s2
    refine ⟨_, rfl, _, rfl, a, b, es, ws, rfl, hR.same s12, hW.same s12, fun q2 G3 s3 n3 h3 => ?_⟩
    have s13 := s12.trans s3
    refine ⟨_, rfl, a, es, rfl, hR.same s13, fun q3 G4 s4 n4 h4 => ?_⟩
    have s14 := s13.trans s4
    have h34 := h3.same s4
    dsimp only [cxOf, Cx.nox]
    have ha4 := s14 _ _ ha
    have lb : (numsV (bars es)).length = (bars es).length := List.length_map _
    have lb2 : (bars es).length ≤ es.length := by
      have := List.length_filter_le (isB es) (List.range es.length)
      rw [List.length_range] at this
      exact this
    refine ⟨(by show 0 ≤ sizeLine; omega), fun q hq => ?_⟩
    have sq := Same.updf (o := .lst []) hq
    have hqG : (upd G4 q (.lst [])) q = some (.lst []) := upd_same
    have s15 := s14.trans sq
    obtain ⟨G5, eG⟩ : ∃ X, X = upd G4 q (.lst []) := ⟨_, rfl⟩
    rw [← eG] at sq hqG s15 ⊢
    clear eG
    refine ⟨_, rfl, ?_⟩
    have h45 := sq _ _ h4
    have h35 := h34.same sq
    have ha5 := sq _ _ ha4
    refine ⟨_, rfl, _, rfl, _, rfl, q3, _, rfl, SqL.of h45, fun c1 hc1 => ?_⟩
    rw [cut_tl]
    have x1 := Same.updf (o := .lst ((numsV (bars es)).drop 1)) hc1
    refine ⟨_, rfl, a, _, rfl, .inl (SqL.of (x1 _ _ ha5)), (by show 1 ≤ sizeLine; omega), fun c2 hc2 => ?_⟩
    have x2 := Same.updf (o := .lst [V.int ((ta.map V.ref).length : Int)]) hc2
    refine ⟨c1, c2, _, _, rfl, rfl, x2 _ _ upd_same, upd_same, (by rw [List.length_drop, lb]; show _ + 1 ≤ _; omega), fun c3 hc3 => ?_⟩
    have x3 := Same.updf (o := .lst ((numsV (bars es)).drop 1 ++ [V.int ((ta.map V.ref).length : Int)])) hc3
    have y3 : (upd (upd (upd G5 c1 (.lst ((numsV (bars es)).drop 1))) c2 (.lst [V.int ((ta.map V.ref).length : Int)])) c3 (.lst ((numsV (bars es)).drop 1 ++ [V.int ((ta.map V.ref).length : Int)]))) c3 = some (.lst ((numsV (bars es)).drop 1 ++ [V.int ((ta.map V.ref).length : Int)])) := upd_same
    have s58 := (x1.trans x2).trans x3
    obtain ⟨G8, eG⟩ : ∃ X, X = upd (upd (upd G5 c1 (.lst ((numsV (bars es)).drop 1))) c2 (.lst [V.int ((ta.map V.ref).length : Int)])) c3 (.lst ((numsV (bars es)).drop 1 ++ [V.int ((ta.map V.ref).length : Int)])) := ⟨_, rfl⟩
    rw [← eG] at s58 y3 ⊢
    clear eG x1 x2 x3
    have hq8 := s58 _ _ hqG
    have h48 := s58 _ _ h45
    have h38 := h35.same s58
    have s18 := s15.trans s58
    have nq : H q = none := none_back s14 hq
    have nq3 : q3 ≠ q := fun z => by rw [z, hq] at h4; cases h4
    have nc3 : c3 ≠ q := fun z => by
      rw [z, hq8] at y3
      have y3 := congrArg (fun o : Option HO => match o with | some (.lst l) => l.length | _ => 0) y3
      simp at y3
    have nq2 : q2 ≠ q := fun z => by
      obtain ⟨tk, e, _⟩ := h34.ex
      rw [z, hq] at e
      cases e
    have onw : ∀ i p, (bars es)[i]? = some p → ((numsV (bars es)).drop 1 ++ [V.int ((ta.map V.ref).length : Int)])[i]? = some (V.int ((((bars es)[i + 1]?).getD es.length : Nat) : Int)) := fun i p hp => by
      have bi := (List.getElem?_eq_some_iff.mp hp).1
      by_cases c : i + 1 < (bars es).length
      · rw [List.getElem?_append_left (by rw [List.length_drop, lb]; omega), List.getElem?_drop]
        unfold numsV
        rw [List.getElem?_map, show 1 + i = i + 1 by omega, List.getElem?_eq_getElem c]
        rfl
      · rw [List.getElem?_append_right (by rw [List.length_drop, lb]; omega), List.getElem?_eq_none (show (bars es).length ≤ i + 1 by omega), List.length_drop, lb, show i - ((bars es).length - 1) = 0 by omega, List.length_map, lta]
        rfl
    refine ⟨q3, c3, numsV (bars es), _, rfl, SqL.of h48, SqL.of y3, ?_⟩
    refine for_it (n := (bars es).length) (walk_zip (K := K) (a := q3) (b := c3) (xs := numsV (bars es)) (ys := (numsV (bars es)).drop 1 ++ [V.int ((ta.map V.ref).length : Int)]) (by rw [List.length_append, List.length_drop, lb]; show _ = min _ (_ + 1); omega)) (fun i σ G => But q G8 G ∧ G q = some (.lst (numsV (spareL es ws i).1)) ∧ ∃ v6 v7, σ = [some (.ref a), some (.ref b), some (.ref q2), some (.ref q3), some (.ref q), some (.int ((((spareL es ws i).2 : Nat) : Int) - 1)), v6, v7, none, none])
      ⟨But.refl _ _, hq8, none, none, rfl⟩ (fun i σ G _ hh => ⟨SqL.of (hh.1 _ _ nq3 h48), SqL.of (hh.1 _ _ nc3 y3)⟩) ?_ ?_
    · rintro i v σ G' G hi ⟨bG, hqG', v6, v7, rfl⟩ ⟨T, x1, x2, rfl, nT, rfl, g1, g2⟩
      dsimp only at g1 g2
      obtain ⟨p, hp⟩ : ∃ p, (bars es)[i]? = some p := ⟨_, List.getElem?_eq_getElem hi⟩
      rw [bars_at hp] at g1
      rw [onw i p hp] at g2
      obtain rfl := Option.some.inj g1
      obtain rfl := Option.some.inj g2
      have sT := Same.updf (o := .tup [V.int (p : Int), V.int ((((bars es)[i + 1]?).getD es.length : Nat) : Int)]) nT
      have bT : But q G8 (upd G' T (.tup [V.int (p : Int), V.int ((((bars es)[i + 1]?).getD es.length : Nat) : Int)])) := bG.trans (But.of sT)
      have hqT := sT _ _ hqG'
      obtain ⟨on, eon⟩ : ∃ on, on = ((bars es)[i + 1]?).getD es.length := ⟨_, rfl⟩
      obtain ⟨la, ela⟩ : ∃ la, la = (spareL es ws i).2 := ⟨_, rfl⟩
      have stp : spareL es ws (i + 1) = if stayB es ws (spareL es ws i).2 p (((bars es)[i + 1]?).getD es.length) then ((spareL es ws i).1, p + 1) else ((spareL es ws i).1 ++ [p], (spareL es ws i).2) := by
        show (match (bars es)[i]? with | some p => _ | none => _) = _
        rw [hp]
      rw [← eon, ← ela] at stp
      rw [← eon] at sT bT hqT ⊢
      rw [← ela]
      obtain ⟨G9, eG⟩ : ∃ X, X = upd G' T (.tup [V.int (p : Int), V.int (on : Int)]) := ⟨_, rfl⟩
      have hTT : SqT K G9 T [V.int (p : Int), V.int (on : Int)] := by rw [eG]; exact SqT.of upd_same
      rw [← eG] at sT bT hqT ⊢
      clear eG g1 g2
      have h39 : WtAt K G9 q2 (keptL es ws) := h38.but bT nq2 ⟨_, hq8⟩
      refine ⟨T, [_, _], rfl, hTT, rfl, _, [_], rfl, _, [], rfl, rfl, ?_⟩
      have lk : (keptL es ws).length ≤ 1000 := by
        have := List.length_filter_le (fun w => decide (ahead es w.1 < ahead es w.2)) ws
        unfold keptL
        omega
      refine ⟨_, rfl, q2, rfl, (by obtain ⟨tk, e, _⟩ := h39.ex; exact ⟨_, SqL.of e⟩), fun D hD => ?_⟩
      refine ls_bools (fun w => decide (la ≤ w.1) && (decide (w.1 < p) && (decide (p < w.2) && decide (w.2 < on)))) (by omega) h39 hD ?_ ?_
      · rintro wt t Ga Qy Qn hm sa hwt ky_
        refine ⟨t, [_, _], rfl, hwt, rfl, _, [_], rfl, _, [], rfl, rfl, rfl, ?_⟩
        have k0 := ky_ _ (Same.refl _)
        refine ⟨_, rfl, _, rfl, _, _, rfl, rfl, _, rfl, ?_⟩
        by_cases c1 : la ≤ wt.1
        · refine iteP (by omega) ⟨_, rfl, _, _, rfl, rfl, _, rfl, ?_⟩
          by_cases c2 : wt.1 < p
          · refine iteP (by omega) ⟨_, rfl, _, _, rfl, rfl, _, rfl, ?_⟩
            by_cases c3 : p < wt.2
            · refine iteP (by omega) ⟨_, rfl, _, _, rfl, rfl, ?_⟩
              rw [decide_eq_true c1, decide_eq_true c2, decide_eq_true c3] at k0
              show Qy (.bl (decide ((wt.2 : Int) < (on : Int)))) _
              rw [show decide ((wt.2 : Int) < (on : Int)) = decide (wt.2 < on) from decide_eq_decide.mpr (by omega)]
              exact k0
            · refine iteQ (by omega) ?_
              rw [decide_eq_true c1, decide_eq_true c2, decide_eq_false c3] at k0
              exact k0
          · refine iteQ (by omega) ?_
            rw [decide_eq_true c1, decide_eq_false c2] at k0
            exact k0
        · refine iteQ (by omega) ?_
          rw [decide_eq_false c1] at k0
          exact k0
      · intro Ga sa hR2
        refine ⟨D, _, rfl, SqL.of hR2, ?_⟩
        have est : stayB es ws la p on = ((keptL es ws).map fun w => decide (la ≤ w.1) && (decide (w.1 < p) && (decide (p < w.2) && decide (w.2 < on)))).any id := by
          unfold stayB
          rw [List.any_map]
          rfl
        rw [← est]
        have ba := bT.trans (But.of sa)
        have hqa := sa _ _ hqT
        refine ⟨_, rfl, ?_⟩
        cases qs : stayB es ws la p on with
        | true =>
          rw [qs, if_pos rfl] at stp
          refine iteT ⟨_, rfl, ba, by rw [stp]; exact hqa, some (.int (p : Int)), some (.int (on : Int)), ?_⟩
          rw [stp, show (((p + 1 : Nat) : Int) - 1) = (p : Int) by omega]
          rfl
        | false =>
          rw [qs, if_neg Bool.false_ne_true] at stp
          have ll := spare_len es ws i
          refine iteF ⟨_, rfl, Or.inl ⟨rfl, _, SqL.of hqa⟩, _, rfl, q, _, _, rfl, rfl, hqa, (by unfold numsV; rw [List.length_map]; omega), ?_⟩
          refine ⟨ba.trans But.upd', ?_, some (.int (p : Int)), some (.int (on : Int)), ?_⟩
          · rw [upd_same, stp]
            unfold numsV
            rw [List.map_append]
            rfl
          · rw [stp]
            rfl
    · rintro σ G ⟨bG, hqG', v6, v7, rfl⟩
      rw [(spare_gone hW.ok.ok _ (Nat.le_refl _)).1] at hqG'
      refine via_nx ?_
      exact ⟨_, rfl, k q G (fun c o e => bG _ _ (ne_of_none e nq) (s18 _ _ e)) nq hqG'⟩
abbrev s_is_due : Stmt := top 35
abbrev N_is_due : List Str := ["value"]
theorem sc_is_due : FnScope N_is_due ["value"] (defScope s_is_due) := ⟨rfl, rfl, rfl, by decide +kernel, rfl, by decide +kernel, by decide +kernel⟩
theorem ok_is_due {f : Addr} {fd : FuncData} (F : FnP K "is_due" s_is_due f fd) (Z : FreeS mg)
    {f_is_tuple_of : Addr} {d_is_tuple_of : FuncData} (g_is_tuple_of : mg "is_tuple_of" = some (.ref f_is_tuple_of)) (F_is_tuple_of : FnP K "is_tuple_of" s_is_tuple_of f_is_tuple_of d_is_tuple_of) (G_is_tuple_of : FnOk P w K mg base CX0 1 f_is_tuple_of d_is_tuple_of ["value", "length"] (spTupOf K))
    {f_is_count : Addr} {d_is_count : FuncData} (g_is_count : mg "is_count" = some (.ref f_is_count)) (F_is_count : FnP K "is_count" s_is_count f_is_count d_is_count) (G_is_count : FnOk P w K mg base CX0 2 f_is_count d_is_count ["value"] (spCount K))
    {f_is_count_below : Addr} {d_is_count_below : FuncData} (g_is_count_below : mg "is_count_below" = some (.ref f_is_count_below)) (F_is_count_below : FnP K "is_count_below" s_is_count_below f_is_count_below d_is_count_below) (G_is_count_below : FnOk P w K mg base CX0 3 f_is_count_below d_is_count_below ["value", "bound"] (spBelow K)) :
    FnOk P w K mg base CX0 4 f fd ["value"] (spIsDue K) := by
  have b_is_tuple_of : Binds K d_is_tuple_of ["value", "length"] [] := F_is_tuple_of.bindsN fun _ _ _ _ _ _ us hl => match us, hl with | [_, _], _ => rfl
  have b_is_count : Binds K d_is_count ["value"] [] := F_is_count.bindsN fun _ _ _ _ _ _ us hl => match us, hl with | [_], _ => rfl
  have b_is_count_below : Binds K d_is_count_below ["value", "bound"] [] := F_is_count_below.bindsN fun _ _ _ _ _ _ us hl => match us, hl with | [_, _], _ => rfl
  refine F.ok sc_is_due (fun vs H Q E h => ?_) (fun cdv A outer s H vs Q E hr h => ?_)
  · obtain ⟨t, w, rfl, _⟩ := h
    rfl
  · obtain ⟨t, w, rfl, hw, lt, k⟩ := h
    have nd := sc_is_due.nd
    refine ⟨_, PSs.nox (pss_one (ps_ret (pe_and (pe_call G_is_tuple_of (hr.mono (by decide)) rfl g_is_tuple_of F_is_tuple_of.kp b_is_tuple_of .nil pass0 (pa_cons (pv 0) (pa_cons (pe_int) (pa_nil)))) (pe_and (pe_call G_is_count (hr.mono (by decide)) rfl g_is_count F_is_count.kp b_is_count .nil pass0 (pa_cons (pe_ix ix_tup (pv 0) (pe_int) (fun _ _ => rfl)) (pa_nil))) (pe_one (pe_call G_is_count_below (hr.mono (by decide)) rfl g_is_count_below F_is_count_below.kp b_is_count_below .nil pass0 (pa_cons (pe_ix ix_tup (pv 0) (pe_int) (fun _ _ => rfl)) (pa_cons (pe_ix ix_tup (pv 0) (pe_int) (fun _ _ => rfl)) (pa_nil))))))))), ?_⟩
    refine ⟨_, rfl, t, _, 2, rfl, hw, _, rfl, iteT ?_⟩
    refine ⟨_, rfl, t, _, 1, .int (w.2 : Int), rfl, rfl, hw, rfl, .int (w.2 : Int), .int (w.2 : Int), 0, rfl, TD.flat (.int _), _, rfl, ?_⟩
    rw [show cntB (.int (w.2 : Int)) = true from decide_eq_true (Int.natCast_nonneg w.2)]
    refine iteT ⟨_, rfl, t, _, 0, .int (w.1 : Int), rfl, rfl, hw, rfl, _, rfl, t, _, 1, .int (w.2 : Int), rfl, rfl, hw, rfl, w.1, w.2, rfl, ?_⟩
    rw [decide_eq_true lt]
    exact k
abbrev s_need_due : Stmt := top 36
abbrev N_need_due : List Str := ["due", "part"]
theorem sc_need_due : FnScope N_need_due ["due"] (defScope s_need_due) := ⟨rfl, rfl, rfl, by decide +kernel, rfl, by decide +kernel, by decide +kernel⟩
theorem ok_need_due {f : Addr} {fd : FuncData} (F : FnP K "need_due" s_need_due f fd) (Z : FreeS mg)
    {f_is_due : Addr} {d_is_due : FuncData} (g_is_due : mg "is_due" = some (.ref f_is_due)) (F_is_due : FnP K "is_due" s_is_due f_is_due d_is_due) (G_is_due : FnOk P w K mg base CX0 4 f_is_due d_is_due ["value"] (spIsDue K)) :
    FnOk P w K mg base CX0 5 f fd ["due"] (spNeedDue K) := by
  have b_is_due : Binds K d_is_due ["value"] [] := F_is_due.bindsN fun _ _ _ _ _ _ us hl => match us, hl with | [_], _ => rfl
  refine F.ok sc_need_due (fun vs H Q E h => ?_) (fun cdv A outer s H vs Q E hr h => ?_)
  · obtain ⟨b, ws, rfl, _⟩ := h
    rfl
  · obtain ⟨b, ws, rfl, hW, k⟩ := h
    obtain ⟨ts, hb, ltb, htb⟩ := hW.at_.got
    have nd := sc_need_due.nd
    refine ⟨_, PSs.nox (pss_one (ps_if (PW.pt (pw_or (pt_not (pt_val (pe_callB call_isi (by rfl) Z.isi (by decide +kernel) (pa_cons (pv 0) (pa_cons (pe_bltn (v := .ty "list") (by rfl) Z.tlist (by decide +kernel) rfl) pa_nil))))) (pw_or1 (pt_not (pt_val (pe_callB (cr_all rfl) (by rfl) Z.all (by decide +kernel) (pa_cons (pe_lc (own := [("part", 1)]) (g := gName 1) (tt := tYes) (te := tCall (spIsDue K) [] E0 (tCons (tVar 1) (tNil))) (by rfl) nd (pi_list (pv 0))
          (blkOk_by (own := [("part", 1)]) (N := N_need_due) (sc := defScope s_need_due) (by decide +kernel)) (fun _ _ _ _ _ => pg_name (i := 1) nd rfl (Or.inl rfl)) (fun _ _ _ _ _ => pts_nil)
          (fun _ _ _ _ _ => pe_call G_is_due (hr.mono (by decide)) rfl g_is_due F_is_due.kp b_is_due .nil pass0 (pa_cons (pv 1) (pa_nil)))) (pa_nil)))))))) (pss_one (ps_dead)) (pss_nil))), ?_⟩
    refine ⟨_, rfl, .ref b, .ty "list", .type "list", .type "list", true, rfl, .ty _, .base (.lst hb), kit_ty (by decide +kernel), true, rfl, iteF ?_⟩
    refine ⟨_, rfl, b, rfl, ⟨_, SqL.of hb⟩, fun D hD => ?_⟩
    refine ls_bools (fun _ => true) (by have := hW.len; omega) hW.at_ hD ?_ ?_
    · rintro x t G Qy Qn hm sG ht ky_
      exact ⟨rfl, _, rfl, t, x, rfl, ht, hW.lt x hm, ky_ _ (Same.refl _)⟩
    · intro G sG hR2
      refine ⟨D, _, rfl, SqL.of hR2, ?_⟩
      rw [show ((ws.map fun _ => true).all id) = true from by rw [List.all_map, List.all_eq_true]; exact fun _ _ => rfl]
      exact ⟨_, rfl, iteF (k G sG)⟩
abbrev s_syncs : Stmt := top 37
abbrev N_syncs : List Str := ["due"]
theorem sc_syncs : FnScope N_syncs ["due"] (defScope s_syncs) := ⟨rfl, rfl, rfl, by decide +kernel, rfl, by decide +kernel, by decide +kernel⟩
theorem ok_syncs {f : Addr} {fd : FuncData} (F : FnP K "syncs" s_syncs f fd) (Z : FreeS mg)
    {f_need_due : Addr} {d_need_due : FuncData} (g_need_due : mg "need_due" = some (.ref f_need_due)) (F_need_due : FnP K "need_due" s_need_due f_need_due d_need_due) (G_need_due : FnOk P w K mg base CX0 5 f_need_due d_need_due ["due"] (spNeedDue K))
    {f_ends_of : Addr} {d_ends_of : FuncData} (g_ends_of : mg "ends_of" = some (.ref f_ends_of)) (F_ends_of : FnP K "ends_of" s_ends_of f_ends_of d_ends_of) (G_ends_of : FnOk P w K mg base CX0 5 f_ends_of d_ends_of ["waits"] (spEnds K)) :
    FnOk P w K mg base CX0 6 f fd ["due"] (spSyncs K) := by
  have b_need_due : Binds K d_need_due ["due"] [] := F_need_due.bindsN fun _ _ _ _ _ _ us hl => match us, hl with | [_], _ => rfl
  have b_ends_of : Binds K d_ends_of ["waits"] [] := F_ends_of.bindsN fun _ _ _ _ _ _ us hl => match us, hl with | [_], _ => rfl
  refine F.ok sc_syncs (fun vs H Q E h => ?_) (fun cdv A outer s H vs Q E hr h => ?_)
  · obtain ⟨b, ws, rfl, _⟩ := h
    rfl
  · obtain ⟨b, ws, rfl, hW, hT, k⟩ := h
    have nd := sc_syncs.nd
    refine ⟨_, PSs.nox (pss_cons (ps_expr (pe_call G_need_due (hr.mono (by decide)) rfl g_need_due F_need_due.kp b_need_due .nil pass0 (pa_cons (pv 0) (pa_nil))))
      (pss_one (ps_ret (pe_call G_ends_of (hr.mono (by decide)) rfl g_ends_of F_ends_of.kp b_ends_of .nil pass0 (pa_cons (pv 0) (pa_nil)))))), ?_⟩
    refine ⟨_, rfl, b, ws, rfl, hW, fun G sG => ?_⟩
    exact ⟨_, rfl, b, ws, rfl, hW.at_.same sG, (by have := hW.len; omega), tabs_same sG hT, fun q G' e T' n hq => k q G' ((ExtN.of sG).trans e) T' (NewN.back (ExtN.of sG) n) hq⟩
abbrev s_places_between : Stmt := top 39
abbrev N_places_between : List Str := ["moments", "ready", "last", "place", "moment"]
theorem sc_places_between : FnScope N_places_between ["moments", "ready", "last"] (defScope s_places_between) := ⟨rfl, rfl, rfl, by decide +kernel, rfl, by decide +kernel, by decide +kernel⟩
theorem ok_places_between {f : Addr} {fd : FuncData} (F : FnP K "places_between" s_places_between f fd) (Z : FreeS mg) :
    FnOk P w K mg base CX0 1 f fd ["moments", "ready", "last"] (spBetween K) := by
  refine F.ok sc_places_between (fun vs H Q E h => ?_) (fun cdv A outer s H vs Q E hr h => ?_)
  · obtain ⟨c, ms, w, rfl, _⟩ := h
    rfl
  · obtain ⟨c, ms, w, rfl, hc, lm, k⟩ := h
    have lv : (numsV ms).length = ms.length := List.length_map _
    have nd := sc_places_between.nd
    refine ⟨_, PSs.nox (pss_one (ps_ret (pe_lc (own := [("place", 3), ("moment", 4)]) (g := gTup K 2 (gCons (gName 3) (gCons (gName 4) (gNil)))) (tt := tTest (tChain (rI0 fun i j => .bl (decide (i < j))) (rI0 fun i j => .bl (decide (i ≤ j))) (tVar 1) (tVar 4) (tVar 2))) (te := tVar 3) (by rfl) nd (pi_enum (by rfl) Z.enumerate (pa_cons (pv 0) (pa_nil)))
          (blkOk_by (own := [("place", 3), ("moment", 4)]) (N := N_places_between) (sc := defScope s_places_between) (by decide +kernel)) (fun _ _ _ _ _ => pg_tup rfl (pgs_cons (pg_name (i := 3) nd rfl (Or.inl rfl)) (pgs_cons (pg_name (i := 4) nd rfl (Or.inl rfl)) (pgs_nil)))) (fun _ _ _ _ _ => pts_one (pt_chain op_lt op_le (pv 1) (pv 4) (pv 2)))
          (fun _ _ _ _ _ => pv 3)))), ?_⟩
    refine ⟨_, rfl, c, _, rfl, SqL.of hc, fun D hD => ?_⟩
    refine lc_sel (n := ms.length) (by have := walk_enum (K := K) (a := c) (xs := numsV ms); rw [lv] at this; exact this) (fun i => if (decide (w.1 < ms.getD i 0) && decide (ms.getD i 0 ≤ w.2)) = true then some (.int (i : Int)) else none) (by omega) hD (fun H2 s2 => SqL.of (s2 _ _ hc)) ?_ ?_
    · rintro i v H2 H3 Qy Qn hi sH ⟨T2, x1, x2, rfl, nT, rfl, g1, g2⟩ ky_ kn
      dsimp only at g1 g2
      obtain rfl := Option.some.inj g1
      have eg : ms.getD i 0 = ms[i] := by
        rw [List.getD_eq_getElem?_getD, List.getElem?_eq_getElem hi]
        rfl
      unfold numsV at g2
      rw [List.getElem?_map, List.getElem?_eq_getElem hi] at g2
      obtain rfl := Option.some.inj g2
      rw [eg] at ky_ kn
      have sT : Same H2 (upd H2 T2 (.tup [.int (i : Nat), .int ((ms[i] : Nat) : Int)])) := Same.updf nT
      refine ⟨T2, [_, _], rfl, .inl (.inl upd_same), rfl, _, [_], rfl, _, [], rfl, rfl, ?_⟩
      refine ⟨rfl, _, rfl, _, rfl, _, _, rfl, rfl, _, rfl, ?_⟩
      by_cases c1 : w.1 < ms[i]
      · rw [decide_eq_true c1] at ky_ kn
        refine iteP (by omega) ⟨_, rfl, _, _, rfl, rfl, _, rfl, ?_⟩
        by_cases c2 : ms[i] ≤ w.2
        · rw [decide_eq_true c2] at ky_
          exact iteP (by omega) ⟨_, rfl, ky_ _ _ sT (if_pos rfl)⟩
        · rw [decide_eq_false c2] at kn
          exact iteQ (by omega) (kn _ sT (if_neg Bool.false_ne_true))
      · rw [decide_eq_false c1] at kn
        exact iteQ (by omega) ⟨_, rfl, iteF (kn _ sT (if_neg Bool.false_ne_true))⟩
    · intro H2 s2 hR2
      refine k D H2 s2 hD (hR2.trans (congrArg (fun l => some (HO.lst l)) ?_))
      unfold numsV
      exact fm_if (fun i => decide (w.1 < ms.getD i 0) && decide (ms.getD i 0 ≤ w.2)) (fun i : Nat => V.int (i : Int)) _
abbrev s_served : Stmt := top 38
abbrev N_served : List Str := ["due", "moments", "found", "position", "ready", "last", "place", "_"]
theorem sc_served : FnScope N_served ["due", "moments"] (defScope s_served) := ⟨rfl, rfl, rfl, by decide +kernel, rfl, by decide +kernel, by decide +kernel⟩
theorem ok_served {f : Addr} {fd : FuncData} (F : FnP K "served" s_served f fd) (Z : FreeS mg)
    {f_need_due : Addr} {d_need_due : FuncData} (g_need_due : mg "need_due" = some (.ref f_need_due)) (F_need_due : FnP K "need_due" s_need_due f_need_due d_need_due) (G_need_due : FnOk P w K mg base CX0 5 f_need_due d_need_due ["due"] (spNeedDue K))
    {f_are_ascending_counts : Addr} {d_are_ascending_counts : FuncData} (g_are_ascending_counts : mg "are_ascending_counts" = some (.ref f_are_ascending_counts)) (F_are_ascending_counts : FnP K "are_ascending_counts" s_are_ascending_counts f_are_ascending_counts d_are_ascending_counts) (G_are_ascending_counts : FnOk P w K mg base CX0 3 f_are_ascending_counts d_are_ascending_counts ["value"] (spAscC K))
    {f_places_between : Addr} {d_places_between : FuncData} (g_places_between : mg "places_between" = some (.ref f_places_between)) (F_places_between : FnP K "places_between" s_places_between f_places_between d_places_between) (G_places_between : FnOk P w K mg base CX0 1 f_places_between d_places_between ["moments", "ready", "last"] (spBetween K)) :
    FnOk P w K mg base CX0 6 f fd ["due", "moments"] (spServed K) := by
  have b_need_due : Binds K d_need_due ["due"] [] := F_need_due.bindsN fun _ _ _ _ _ _ us hl => match us, hl with | [_], _ => rfl
  have b_are_ascending_counts : Binds K d_are_ascending_counts ["value"] [] := F_are_ascending_counts.bindsN fun _ _ _ _ _ _ us hl => match us, hl with | [_], _ => rfl
  have b_places_between : Binds K d_places_between ["moments", "ready", "last"] [] := F_places_between.bindsN fun _ _ _ _ _ _ us hl => match us, hl with | [_, _, _], _ => rfl
  refine F.ok sc_served (fun vs H Q E h => ?_) (fun cdv A outer s H vs Q E hr h => ?_)
  · obtain ⟨b, c, ws, ms, rfl, _⟩ := h
    rfl
  · obtain ⟨b, c, ws, ms, rfl, hW, hc, lm, asc, k⟩ := h
    obtain ⟨tw, hb, ltw, htw⟩ := hW.at_.got
    have lv : (numsV ms).length = ms.length := List.length_map _
    have sl : (3000 : Nat) ≤ sizeLine := by decide
    have nd := sc_served.nd
    refine ⟨_, PSs.nox (pss_cons (ps_expr (pe_call G_need_due (hr.mono (by decide)) rfl g_need_due F_need_due.kp b_need_due .nil pass0 (pa_cons (pv 0) (pa_nil))))
      (pss_cons (ps_if (pt_not (pt_val (pe_call G_are_ascending_counts (hr.mono (by decide)) rfl g_are_ascending_counts F_are_ascending_counts.kp b_are_ascending_counts .nil pass0 (pa_cons (pv 1) (pa_nil))))) (pss_one (ps_dead)) (pss_nil))
      (pss_cons (ps_setLc (i := 2) (own := [("_", 7)]) (g := gName 7) (tt := tYes) (te := tLst (tNil)) (by rfl) nd rfl rfl rfl (pi_list (pv 1))
          (blkOk_by (own := [("_", 7)]) (N := N_served) (sc := defScope s_served) (by decide +kernel)) (fun _ _ _ _ _ => pg_name (i := 7) nd rfl (Or.inl rfl)) (fun _ _ _ _ _ => pts_nil)
          (fun _ _ _ _ _ => pe_lst (pa_nil)))
      (pss_cons (ps_for PassesOwn.never rfl (pi_enum (by rfl) Z.enumerate (pa_cons (pv 0) (pa_nil))) (pg_tup rfl (pgs_cons (pg_name (i := 3) nd rfl (Or.inl rfl)) (pgs_cons (pg_tup rfl (pgs_cons (pg_name (i := 4) nd rfl (Or.inl rfl)) (pgs_cons (pg_name (i := 5) nd rfl (Or.inl rfl)) (pgs_nil)))) (pgs_nil))))
        (pss_one (ps_for PassesOwn.never rfl (pi_list (pe_slice sl_list (pe_call G_places_between (hr.mono (by decide)) rfl g_places_between F_places_between.kp b_places_between .nil pass0 (pa_cons (pv 1) (pa_cons (pv 4) (pa_cons (pv 5) (pa_nil))))) (po_none) (po_some (pe_int)))) (pg_name (i := 6) nd rfl (Or.inl rfl))
        (pss_one (ps_expr (pe_bm PySem.F.plainAttrs_list PySem.F.slot_list_append PySem.F.type_list_append mt_append (pe_ix ix_list (pv 2) (pv 6) (fun _ _ => rfl)) (pa_cons (pv 3) (pa_nil))))))))
      (pss_one (ps_ret (pv 2))))))), ?_⟩
    refine ⟨_, rfl, b, ws, rfl, hW, fun G1 s1 => ⟨_, rfl, c, ms, rfl, s1 _ _ hc, lm, asc, fun G2 s2 => ⟨_, rfl, iteF ?_⟩⟩⟩
    have s12 := s1.trans s2
    dsimp only [cxOf, Cx.nox]
    show tSeq _ _ _ _ _
    have hb2 := s12 _ _ hb
    have hc2 := s12 _ _ hc
    refine ⟨_, rfl, c, rfl, ⟨_, SqL.of hc2⟩, fun D hD => ?_⟩
    refine lc_it (n := ms.length) (by have := walk_list (K := K) (a := c) (xs := numsV ms); rw [lv] at this; exact this) (fun i G => Same G2 G ∧ ∃ ts : List Addr, G D = some (.lst (ts.map V.ref)) ∧ ts.length = i ∧ ts.Nodup ∧ D ∉ ts ∧ ∀ t ∈ ts, G2 t = none ∧ G t = some (.lst []))
      ⟨Same.updf hD, [], upd_same, rfl, List.nodup_nil, (by intro z; cases z), (fun t z => nomatch z)⟩ (fun i G _ h => SqL.of (h.1 _ _ hc2)) ?_ ?_
    · rintro i x G G' hi ⟨sG, ts, hDG, lts, nd, nD, hts⟩ ⟨rfl, hv⟩
      refine ⟨rfl, ?_⟩
      refine ⟨(by show 0 ≤ sizeLine; omega), fun e0 he0 => ?_⟩
      have n2 : G2 e0 = none := none_back sG he0
      have neD : e0 ≠ D := fun z => by rw [z, hDG] at he0; cases he0
      have nts : ∀ t ∈ ts, t ≠ e0 := fun t ht z => by
        have := (hts t ht).2
        rw [z, he0] at this
        cases this
      refine ⟨_, by rw [upd_ne neD.symm]; exact hDG, by rw [List.length_map]; omega, fun b o e => ?_, ts ++ [e0], ?_, ?_, ?_, ?_, ?_⟩
      · rw [upd_ne (ne_of_none e hD), upd_ne (ne_of_none e n2)]
        exact sG _ _ e
      · rw [upd_same, List.map_append]
        rfl
      · rw [List.length_append, lts]
        rfl
      · refine List.nodup_append.mpr ⟨nd, List.pairwise_singleton _ _, fun a ha b hb => ?_⟩
        rw [List.mem_singleton.mp hb]
        exact nts a ha
      · intro z
        rcases List.mem_append.mp z with m | m
        · exact nD m
        · exact neD (List.mem_singleton.mp m).symm
      · intro t ht
        rcases List.mem_append.mp ht with m | m
        · refine ⟨(hts t m).1, ?_⟩
          rw [upd_ne (fun z : t = D => nD (by rw [← z]; exact m)), upd_ne (nts t m)]
          exact (hts t m).2
        · rw [List.mem_singleton.mp m]
          exact ⟨n2, by rw [upd_ne neD, upd_same]⟩
    · rintro G3 ⟨s3, ts, hDG, lts, nd, nD, hts⟩
      have s13 := s12.trans s3
      have nH : H D = none := none_back s12 hD
      have ntH : ∀ t ∈ ts, H t = none := fun t m => none_back s12 (hts t m).1
      have st3 : ∀ t ∈ ts, G3 t = some (.lst []) := fun t m => (hts t m).2
      have hb3 := s13 _ _ hb
      have hc3 := s13 _ _ hc
      clear hts hD s3
      refine via_nx ?_
      refine ⟨_, rfl, b, _, rfl, SqL.of hb3, ?_⟩
      have nb : b ∉ ts := fun m => by rw [ntH b m] at hb; cases hb
      have nc : c ∉ ts := fun m => by rw [ntH c m] at hc; cases hc
      obtain ⟨L, eL⟩ : ∃ L : Nat → Nat → List Nat, L = fun k i => (List.range k).filter fun j => decide (firstAt ms (ws.getD j (0, 0)) = [i]) := ⟨_, rfl⟩
      have L0 : ∀ i, L 0 i = [] := fun i => by rw [eL]; rfl
      have Ls : ∀ k i, L (k + 1) i = L k i ++ (if firstAt ms (ws.getD k (0, 0)) = [i] then [k] else []) := fun k i => by
        rw [eL]
        show (List.range (k + 1)).filter _ = _
        rw [List.range_succ, List.filter_append, List.filter_cons, List.filter_nil]
        congr 1
        by_cases z : firstAt ms (ws.getD k (0, 0)) = [i]
        · rw [if_pos (decide_eq_true z), if_pos z]
        · rw [if_neg (by rw [decide_eq_true_eq]; exact z), if_neg z]
      have Ll : ∀ k i, (L k i).length ≤ k := fun k i => by
        rw [eL]
        have := List.length_filter_le (fun j => decide (firstAt ms (ws.getD j (0, 0)) = [i])) (List.range k)
        rw [List.length_range] at this
        exact this
      have tsn : ∀ {i j : Nat} {t : Addr}, ts[i]? = some t → ts[j]? = some t → i = j := fun {i j t} h1 h2 => by
        obtain ⟨b1, z1⟩ := List.getElem?_eq_some_iff.mp h1
        obtain ⟨b2, z2⟩ := List.getElem?_eq_some_iff.mp h2
        have pw := List.pairwise_iff_getElem.mp (List.nodup_iff_pairwise_ne.mp nd)
        rcases Nat.lt_trichotomy i j with q | q | q
        · exact absurd (z1.trans z2.symm) (pw i j b1 b2 q)
        · exact q
        · exact absurd (z2.trans z1.symm) (pw j i b2 b1 q)
      refine for_it (n := ws.length) (by have := walk_enum (K := K) (a := b) (xs := tw.map V.ref); rw [List.length_map, ltw] at this; exact this) (fun k σ G => (∀ x o, x ∉ ts → G3 x = some o → G x = some o) ∧ (∀ i t, ts[i]? = some t → G t = some (.lst (numsV (L k i)))) ∧ ∃ v3 v4 v5 v6, σ = [some (.ref b), some (.ref c), some (.ref D), v3, v4, v5, v6, none])
        ⟨fun x o _ e => e, fun i t e => by rw [L0]; exact st3 t (List.mem_of_getElem? e), none, none, none, none, rfl⟩ (fun k σ G _ hh => SqL.of (hh.1 _ _ nb hb3)) ?_ ?_
      · rintro kk v σ G' G hk ⟨bG, hL, v3, v4, v5, v6, rfl⟩ ⟨T, x1, x2, rfl, nT, rfl, g1, g2⟩
        dsimp only at g1 g2
        obtain rfl := Option.some.inj g1
        obtain ⟨t, e1, e2⟩ := htw kk hk
        rw [e1] at g2
        obtain rfl := Option.some.inj g2
        have sT := Same.updf (o := .tup [V.int (kk : Nat), V.ref t]) nT
        have bT : ∀ x o, x ∉ ts → G3 x = some o → (upd G' T (.tup [V.int (kk : Nat), V.ref t])) x = some o := fun x o m e => sT _ _ (bG x o m e)
        have hLT : ∀ i t', ts[i]? = some t' → (upd G' T (.tup [V.int (kk : Nat), V.ref t])) t' = some (.lst (numsV (L kk i))) := fun i t' e => sT _ _ (hL i t' e)
        have htT : SqT K (upd G' T (.tup [V.int (kk : Nat), V.ref t])) t (wv ws[kk]) := by
          rcases SqT_up s13 e2 with (h | ⟨o, h⟩) | h
          · exact .inl (.inl (bT _ _ (fun m => by rw [st3 t m] at h; cases h) h))
          · exact .inl (.inr ⟨o, bT _ _ (fun m => by rw [st3 t m] at h; cases h) h⟩)
          · exact .inr h
        have hTT : SqT K (upd G' T (.tup [V.int (kk : Nat), V.ref t])) T [V.int (kk : Nat), V.ref t] := SqT.of upd_same
        obtain ⟨G4, eG⟩ : ∃ X, X = upd G' T (.tup [V.int (kk : Nat), V.ref t]) := ⟨_, rfl⟩
        rw [← eG] at bT hLT htT hTT ⊢
        clear eG sT bG hL nT
        refine ⟨T, [_, _], rfl, hTT, rfl, _, [_], rfl, _, [], rfl, ?_⟩
        refine ⟨t, [_, _], rfl, htT, rfl, _, [_], rfl, _, [], rfl, rfl, rfl, ?_⟩
        have ew : ws.getD kk (0, 0) = ws[kk] := by
          rw [List.getD_eq_getElem?_getD, List.getElem?_eq_getElem hk]
          rfl
        refine ⟨_, rfl, _, rfl, _, rfl, c, ms, ws[kk], rfl, bT _ _ nc hc3, lm, fun r G5 s5 nr hr5 => ?_⟩
        refine ⟨_, rfl, r, _, rfl, SqL.of hr5, fun q6 hq6 => ?_⟩
        have eF : cutV (numsV ((List.range ms.length).filter fun i => decide (ws[kk].1 < ms.getD i 0) && decide (ms.getD i 0 ≤ ws[kk].2))) none (some 1) = numsV (firstAt ms ws[kk]) := by
          unfold firstAt numsV
          rw [List.map_take]
          exact cut_one _
        rw [eF]
        have s6 := Same.updf (o := .lst (numsV (firstAt ms ws[kk]))) hq6
        have b6 : ∀ x o, x ∉ ts → G3 x = some o → (upd G5 q6 (.lst (numsV (firstAt ms ws[kk])))) x = some o := fun x o m e => s6 _ _ (s5 _ _ (bT x o m e))
        have hL6 : ∀ i t', ts[i]? = some t' → (upd G5 q6 (.lst (numsV (firstAt ms ws[kk])))) t' = some (.lst (numsV (L kk i))) := fun i t' e => s6 _ _ (s5 _ _ (hLT i t' e))
        have hq7 : (upd G5 q6 (.lst (numsV (firstAt ms ws[kk])))) q6 = some (.lst (numsV (firstAt ms ws[kk]))) := upd_same
        obtain ⟨G6, eG⟩ : ∃ X, X = upd G5 q6 (.lst (numsV (firstAt ms ws[kk]))) := ⟨_, rfl⟩
        have nq6 : q6 ∉ ts := fun m => by
          obtain ⟨i, hi, e⟩ := List.getElem_of_mem m
          have := s5 _ _ (hLT i q6 (by rw [List.getElem?_eq_getElem hi, e]))
          rw [this] at hq6
          cases hq6
        rw [← eG] at b6 hL6 hq7 ⊢
        clear eG s6 hTT htT hLT bT hr5
        refine ⟨q6, rfl, ⟨_, SqL.of hq7⟩, ?_⟩
        have F1 : (firstAt ms ws[kk]).length ≤ 1 := by
          unfold firstAt
          exact List.length_take_le _ _
        have lF : (numsV (firstAt ms ws[kk])).length = (firstAt ms ws[kk]).length := List.length_map _
        refine for_list (xs := numsV (firstAt ms ws[kk])) (fun j σ G => (∀ x o, x ∉ ts → G3 x = some o → G x = some o) ∧ G q6 = some (.lst (numsV (firstAt ms ws[kk]))) ∧ (∀ i t, ts[i]? = some t → G t = some (.lst (numsV (L kk i ++ (if (firstAt ms ws[kk]).take j = [i] then [kk] else []))))) ∧ ∃ v6, σ = [some (.ref b), some (.ref c), some (.ref D), some (.int (kk : Nat)), some (.int (ws[kk].1 : Int)), some (.int (ws[kk].2 : Int)), v6, none])
          ⟨b6, hq7, fun i t e => by rw [List.take_zero, if_neg (by simp), List.append_nil]; exact hL6 i t e, v6, rfl⟩ (fun j σ G _ hh => SqL.of hh.2.1) ?_ ?_
        · rintro j y σ G7 hy ⟨b7, q7, hL7, v6', rfl⟩
          have hj : j < (firstAt ms ws[kk]).length := by
            have := (List.getElem?_eq_some_iff.mp hy).1
            omega
          obtain rfl : j = 0 := by omega
          obtain ⟨p, hF⟩ : ∃ p, firstAt ms ws[kk] = [p] := by
            match h : firstAt ms ws[kk], F1, hj with
            | [p], _, _ => exact ⟨p, rfl⟩
          rw [hF] at hy hL7
          obtain rfl : V.int (p : Int) = y := Option.some.inj hy
          have hp := (firstAt_iff.mp hF).1
          obtain ⟨tp, htp⟩ : ∃ tp, ts[p]? = some tp := ⟨_, List.getElem?_eq_getElem (by omega)⟩
          have hl := hL7 p tp htp
          rw [List.take_zero, if_neg (by simp), List.append_nil] at hl
          have hD7 := b7 _ _ nD hDG
          have ll := Ll kk p
          have tyL : tyV K "list" (V.ref tp) G7 := Or.inl ⟨rfl, _, SqL.of hl⟩
          have w100 := hW.len
          refine ⟨_, rfl, _, rfl, D, _, (p : Int), _, rfl, rfl, SqL.of hD7, atI_nat (v := V.ref tp) (by rw [List.getElem?_map, htp]; rfl), tyL, _, rfl, tp, _, _, rfl, rfl, hl, (by unfold numsV; rw [List.length_map]; omega), ?_⟩
          have mtp := List.mem_of_getElem? htp
          refine ⟨fun x o m e => by rw [upd_ne (fun z : x = tp => m (by rw [z]; exact mtp))]; exact b7 x o m e, by rw [upd_ne (fun z : q6 = tp => nq6 (by rw [z]; exact mtp))]; exact q7, fun i t e => ?_, _, rfl⟩
          rw [hF]
          show _ = some (HO.lst (numsV (L kk i ++ if [p] = [i] then [kk] else [])))
          by_cases z : t = tp
          · subst z
            obtain rfl := tsn e htp
            rw [upd_same, if_pos rfl]
            unfold numsV
            rw [List.map_append]
            rfl
          · rw [upd_ne z, if_neg (fun q => z (by have q := (List.cons.inj q).1; rw [← q, htp] at e; exact (Option.some.inj e).symm)), List.append_nil]
            have := hL7 i t e
            rw [List.take_zero, if_neg (by simp), List.append_nil] at this
            exact this
        · rintro σ G7 ⟨b7, q7, hL7, v6', rfl⟩
          rw [lF, List.take_length] at hL7
          refine ⟨b7, fun i t e => ?_, _, _, _, _, rfl⟩
          rw [Ls, ew]
          exact hL7 i t e
      · rintro σ G ⟨bG, hL, v3, v4, v5, v6, rfl⟩
        refine via_nx ?_
        refine ⟨_, rfl, k D G (fun x o e => bG _ _ (fun m => by rw [ntH x m] at e; cases e) (s13 _ _ e)) nH ⟨_, bG _ _ nD hDG, paired_of (by rw [List.length_map, List.length_map, List.length_range, lts]) fun i l y h1 h2 => ?_⟩⟩
        rw [List.getElem?_map] at h1 h2
        obtain ⟨i', q1, rfl⟩ := Option.map_eq_some_iff.mp h1
        obtain ⟨t, q2, rfl⟩ := Option.map_eq_some_iff.mp h2
        have hi := (List.getElem?_eq_some_iff.mp q1).1
        rw [List.length_range] at hi
        rw [List.getElem?_range hi] at q1
        obtain rfl := Option.some.inj q1
        refine ⟨t, rfl, ntH t (List.mem_of_getElem? q2), ?_⟩
        rw [hL i t q2, eL]
        rfl
end
end K18
set_option Elab.async false
set_option linter.all false
set_option maxRecDepth 100000
set_option maxHeartbeats 4000000
/-! Comprehensions whose items are drawn: each turn changes the purse. -/
namespace KB
open PySem PySem.Spec PyProof.Rows L2
theorem off_some {H : Hp} {D b : Addr} {o : HO} (h : KB.off H D b = some o) : b ≠ D ∧ H b = some o := by
  unfold KB.off at h
  split at h
  · cases h
  · exact ⟨by assumption, h⟩
theorem off_but {pu : Addr} {H H' : Hp} (k : But pu H H') : Same (KB.off H pu) (KB.off H' pu) := fun b o e => by
  obtain ⟨n, e2⟩ := off_some e
  rw [KB.off_at n]
  exact k _ _ n e2
/-- what stands but for the purse and the new list -/
def off2 (H : Hp) (D pu : Addr) : Hp := KB.off (KB.off H D) pu
theorem off2_some {H : Hp} {D pu b : Addr} {o : HO} (h : off2 H D pu b = some o) : b ≠ D ∧ b ≠ pu ∧ H b = some o := by
  obtain ⟨n, h⟩ := off_some h
  obtain ⟨n2, h⟩ := off_some h
  exact ⟨n2, n, h⟩
theorem off2_at {H : Hp} {D pu b : Addr} {o : HO} (n : b ≠ D) (n2 : b ≠ pu) (h : H b = some o) : off2 H D pu b = some o := by
  unfold off2
  rw [KB.off_at n2, KB.off_at n]
  exact h
theorem off2_but {H H' : Hp} {D pu : Addr} (k : But pu H H') : Same (off2 H D pu) (off2 H' D pu) := fun b o e => by
  obtain ⟨n, n2, e⟩ := off2_some e
  exact off2_at n n2 (k _ _ n2 e)
theorem off2_le {H : Hp} {D pu : Addr} : Same (off2 H D pu) (KB.off H pu) := fun b o e => by
  obtain ⟨n, n2, e⟩ := off2_some e
  rw [KB.off_at n2]
  exact e
theorem off2_upd {H : Hp} {D pu : Addr} {o : HO} : Same (off2 H D pu) (off2 (L2.upd H D o) D pu) := fun b o e => by
  obtain ⟨n, n2, e⟩ := off2_some e
  exact off2_at n n2 (by rw [upd_ne n]; exact e)
theorem lc_but {J : It} {n : Nat} {G : Hp → Prop} {Y : Nat → Hp → V → Hp → Prop} (w : Walk J n G Y) {g : TG} {tt : TT} {te : TE} {vs : List Nat} {σ : L2.St} {H1 : Hp} {D pu : Addr} {Qd : Hp → Prop} {N cost : Nat} (R : Nat → V → Hp → Prop)
    (hR : ∀ i y H H', Same H H' → R i y H → R i y H') (hn : n ≤ 100000) (hP : Purse H1 pu N) (hD : H1 D = none) (hG : ∀ H, But pu H1 H → G H)
    (hs : ∀ i x H H' (Qy : V → Hp → Prop) (Qn : Hp → Prop), i < n → But pu H1 H → Purse H pu (N + cost * i) → (∃ acc, H D = some (.lst acc)) → Y i H x H' → (∀ y H4, But pu H H4 → Purse H4 pu (N + cost * (i + 1)) → R i y (off2 H4 D pu) → Qy y H4) →
      g x (wipe σ vs) H' fun σ2 H2 => wipe σ2 vs = wipe σ vs ∧ tt σ2 H2 fun b H3 => if b = true then te σ2 H3 Qy else Qn H3)
    (hd : ∀ H ys, But pu H1 H → Purse H pu (N + cost * n) → H D = some (.lst ys) → Paired (fun i y => R i y (off2 H D pu)) (List.range n) ys → Qd H) :
    ∃ W : Nat → Nat → Hp → Prop, (∃ m, W 0 m (L2.upd H1 D (.lst []))) ∧ ∀ i m H, W i m H →
      (J.stop i H ∧ Qd H) ∨ (J.go i H ∧ ∃ Nx : Hp → Prop, (∀ H', Nx H' → ∃ m', m' < m ∧ W (i + 1) m' H') ∧ ∀ x H', J.yld i H x H' → g x (wipe σ vs) H' fun σ2 H2 => wipe σ2 vs = wipe σ vs ∧ tt σ2 H2 fun b H3 =>
        if b = true then te σ2 H3 fun y H4 => ∃ acc, H4 D = some (.lst acc) ∧ acc.length < sizeLine ∧ Nx (L2.upd H4 D (.lst (acc ++ [y]))) else Nx H3) := by
  have nD : D ≠ pu := fresh_ne hP hD
  refine lc_it w (fun i H => But pu H1 H ∧ Purse H pu (N + cost * i) ∧ ∃ ys, H D = some (.lst ys) ∧ ys.length = i ∧ Paired (fun i y => R i y (off2 H D pu)) (List.range i) ys)
    ⟨But.of (Same.updf hD), hP.same' (upd_ne nD.symm), [], upd_same, rfl, .nil⟩ (fun i H _ h => hG H h.1) (fun i x H H' hi hPv hy => ?_) (fun H h => ?_)
  · obtain ⟨b1, PM, ys, hD', ly, py⟩ := hPv
    refine hs i x H H' _ _ hi b1 PM ⟨ys, hD'⟩ hy (fun y H4 b4 P4 r => ?_)
    have l2 : (100000 : Nat) < sizeLine := by decide
    refine ⟨ys, b4 _ _ nD hD', by omega, fun b o nb eb => ?_, P4.same' (upd_ne nD.symm), ys ++ [y], upd_same, by rw [List.length_append, ly]; rfl, ?_⟩
    · rw [upd_ne (ne_of_none eb hD)]
      exact b4 _ _ nb (b1 _ _ nb eb)
    · rw [List.range_succ]
      exact paired_snoc (paired_mono (fun i y h => hR i y _ _ ((off2_but b4).trans off2_upd) h) py) (hR _ _ _ _ off2_upd r)
  · obtain ⟨b1, PM, ys, hD', ly, py⟩ := h
    exact hd H ys b1 PM hD' py
end KB
set_option Elab.async false
set_option linter.all false
set_option maxRecDepth 100000
set_option maxHeartbeats 4000000
/-! list(range(a, b, c)). -/
namespace KB
open PySem PySem.Spec PyProof.Rows L2
/-- the items of a range with a step -/
def rgC (i c : Int) (n : Nat) : List V := (List.range n).map fun k : Nat => V.int (i + (k : Int) * c)
def tLstRg3 (ta : TA) : TE := fun σ H Q => ta σ H fun vs H1 => ∃ (i j c : Int) (n : Nat), vs = [.int i, .int j, .int c] ∧ c ≠ 0 ∧ Builtin.divisionGoesByPylong (j - i) c = false ∧ Builtin.Range.small i j c = true ∧ Builtin.Range.rangeSize i j c = (n : Int) ∧ n ≤ 2 ^ 24 ∧ ∀ q, H1 q = none → Q (.ref q) (upd H1 q (.lst (rgC i c n)))
theorem vals_rgC {i c : Int} {n : Nat} {acc : Array Value} (h : ItemsOf (fun k v => ∃ t, v = Value.int (i + (k : Int) * c) t) acc n) : Vals (rgC i c n) acc.toList := by
  obtain ⟨h1, h2⟩ := h
  have g : ∀ (xs : List Value) (m : Nat), (∀ (j : Nat) (v : Value), xs[j]? = some v → ∃ t, v = Value.int (i + ((m + j : Nat) : Int) * c) t) → Vals ((List.range' m xs.length).map fun k : Nat => V.int (i + (k : Int) * c)) xs := fun xs => by
    induction xs with
    | nil => exact fun _ _ => .nil
    | cons v xs ih =>
      intro m h
      obtain ⟨t, e⟩ := h 0 v rfl
      refine .cons ⟨t, e⟩ (ih (m + 1) fun j v e => ?_)
      obtain ⟨t, e⟩ := h (j + 1) v e
      exact ⟨t, by rw [e, show m + (j + 1) = m + 1 + j by omega]⟩
  have := g acc.toList 0 fun j v e => by
    obtain ⟨t, e⟩ := h2 j v (by rw [← Array.getElem?_toList]; exact e)
    exact ⟨t, by rw [e, Nat.zero_add]⟩
  unfold rgC
  rw [List.range_eq_range', ← h1, ← Array.length_toList]
  exact this
section
variable {X : Cx} {a b c : Expr} {ta : TA} {p p2 pos pos2 : Pos}
theorem pe_listRg3 (hc : X.calm = true) (hg : Gl X "list") (hm : X.mg "list" = none) (hg2 : Gl X "range") (hm2 : X.mg "range" = none) (ha : PA X [a, b, c] ta)
    (hs : starEach [a, b, c] X.env = (false, eval a X.env) :: starEach [b, c] X.env := by rfl) (hpl : (backTo pos2 (starEach [b, c] X.env)).any (fun x => x.fst) = false := by rfl)
    (na : starEach [Expr.Call (.Name "range" p2) [a, b, c] [] pos2] X.env = (false, eval (Expr.Call (.Name "range" p2) [a, b, c] [] pos2) X.env) :: starEach [] X.env := by rfl) :
    PE X (.Call (.Name "list" p) [.Call (.Name "range" p2) [a, b, c] [] pos2] [] pos) (tLstRg3 ta) := by
  refine ⟨fun pins s σ H Q I h => ?_⟩
  have inner : wpAny (model X.prog X.w) X.A (eval (Expr.Call (.Name "range" p2) [a, b, c] [] pos2) X.env) (fun x s1 => ∃ (r : Addr) (i j k : Int) (n : Nat) (t u v : Tok) (H1 : Hp), x = Value.ref r ∧ IsRange s1.heap r i j k t u v ∧ L2.Inv X pins σ H1 s1 ∧ Builtin.Range.small i j k = true ∧ Builtin.Range.rangeSize i j k = (n : Int) ∧ n ≤ 2 ^ 24 ∧ ∀ q, H1 q = none → Q (.ref q) (upd H1 q (.lst (rgC i k n)))) X.xe s := by
    refine Call_ (ld_blt I hg2 hm2 boot_range (PyProof.Rows.callWith_type1 (thn (ha.run pos2 pins s σ H _ I h) fun us s1 hx => ?_) hs hpl) (by decide) (by decide)) rfl
    obtain ⟨vs, H1, I1, r1, i, j, k, n, rfl, k0, kd, ks, kn, n24, q⟩ := hx
    obtain ⟨u1, u2, u3, rfl, r2, r3, r4⟩ : ∃ u1 u2 u3, us = [u1, u2, u3] ∧ RelV (.int i) u1 ∧ RelV (.int j) u2 ∧ RelV (.int k) u3 := by
      cases r1 with
      | cons a r => cases r with
        | cons b r => cases r with
          | cons c r => cases r with
            | nil => exact ⟨_, _, _, rfl, a, b, c⟩
    obtain ⟨t, rfl⟩ := r2
    obtain ⟨u, rfl⟩ := r3
    obtain ⟨v, rfl⟩ := r4
    refine call_range_3 k0 ?_ (.inl kd)
    exact ⟨_, i, j, k, n, t, u, v, H1, rfl, IsRange.new s1.heap i j k t u v, I1.kept fun b o e => Heap.get?_push_of_some _ e, ks, kn, n24, q⟩
  refine Call_ (ld_blt I hg hm boot_list (PyProof.Rows.callWith_type1 (args_cons (thn inner fun x s1 hx => ?_) na) na rfl) (by decide) (by decide)) rfl
  obtain ⟨r, i, j, k, n, t, u, v, H1, rfl, hr, I1, ks, kn, n24, q⟩ := hx
  refine args_nil ?_
  refine call_list_range (I1.ok.hd hc) hr ks kn n24 fun h' tk acc c' hk e' hi => ?_
  refine ⟨.ref s1.heap.objs.size, upd H1 s1.heap.objs.size (.lst (rgC i k n)), I1.laid hk (Nat.le_refl _) ⟨?_, acc.toList, c', vals_rgC hi, ?_⟩, rfl, q _ (I1.hok.fresh (Nat.le_refl _))⟩
  · unfold rgC
    rw [List.length_map, List.length_range]
    exact Nat.le_trans n24 (by decide)
  · rw [Array.toArray_toList]
    exact e'
end
end KB
set_option Elab.async false
set_option linter.all false
set_option maxRecDepth 100000
set_option maxHeartbeats 8000000
/-! The law's draws: runs, lists of places. -/
namespace K18
open PySem PySem.Spec PyProof.Rows L2 KB LamX
def spShuffled (K : PySem.W.Frag) : Sp := fun vs H Q _ => ∃ (pu c : Addr) (N : Nat) (L : List Nat), vs = [.ref pu, .ref c] ∧ Purse H pu N ∧ N ≤ 2 ^ 38 ∧ c ≠ pu ∧ H c = some (.lst (numsV L)) ∧ L.length ≤ 60 ∧
  ∀ q L' H', But pu H H' → Purse H' pu (N + 100) → H q = none → H' q = some (.lst (numsV L')) → L'.Perm L → Q (.ref q) H'
/-- ascending lists of numbers below k, of at most z -/
def pls (z : Nat) : Nat → List (List Nat)
  | 0 => [[]]
  | k + 1 => pls z k ++ ((pls z k).filter fun l => decide (l.length < z)).map (· ++ [k])
theorem pls_len (z : Nat) : ∀ k, (pls z k).length ≤ 2 ^ k
  | 0 => Nat.le_refl _
  | k + 1 => by
    have ih := pls_len z k
    have h2 := List.length_filter_le (fun l : List Nat => decide (l.length < z)) (pls z k)
    show (pls z k ++ _).length ≤ _
    rw [List.length_append, List.length_map, Nat.pow_succ]
    omega
theorem asc_snoc {k : Nat} {P : List Nat} (h : PlOk k P) : PlOk (k + 1) (P ++ [k]) := by
  refine ⟨List.pairwise_append.mpr ⟨h.1, List.pairwise_singleton _ _, fun a ha b hb => ?_⟩, fun x hx => ?_⟩
  · rw [List.mem_singleton.mp hb]
    exact h.2 a ha
  · rcases List.mem_append.mp hx with m | m
    · have := h.2 x m
      omega
    · rw [List.mem_singleton.mp m]
      omega
theorem mem_pls {z : Nat} : ∀ {k : Nat} {P : List Nat}, P ∈ pls z k ↔ PlOk k P ∧ P.length ≤ z
  | 0, P => by
    show P ∈ [[]] ↔ _
    rw [List.mem_singleton]
    constructor
    · rintro rfl
      exact ⟨⟨.nil, fun x h => by cases h⟩, Nat.zero_le _⟩
    · rintro ⟨h, _⟩
      cases P with
      | nil => rfl
      | cons x r =>
        have := h.2 x List.mem_cons_self
        omega
  | k + 1, P => by
    show P ∈ pls z k ++ _ ↔ _
    rw [List.mem_append, List.mem_map]
    constructor
    · rintro (h | ⟨P', h, rfl⟩)
      · obtain ⟨a, b⟩ := mem_pls.mp h
        exact ⟨⟨a.1, fun x hx => by have := a.2 x hx; omega⟩, b⟩
      · obtain ⟨h1, h2⟩ := List.mem_filter.mp h
        obtain ⟨a, b⟩ := mem_pls.mp h1
        have := of_decide_eq_true h2
        exact ⟨asc_snoc a, by rw [List.length_append, List.length_singleton]; omega⟩
    · rintro ⟨a, b⟩
      rcases List.eq_nil_or_concat P with rfl | ⟨P', x, rfl⟩
      · exact .inl (mem_pls.mpr ⟨⟨.nil, fun x h => by cases h⟩, Nat.zero_le _⟩)
      · rw [List.concat_eq_append] at a b ⊢
        have px := List.pairwise_append.mp a.1
        have hx := a.2 x (by simp)
        have lt : ∀ y ∈ P', y < x := fun y hy => px.2.2 y hy x (by simp)
        rw [List.length_append, List.length_singleton] at b
        by_cases e : x = k
        · subst e
          exact .inr ⟨P', List.mem_filter.mpr ⟨mem_pls.mpr ⟨⟨px.1, lt⟩, by omega⟩, decide_eq_true (by omega)⟩, rfl⟩
        · refine .inl (mem_pls.mpr ⟨⟨a.1, fun y hy => ?_⟩, by rw [List.length_append, List.length_singleton]; omega⟩)
          rcases List.mem_append.mp hy with m | m
          · have := lt y m
            omega
          · rw [List.mem_singleton.mp m]
            omega
def spPlaceL (K : PySem.W.Frag) : Sp := fun vs H Q _ => ∃ (n z : Nat), vs = [.int (n : Int), .int (z : Int)] ∧ n ≤ 11 ∧ z ≤ 10 ∧ ∀ q ys PS H', Same H H' → H q = none → H' q = some (.lst ys) → Paired (LsAt H') PS ys → (∀ P, P ∈ PS ↔ PlOk n P ∧ P.length = z) → PS.length ≤ 2048 → Q (.ref q) H'
theorem lsAt_mono {H H' : Hp} (k : Same H H') {PS : List (List Nat)} {ys : List V} (p : Paired (LsAt H) PS ys) : Paired (LsAt H') PS ys := paired_mono (fun _ _ h => h.same k) p
theorem paired_app {α β : Type} {R : α → β → Prop} : ∀ {xs xs' : List α} {ys ys' : List β}, Paired R xs ys → Paired R xs' ys' → Paired R (xs ++ xs') (ys ++ ys')
  | _, _, _, _, .nil, h => h
  | _, _, _, _, .cons r t, h => .cons r (paired_app t h)
section
variable {P : Program} {w : World} {K : PySem.W.Frag} {mg : Str → Option Value} {base : Heap}
abbrev s_shuffled : Stmt := top 44
abbrev N_shuffled : List Str := ["_law_purse_here", "_law_some", "_law_found", "_law_item"]
theorem sc_shuffled : FnScope N_shuffled ["_law_purse_here", "_law_some"] (defScope s_shuffled) := ⟨rfl, rfl, rfl, by decide +kernel, rfl, by decide +kernel, by decide +kernel⟩
theorem ok_shuffled {f : Addr} {fd : FuncData} (F : FnP K "_law_shuffled" s_shuffled f fd) (Z : FreeS mg)
    {f_draw : Addr} {d_draw : FuncData} (g_draw : mg "_law_draw" = some (.ref f_draw)) (F_draw : FnP K "_law_draw" s_draw f_draw d_draw) (G_draw : FnOk P w K mg base CX0 2 f_draw d_draw ["_law_purse_here", "_law_many"] spDraw) :
    FnOk P w K mg base CX0 3 f fd ["_law_purse_here", "_law_some"] (spShuffled K) := by
  have b_draw : Binds K d_draw ["_law_purse_here", "_law_many"] [] := F_draw.bindsN fun _ _ _ _ _ _ us hl => match us, hl with | [_, _], _ => rfl
  refine F.ok sc_shuffled (fun vs H Q E h => ?_) (fun cdv A outer s H vs Q E hr h => ?_)
  · obtain ⟨pu, c, N, L, rfl, _⟩ := h
    rfl
  · obtain ⟨pu, c, N, L, rfl, hP, hN, nc, hc, l60, k⟩ := h
    have sl : (10000 : Nat) ≤ sizeLine := by decide
    have nd := sc_shuffled.nd
    refine ⟨_, PSs.nox (pss_cons (ps_set (i := 2) nd rfl (Or.inl rfl) (pe_lst (pa_nil)))
      (pss_cons (ps_for PassesOwn.never rfl (pi_list (pv 1)) (pg_name (i := 3) nd rfl (Or.inl rfl))
        (pss_one (ps_expr (pe_bm PySem.F.plainAttrs_list PySem.F.slot_list_insert PySem.F.type_list_insert mt_insert (pv 2) (pa_cons (pe_call G_draw (hr.mono (by decide)) rfl g_draw F_draw.kp b_draw .nil pass0 (pa_cons (pv 0) (pa_cons (pe_op op_add (pe_callB call_len_seq (by rfl) Z.len (by decide +kernel) (pa_cons (pv 2) (pa_nil))) (pe_int)) (pa_nil)))) (pa_cons (pv 3) (pa_nil)))))))
      (pss_one (ps_ret (pv 2))))), ?_⟩
    refine ⟨Nat.zero_le _, fun q hq => ?_⟩
    have nq : q ≠ pu := fresh_ne hP hq
    have s1 := Same.updf (o := .lst []) hq
    have P1 := hP.same s1
    have lc : (numsV L).length = L.length := List.length_map _
    refine ⟨_, rfl, c, rfl, ⟨_, SqL.of (s1 _ _ hc)⟩, ?_⟩
    refine for_it (walk_list (K := K) (a := c) (xs := numsV L)) (fun i σ G => But pu H G ∧ (∃ M, Purse G pu M ∧ M ≤ N + i) ∧ ∃ (ys : List Nat) (v3 : Option V), G q = some (.lst (numsV ys)) ∧ ys.Perm (L.take i) ∧ σ = [some (.ref pu), some (.ref c), some (.ref q), v3])
      ⟨But.of s1, ⟨N, P1, by omega⟩, [], _, upd_same, List.Perm.refl _, rfl⟩ (fun i σ G _ hh => SqL.of (hh.1 _ _ nc hc)) ?_ ?_
    · rintro i x σ G G' hi ⟨bG, ⟨M, PM, lM⟩, ys, v3, hy, py, rfl⟩ ⟨rfl, hv⟩
      have li : i < L.length := by omega
      unfold numsV at hv
      rw [List.getElem?_map, List.getElem?_eq_getElem li] at hv
      obtain rfl := Option.some.inj hv
      have ly := py.length_eq
      rw [List.length_take] at ly
      have lyv : (numsV ys).length = ys.length := List.length_map _
      have mx : mixes (((numsV ys).length : Nat) + 1 : Int) = 1 := mixes_one (by omega) (by omega)
      refine ⟨_, rfl, .inl ⟨rfl, _, SqL.of hy⟩, _, rfl, _, rfl, q, _, rfl, .inl (SqL.of hy), _, _, rfl, rfl, pu, _, M, rfl, by omega, log_small (by omega) (by omega), PM, by rw [mx]; omega, by rw [mx]; omega, fun r G2 r0 r1 b2 P2 => ?_⟩
      rw [mx] at P2
      obtain ⟨r, rfl⟩ : ∃ z : Nat, r = (z : Int) := ⟨r.toNat, by omega⟩
      have hy2 := b2 _ _ nq hy
      refine ⟨_, rfl, q, _, _, _, rfl, rfl, hy2, by omega, by omega, by omega, ?_⟩
      refine ⟨fun c o n e => ?_, ⟨_, P2.same' (upd_ne nq.symm), by omega⟩, ys.take r ++ [L[i]] ++ ys.drop r, _, ?_, ?_, rfl⟩
      · rw [upd_ne (ne_of_none e hq)]
        exact b2 _ _ n (bG _ _ n e)
      · rw [upd_same]
        unfold numsV
        rw [List.map_append, List.map_append, List.map_take, List.map_drop, Int.toNat_natCast]
        rfl
      · rw [List.take_succ, List.getElem?_eq_getElem li]
        refine List.Perm.trans ?_ (py.append_right [L[i]])
        rw [List.append_assoc]
        refine (List.Perm.append_left (ys.take r) List.perm_append_comm).trans ?_
        rw [← List.append_assoc, List.take_append_drop]
    · rintro σ G ⟨bG, ⟨M, PM, lM⟩, ys, v3, hy, py, rfl⟩
      rw [lc, List.take_length] at py
      exact ⟨_, rfl, k q ys G bG (PM.mono (by omega)) hq hy py⟩
abbrev s_place_lists : Stmt := top 50
abbrev N_place_lists : List Str := ["_law_many", "_law_size", "_law_found", "_law_place", "_law_some"]
theorem sc_place_lists : FnScope N_place_lists ["_law_many", "_law_size"] (defScope s_place_lists) := ⟨rfl, rfl, rfl, by decide +kernel, rfl, by decide +kernel, by decide +kernel⟩
theorem ok_place_lists {f : Addr} {fd : FuncData} (F : FnP K "_law_place_lists" s_place_lists f fd) (Z : FreeS mg) :
    FnOk P w K mg base CX0 1 f fd ["_law_many", "_law_size"] (spPlaceL K) := by
  refine F.ok sc_place_lists (fun vs H Q E h => ?_) (fun cdv A outer s H vs Q E hr h => ?_)
  · obtain ⟨n, z, rfl, _⟩ := h
    rfl
  · obtain ⟨n, z, rfl, n11, z10, k⟩ := h
    have sl : (10000 : Nat) ≤ sizeLine := by decide
    have nd := sc_place_lists.nd
    refine ⟨_, PSs.nox (pss_cons (ps_set (i := 2) nd rfl (Or.inl rfl) (pe_lst (pa_cons (pe_lst (pa_nil)) (pa_nil))))
      (pss_cons (ps_for PassesOwn.never rfl (pi_range1 (by rfl) Z.range (pa_cons (pv 0) (pa_nil))) (pg_name (i := 3) nd rfl (Or.inr rfl))
        (pss_one (ps_set (i := 2) nd rfl (Or.inl rfl) (pe_op op_cat (pv 2) (pe_lc (own := [("_law_some", 4)]) (g := gName 4) (tt := tTest (tOp (rI0 fun i j => .bl (decide (i < j))) (tCB (rLenK K) (tCons (tVar 4) tNil)) (tVar 1))) (te := tOp rCat (tVar 4) (tLst (tCons (tVar 3) (tNil)))) (by rfl) nd (pi_list (pv 2))
          (blkOk_by (own := [("_law_some", 4)]) (N := N_place_lists) (sc := defScope s_place_lists) (by decide +kernel)) (fun _ _ _ _ _ => pg_name (i := 4) nd rfl (Or.inl rfl)) (fun _ _ _ _ _ => pts_one (pt_cmpR op_lt (pe_callB call_len_seq (by rfl) Z.len (by decide +kernel) (pa_cons (pv 4) (pa_nil))) (pv 1) (nomark _)))
          (fun _ _ _ _ _ => pe_op op_cat (pv 4) (pe_lst (pa_cons (pv 3) (pa_nil)))))))))
      (pss_one (ps_ret (pe_callB ((cr_sortedL hr.units)) (by rfl) Z.sorted (by decide +kernel) (pa_cons (pe_lc (own := [("_law_some", 4)]) (g := gName 4) (tt := tTest (tOp rEq (tCB (rLenK K) (tCons (tVar 4) tNil)) (tVar 1))) (te := tVar 4) (by rfl) nd (pi_list (pv 2))
          (blkOk_by (own := [("_law_some", 4)]) (N := N_place_lists) (sc := defScope s_place_lists) (by decide +kernel)) (fun _ _ _ _ _ => pg_name (i := 4) nd rfl (Or.inl rfl)) (fun _ _ _ _ _ => pts_one (pt_cmpR op_eq (pe_callB call_len_seq (by rfl) Z.len (by decide +kernel) (pa_cons (pv 4) (pa_nil))) (pv 1) (nomark _)))
          (fun _ _ _ _ _ => pv 4)) (pa_nil))))))), ?_⟩
    refine ⟨(by show 0 ≤ sizeLine; omega), fun e0 he0 => ⟨(by show 1 ≤ sizeLine; omega), fun q0 hq0 => ?_⟩⟩
    have s1 := (Same.updf (o := .lst []) he0).trans (Same.updf (o := .lst [.ref e0]) hq0)
    have tn : ((n : Int)).toNat = n := Int.toNat_natCast n
    refine ⟨_, rfl, (n : Int), rfl, by omega, by omega, ?_⟩
    rw [tn]
    refine for_range (lo := 0) (n := n) (fun i σ G => Same H G ∧ ∃ (q : Addr) (ys : List V) (v3 : Option V), G q = some (.lst ys) ∧ Paired (LsAt G) (pls z i) ys ∧ σ = [some (.int (n : Int)), some (.int (z : Int)), some (.ref q), v3, none])
      ⟨s1, q0, [.ref e0], none, upd_same, .cons ⟨e0, rfl, ?_⟩ .nil, rfl⟩ ?_ ?_
    · rw [upd_ne (fun z => by rw [z, upd_same] at hq0; cases hq0), upd_same]
      rfl
    · rintro i σ G hi ⟨sG, q, ys, v3, hq, py, rfl⟩
      have ly := paired_len py
      have lp : (pls z i).length ≤ 2048 := Nat.le_trans (pls_len z i) (Nat.pow_le_pow_right (n := 2) (by decide) (by omega : i ≤ 11))
      refine ⟨_, rfl, _, rfl, q, rfl, ⟨_, SqL.of hq⟩, fun D hD => ?_⟩
      refine lc_rel (n := ys.length) (walk_list (K := K) (a := q) (xs := ys)) (fun j => (((pls z i)[j]?).map fun l => decide (l.length < z)).getD false) (fun j y G => ∃ l, ((pls z i)[j]?).map (· ++ [i]) = some l ∧ LsAt G l y) (fun j y G G' s ⟨l, e, h⟩ => ⟨l, e, h.same s⟩) (by omega) hD (fun G2 s => SqL.of (s _ _ hq)) ?_ ?_
      · rintro j y G2 G3 Qy Qn hj s2 hacc ⟨rfl, hv⟩ ky_ kn
        obtain ⟨l, el, T, rfl, hT⟩ := paired_get2 py hv
        rw [el] at ky_ kn
        have hT2 := s2 _ _ hT
        refine ⟨rfl, _, rfl, T, _, rfl, .inl (SqL.of hT2), _, rfl, _, _, rfl, rfl, _, rfl, ?_⟩
        rw [List.length_map]
        by_cases c : l.length < z
        · refine itePos (decide_eq_true (by omega)) ⟨_, rfl, _, rfl, (by show 1 ≤ sizeLine; omega), fun b hb => ?_⟩
          have sb := Same.updf (o := .lst [V.int (0 + (i : Int))]) hb
          refine ⟨T, b, _, _, rfl, rfl, sb _ _ hT2, upd_same, ?_, fun p hp => ?_⟩
          · rw [List.length_map]
            show _ + 1 ≤ sizeLine
            omega
          have sp := Same.updf (o := .lst ((l.map fun x : Nat => V.int (x : Int)) ++ [V.int (0 + (i : Int))])) hp
          have s3 := sb.trans sp
          obtain ⟨acc, hacc⟩ := hacc
          have np : p ≠ D := fun z => by
            rw [z, sb _ _ hacc] at hp
            cases hp
          refine ky_ _ _ (decide_eq_true c) s3 ⟨l ++ [i], rfl, p, rfl, ?_⟩
          rw [off_at np, upd_same, List.map_append, Int.zero_add]
          rfl
        · refine iteNeg (by rw [decide_eq_false (by omega)]; exact Bool.false_ne_true) (kn _ (decide_eq_false c) (Same.refl _))
      · intro G2 zs s2 hzs pz
        have pz2 : Paired (LsAt G2) (((pls z i).filter fun l => decide (l.length < z)).map (· ++ [i])) zs := by
          have h := paired_fm pz
          rw [← ly, fm_get (· ++ [i]) (fun l : List Nat => decide (l.length < z)) (pls z i)] at h
          exact lsAt_mono (off_le G2 D) h
        have lz := paired_len pz2
        have lf : (((pls z i).filter fun l => decide (l.length < z)).map (· ++ [i])).length ≤ 2048 := by
          rw [List.length_map]
          exact Nat.le_trans (List.length_filter_le _ _) lp
        refine ⟨q, D, ys, zs, rfl, rfl, s2 _ _ hq, hzs, by omega, fun p hp => ?_⟩
        have sp := Same.updf (o := .lst (ys ++ zs)) hp
        exact ⟨(sG.trans s2).trans sp, p, _, _, upd_same, paired_app (lsAt_mono (s2.trans sp) py) (lsAt_mono sp pz2), rfl⟩
    · rintro σ G ⟨sG, q, ys, v3, hq, py, rfl⟩
      have ly := paired_len py
      have lp : (pls z n).length ≤ 2048 := Nat.le_trans (pls_len z n) (Nat.pow_le_pow_right (n := 2) (by decide) (by omega : n ≤ 11))
      refine ⟨_, rfl, q, rfl, ⟨_, SqL.of hq⟩, fun D hD => ?_⟩
      refine lc_rel (n := ys.length) (walk_list (K := K) (a := q) (xs := ys)) (fun j => (((pls z n)[j]?).map fun l => decide (l.length = z)).getD false) (fun j y G => ∃ l, ((pls z n)[j]?).map id = some l ∧ LsAt G l y) (fun j y G G' s ⟨l, e, h⟩ => ⟨l, e, h.same s⟩) (by omega) hD (fun G2 s => SqL.of (s _ _ hq)) ?_ ?_
      · rintro j y G2 G3 Qy Qn hj s2 hacc ⟨rfl, hv⟩ ky_ kn
        obtain ⟨l, el, T, rfl, hT⟩ := paired_get2 py hv
        rw [el] at ky_ kn
        have hT2 := s2 _ _ hT
        obtain ⟨acc, hacc⟩ := hacc
        have nT : T ≠ D := fun z => by
          rw [z, hD] at hT
          cases hT
        refine ⟨rfl, _, rfl, T, _, rfl, .inl (SqL.of hT2), _, rfl, rfl, _, rfl, ?_⟩
        rw [List.length_map]
        by_cases c : l.length = z
        · refine itePos (decide_eq_true (by rw [c])) ⟨_, rfl, ky_ _ _ (decide_eq_true c) (Same.refl _) ⟨l, rfl, T, rfl, ?_⟩⟩
          rw [off_at nT]
          exact hT2
        · refine iteNeg (by rw [decide_eq_false (fun z => c (by have := V.int.inj z; omega))]; exact Bool.false_ne_true) (kn _ (decide_eq_false c) (Same.refl _))
      · intro G2 zs s2 hzs pz
        have pz2 : Paired (LsAt G2) ((pls z n).filter fun l => decide (l.length = z)) zs := by
          have h := paired_fm pz
          rw [← ly, fm_get id (fun l : List Nat => decide (l.length = z)) (pls z n), List.map_id] at h
          exact lsAt_mono (off_le G2 D) h
        refine ⟨D, zs, _, rfl, SqL.of hzs, pz2, fun p us PS hp pm pu => ?_⟩
        have sp := Same.updf (o := .lst us) hp
        refine k p us PS _ ((sG.trans s2).trans sp) (none_back (sG.trans s2) hp) upd_same (lsAt_mono sp pu) (fun P => ?_) ?_
        · rw [pm.mem_iff, List.mem_filter, mem_pls]
          constructor
          · rintro ⟨⟨a, _⟩, b⟩
            exact ⟨a, of_decide_eq_true b⟩
          · rintro ⟨a, b⟩
            exact ⟨⟨a, by omega⟩, decide_eq_true b⟩
        · rw [pm.length_eq]
          exact Nat.le_trans (List.length_filter_le _ _) lp
end
end K18
set_option Elab.async false
set_option linter.all false
set_option maxRecDepth 100000
set_option maxHeartbeats 8000000
/-! The law's runs and waits. -/
namespace K18
open PySem PySem.Spec PyProof.Rows L2 KB LamX
def spEvent (K : PySem.W.Frag) : Sp := fun vs H Q _ => ∃ (pu : Addr) (c N : Nat), vs = [.ref pu, .int (c : Int)] ∧ Purse H pu N ∧ N ≤ 2 ^ 38 ∧ 1 ≤ c ∧ c ≤ 10 ∧
  ∀ t e H', But pu H H' → Purse H' pu (N + 2) → H t = none → H' t = some (.tup (Ev.v e)) → Q (.ref t) H'
def spRun (K : PySem.W.Frag) : Sp := fun vs H Q _ => ∃ (pu : Addr) (m N : Nat), vs = [.ref pu, .int (m : Int)] ∧ Purse H pu N ∧ N ≤ 2 ^ 37 ∧ 1 ≤ m ∧ m ≤ 10 ∧
  ∀ q es H', But pu H H' → Purse H' pu (N + 100) → H q = none → RunOk K (off H' pu) q es → es.length ≤ m → Q (.ref q) H'
/-- pairs in the order of the tuples -/
def sortP (ws : List (Nat × Nat)) : List (Nat × Nat) := ws.mergeSort fun u v => decide (u.1 < v.1 ∨ (u.1 = v.1 ∧ u.2 ≤ v.2))
def iv (w : Nat × Nat) : List Int := [(w.1 : Int), (w.2 : Int)]
theorem sortT_iv (ws : List (Nat × Nat)) : sortT (ws.map iv) = (sortP ws).map iv := by
  unfold sortT sortP
  rw [List.map_mergeSort (s := fun a b => PySem.W.dataLe false intsD a b)]
  intro u _ v _
  have e := congrFun (congrFun (PySem.W.dataLe_ii (fun w : Nat × Nat => (w.1 : Int)) (fun w : Nat × Nat => (w.2 : Int))) u) v
  have e2 : PySem.W.dataLe false intsD (iv u) (iv v) = PySem.W.dataLe false (fun b : Nat × Nat => .tuple [.int (b.1 : Int), .int (b.2 : Int)]) u v := rfl
  rw [e2, e, decide_eq_decide]
  omega
theorem sortP_asc {ws : List (Nat × Nat)} (nd : ws.Nodup) : (sortP ws).Pairwise lexP := by
  have h1 : (sortP ws).Pairwise fun u v => u.1 < v.1 ∨ (u.1 = v.1 ∧ u.2 ≤ v.2) := by
    have h := List.pairwise_mergeSort (le := fun u v : Nat × Nat => decide (u.1 < v.1 ∨ (u.1 = v.1 ∧ u.2 ≤ v.2))) (fun a b c h1 h2 => by
      simp only [decide_eq_true_eq] at *
      omega) (fun a b => by
      simp only [Bool.or_eq_true, decide_eq_true_eq]
      omega) ws
    exact h.imp fun h => of_decide_eq_true h
  have h2 : (sortP ws).Nodup := (List.mergeSort_perm ws _).nodup_iff.mpr nd
  refine (h1.and (List.nodup_iff_pairwise_ne.mp h2)).imp fun {u v} h => ?_
  obtain ⟨h, n⟩ := h
  rcases h with h | ⟨e, h⟩
  · exact .inl h
  · refine .inr ⟨e, ?_⟩
    rcases Nat.lt_or_ge u.2 v.2 with c | c
    · exact c
    · exact absurd (Prod.ext e (by omega)) n
theorem sortP_mem {ws : List (Nat × Nat)} {w : Nat × Nat} : w ∈ sortP ws ↔ w ∈ ws := List.mem_mergeSort
def spPairs (K : PySem.W.Frag) : Sp := fun vs H Q _ => ∃ (a : Addr) (es : List Ev), vs = [.ref a] ∧ RunOk K H a es ∧ es.length ≤ 20 ∧ ∀ q ws H', Same H H' → H q = none → WtOk K H' q es ws → Q (.ref q) H'
def spSomeW (K : PySem.W.Frag) : Sp := fun vs H Q _ => ∃ (pu a : Addr) (es : List Ev) (f N : Nat), vs = [.ref pu, .ref a, .int (f : Int)] ∧ Purse H pu N ∧ N ≤ 2 ^ 37 ∧ 1 ≤ f ∧ f ≤ 10 ∧ RunOk K H a es ∧ es.length ≤ 20 ∧
  ∀ q ws H', But pu H H' → Purse H' pu (N + 1000) → H q = none → WtOk K (off H' pu) q es ws → Q (.ref q) H'
section
variable {P : Program} {w : World} {K : PySem.W.Frag} {mg : Str → Option Value} {base : Heap}
abbrev s_event : Stmt := top 46
abbrev N_event : List Str := ["_law_purse_here", "_law_cells", "_law_way"]
theorem sc_event : FnScope N_event ["_law_purse_here", "_law_cells"] (defScope s_event) := ⟨rfl, rfl, rfl, by decide +kernel, rfl, by decide +kernel, by decide +kernel⟩
theorem ok_event {f : Addr} {fd : FuncData} (F : FnP K "_law_event" s_event f fd) (Z : FreeS mg)
    {f_draw : Addr} {d_draw : FuncData} (g_draw : mg "_law_draw" = some (.ref f_draw)) (F_draw : FnP K "_law_draw" s_draw f_draw d_draw) (G_draw : FnOk P w K mg base CX0 2 f_draw d_draw ["_law_purse_here", "_law_many"] spDraw) :
    FnOk P w K mg base CX0 3 f fd ["_law_purse_here", "_law_cells"] (spEvent K) := by
  have b_draw : Binds K d_draw ["_law_purse_here", "_law_many"] [] := F_draw.bindsN fun _ _ _ _ _ _ us hl => match us, hl with | [_, _], _ => rfl
  refine F.ok sc_event (fun vs H Q E h => ?_) (fun cdv A outer s H vs Q E hr h => ?_)
  · obtain ⟨pu, c, N, rfl, _⟩ := h
    rfl
  · obtain ⟨pu, c, N, rfl, hP, hN, c1, c10, k⟩ := h
    have sl : (10000 : Nat) ≤ sizeLine := by decide
    have m8 : mixes 8 = 1 := mixes_one (by decide) (by decide)
    have mc : mixes (c : Int) = 1 := mixes_one (by omega) (by omega)
    have nd := sc_event.nd
    refine ⟨_, PSs.nox (pss_cons (ps_set (i := 2) nd rfl (Or.inl rfl) (pe_call G_draw (hr.mono (by decide)) rfl g_draw F_draw.kp b_draw .nil pass0 (pa_cons (pv 0) (pa_cons (pe_int) (pa_nil)))))
      (pss_one (ps_ret (pe_ifExp (pt_cmpR op_lt (pv 2) (pe_int) (nomark _)) (pe_tup (pa_cons (pe_str) (pa_cons (pe_call G_draw (hr.mono (by decide)) rfl g_draw F_draw.kp b_draw .nil pass0 (pa_cons (pv 0) (pa_cons (pv 1) (pa_nil)))) (pa_nil)))) (pe_ifExp (pt_cmpR op_lt (pv 2) (pe_int) (nomark _)) (pe_tup (pa_cons (pe_str) (pa_nil))) (pe_tup (pa_cons (pe_str) (pa_nil)))))))), ?_⟩
    refine ⟨_, rfl, pu, 8, N, rfl, by decide, log_small (by decide) (by decide), hP, by rw [m8]; omega, by rw [m8]; omega, fun r G1 r0 r1 b1 P1 => ?_⟩
    rw [m8] at P1
    dsimp only [cxOf, Cx.nox]
    refine ⟨_, rfl, _, _, rfl, rfl, _, rfl, ?_⟩
    by_cases h5 : r < 5
    · refine iteP h5 ⟨_, rfl, _, rfl, pu, c, N + 1, rfl, by omega, log_small (by omega) (by omega), P1, by rw [mc]; omega, by rw [mc]; omega, fun r2 G2 r0' r1' b2 P2 => ?_⟩
      rw [mc] at P2
      obtain ⟨r2, rfl⟩ : ∃ z : Nat, r2 = (z : Int) := ⟨r2.toNat, by omega⟩
      refine ⟨(by show 2 ≤ sizeLine; omega), fun t ht => ?_⟩
      have nt := fresh_ne P2 ht
      have s := Same.updf (o := .tup [V.str "write", V.int (r2 : Int)]) ht
      exact k t (.wr r2) _ ((b1.trans b2).trans (But.of s)) (P2.same s) ((b1.trans b2).none nt ht) upd_same
    · refine iteQ h5 ⟨_, rfl, _, _, rfl, rfl, _, rfl, ?_⟩
      by_cases h7 : r < 7
      · refine iteP h7 ⟨(by show 1 ≤ sizeLine; omega), fun t ht => ?_⟩
        have nt := fresh_ne P1 ht
        have s := Same.updf (o := .tup [V.str "barrier"]) ht
        exact k t .bar _ (b1.trans (But.of s)) ((P1.same s).mono (by omega)) (b1.none nt ht) upd_same
      · refine iteQ h7 ⟨(by show 1 ≤ sizeLine; omega), fun t ht => ?_⟩
        have nt := fresh_ne P1 ht
        have s := Same.updf (o := .tup [V.str "tell"]) ht
        exact k t .tell _ (b1.trans (But.of s)) ((P1.same s).mono (by omega)) (b1.none nt ht) upd_same
abbrev s_run : Stmt := top 47
abbrev N_run : List Str := ["_law_purse_here", "_law_most", "_law_cells", "_law_turn"]
theorem sc_run : FnScope N_run ["_law_purse_here", "_law_most"] (defScope s_run) := ⟨rfl, rfl, rfl, by decide +kernel, rfl, by decide +kernel, by decide +kernel⟩
theorem ok_run {f : Addr} {fd : FuncData} (F : FnP K "_law_run" s_run f fd) (Z : FreeS mg)
    {f_draw : Addr} {d_draw : FuncData} (g_draw : mg "_law_draw" = some (.ref f_draw)) (F_draw : FnP K "_law_draw" s_draw f_draw d_draw) (G_draw : FnOk P w K mg base CX0 2 f_draw d_draw ["_law_purse_here", "_law_many"] spDraw)
    {f_event : Addr} {d_event : FuncData} (g_event : mg "_law_event" = some (.ref f_event)) (F_event : FnP K "_law_event" s_event f_event d_event) (G_event : FnOk P w K mg base CX0 3 f_event d_event ["_law_purse_here", "_law_cells"] (spEvent K)) :
    FnOk P w K mg base CX0 4 f fd ["_law_purse_here", "_law_most"] (spRun K) := by
  have b_draw : Binds K d_draw ["_law_purse_here", "_law_many"] [] := F_draw.bindsN fun _ _ _ _ _ _ us hl => match us, hl with | [_, _], _ => rfl
  have b_event : Binds K d_event ["_law_purse_here", "_law_cells"] [] := F_event.bindsN fun _ _ _ _ _ _ us hl => match us, hl with | [_, _], _ => rfl
  refine F.ok sc_run (fun vs H Q E h => ?_) (fun cdv A outer s H vs Q E hr h => ?_)
  · obtain ⟨pu, m, N, rfl, _⟩ := h
    rfl
  · obtain ⟨pu, m, N, rfl, hP, hN, m1, m10, k⟩ := h
    have sl : (10000 : Nat) ≤ sizeLine := by decide
    have m4 : mixes 4 = 1 := mixes_one (by decide) (by decide)
    have mm : mixes (m : Int) = 1 := mixes_one (by omega) (by omega)
    have nd := sc_run.nd
    refine ⟨_, PSs.nox (pss_cons (ps_set (i := 2) nd rfl (Or.inr rfl) (pe_op op_add (pe_int) (pe_call G_draw (hr.mono (by decide)) rfl g_draw F_draw.kp b_draw .nil pass0 (pa_cons (pv 0) (pa_cons (pe_int) (pa_nil))))))
      (pss_one (ps_ret (pe_lc (own := [("_law_turn", 3)]) (g := gName 3) (tt := tYes) (te := tCall (spEvent K) [] E0 (tCons (tVar 0) (tCons (tVar 2) (tNil)))) (by rfl) nd (pi_range1 (by rfl) Z.range (pa_cons (pe_op op_add (pe_int) (pe_call G_draw (hr.mono (by decide)) rfl g_draw F_draw.kp b_draw .nil pass0 (pa_cons (pv 0) (pa_cons (pv 1) (pa_nil))))) (pa_nil)))
          (blkOk_by (own := [("_law_turn", 3)]) (N := N_run) (sc := defScope s_run) (by decide +kernel)) (fun _ _ _ _ _ => pg_name (i := 3) nd rfl (Or.inl rfl)) (fun _ _ _ _ _ => pts_nil)
          (fun _ _ _ _ _ => pe_call G_event (hr.mono (by decide)) rfl g_event F_event.kp b_event .nil pass0 (pa_cons (pv 0) (pa_cons (pv 2) (pa_nil)))))))), ?_⟩
    refine ⟨_, rfl, pu, 4, N, rfl, by decide, log_small (by decide) (by decide), hP, by rw [m4]; omega, by rw [m4]; omega, fun r G1 r0 r1 b1 P1 => ?_⟩
    rw [m4] at P1
    obtain ⟨r, rfl⟩ : ∃ z : Nat, r = (z : Int) := ⟨r.toNat, by omega⟩
    refine ⟨_, _, rfl, rfl, ?_⟩
    refine ⟨_, rfl, _, rfl, pu, m, N + 1, rfl, by omega, log_small (by omega) (by omega), P1, by rw [mm]; omega, by rw [mm]; omega, fun r2 G2 q0 q1 b2 P2 => ?_⟩
    rw [mm] at P2
    obtain ⟨r2, rfl⟩ : ∃ z : Nat, r2 = (z : Int) := ⟨r2.toNat, by omega⟩
    refine ⟨_, _, rfl, rfl, ((1 + r2 : Nat) : Int), rfl, by omega, by omega, fun D hD => ?_⟩
    rw [Int.toNat_natCast]
    have b12 := b1.trans b2
    have nD := fresh_ne P2 hD
    refine lc_but (n := 1 + r2) (pu := pu) (N := N + 1 + 1) (cost := 2) (walk_range (lo := 0) (n := 1 + r2)) (fun _ y G => ∃ (t : Addr) (e : Ev), y = .ref t ∧ SqT K G t e.v) (fun _ y G G' s ⟨t, e, h1, h2⟩ => ⟨t, e, h1, SqT_up s h2⟩) (by omega) P2 hD (fun G _ => trivial) ?_ ?_
    · rintro i x Ga Gb Qy Qn hi ba Pa hacc ⟨rfl, rfl⟩ ky_
      obtain ⟨acc, hacc⟩ := hacc
      refine ⟨rfl, ?_⟩
      refine ⟨_, rfl, _, rfl, pu, 1 + r, _, rfl, Pa, by omega, by omega, by omega, fun t e Gc bc Pc nt ht => ?_⟩
      refine ky_ _ _ bc (Pc.mono (by omega)) ⟨t, e, rfl, SqT.of (off2_at (fun z => ?_) (fun z => ?_) ht)⟩
      · rw [z, hacc] at nt
        cases nt
      · obtain ⟨A0, B0, c0, i0, eP, _⟩ := Pa.at_
        rw [z, eP] at nt
        cases nt
    · intro G3 ys b3 P3 hys py
      have hpy : ∃ es : List Ev, es.length = ys.length ∧ Paired (fun (e : Ev) y => ∃ t, y = .ref t ∧ SqT K (off G3 pu) t e.v) es ys := by
        clear hys
        have : ∀ {is : List Nat} {ys : List V}, Paired (fun (_ : Nat) y => ∃ (t : Addr) (e : Ev), y = .ref t ∧ SqT K (off2 G3 D pu) t e.v) is ys → ∃ es : List Ev, es.length = ys.length ∧ Paired (fun (e : Ev) y => ∃ t, y = .ref t ∧ SqT K (off G3 pu) t e.v) es ys := fun h => by
          induction h with
          | nil => exact ⟨[], rfl, .nil⟩
          | cons r t ih =>
            obtain ⟨u, e, h1, h2⟩ := r
            obtain ⟨es, l, q⟩ := ih
            exact ⟨e :: es, congrArg (· + 1) l, .cons ⟨u, h1, SqT_up off2_le h2⟩ q⟩
        exact this py
      obtain ⟨es, les, pes⟩ := hpy
      have lys := paired_len py
      rw [List.length_range] at lys
      have hyo : off G3 pu D = some (.lst ys) := by rw [off_at nD]; exact hys
      refine k D es G3 (b12.trans b3) (P3.mono (by omega)) (b12.none nD hD) ⟨LsT.of_paired hyo pes, fun z => ?_, by omega⟩ (by omega)
      rw [z] at les
      simp at les
      omega
abbrev s_pairs_of : Stmt := top 48
abbrev N_pairs_of : List Str := ["_law_run_here", "_law_found", "_law_late", "_law_event_here", "_law_early"]
theorem sc_pairs_of : FnScope N_pairs_of ["_law_run_here"] (defScope s_pairs_of) := ⟨rfl, rfl, rfl, by decide +kernel, rfl, by decide +kernel, by decide +kernel⟩
theorem ok_pairs_of {f : Addr} {fd : FuncData} (F : FnP K "_law_pairs_of" s_pairs_of f fd) (Z : FreeS mg) :
    FnOk P w K mg base CX0 1 f fd ["_law_run_here"] (spPairs K) := by
  refine F.ok sc_pairs_of (fun vs H Q E h => ?_) (fun cdv A outer s H vs Q E hr h => ?_)
  · obtain ⟨a, es, rfl, _⟩ := h
    rfl
  · obtain ⟨a, es, rfl, hR, l20, k⟩ := h
    obtain ⟨ts, ha, lt, ht⟩ := hR.at_.got
    have sl : (10000 : Nat) ≤ sizeLine := by decide
    have nd := sc_pairs_of.nd
    refine ⟨_, PSs.nox (pss_cons (ps_set (i := 1) nd rfl (Or.inl rfl) (pe_lst (pa_nil)))
      (pss_cons (ps_for PassesOwn.never rfl (pi_enum (by rfl) Z.enumerate (pa_cons (pv 0) (pa_nil))) (pg_tup rfl (pgs_cons (pg_name (i := 2) nd rfl (Or.inl rfl)) (pgs_cons (pg_name (i := 3) nd rfl (Or.inl rfl)) (pgs_nil))))
        (pss_one (ps_for PassesOwn.never rfl (pi_range1 (by rfl) Z.range (pa_cons (pv 2) (pa_nil))) (pg_name (i := 4) nd rfl (Or.inl rfl))
        (pss_one (ps_if (PW.pt (pw_and (pt_cmpR op_eq (pe_ix ix_tup (pe_ix ix_list (pv 0) (pv 4) (fun _ _ => rfl)) (pe_int) (fun _ _ => rfl)) (pe_str) (nomark _)) (pw_and1 (PW.pt (pw_or (pt_cmpR op_eq (pe_ix ix_tup (pv 3) (pe_int) (fun _ _ => rfl)) (pe_str) (nomark _)) (pw_or1 (PW.pt (pw_and (pt_cmpR op_eq (pe_ix ix_tup (pv 3) (pe_int) (fun _ _ => rfl)) (pe_str) (nomark _)) (pw_and1 (pt_cmpR (op_neD hr.units) (pv 3) (pe_ix ix_list (pv 0) (pv 4) (fun _ _ => rfl)) (nomark _))))))))))) (pss_one (ps_expr (pe_bm PySem.F.plainAttrs_list PySem.F.slot_list_append PySem.F.type_list_append mt_append (pv 1) (pa_cons (pe_tup (pa_cons (pv 4) (pa_cons (pv 2) (pa_nil)))) (pa_nil))))) (pss_nil))))))
      (pss_one (ps_ret (pe_callB ((cr_sortedT hr.units)) (by rfl) Z.sorted (by decide +kernel) (pa_cons (pv 1) (pa_nil))))))), ?_⟩
    refine ⟨(by show 0 ≤ sizeLine; omega), fun q hq => ?_⟩
    dsimp only [cxOf, Cx.nox]
    have s1 := Same.updf (o := .lst []) hq
    have hq1 : (upd H q (.lst [])) q = some (.lst []) := upd_same
    obtain ⟨G1, eG⟩ : ∃ X, X = upd H q (.lst []) := ⟨_, rfl⟩
    rw [← eG] at s1 hq1 ⊢
    clear eG
    have ha1 := s1 _ _ ha
    have naq : a ≠ q := ne_of_none ha hq
    refine ⟨_, rfl, a, _, rfl, SqL.of ha1, ?_⟩
    have tk : ∀ {G : Hp}, But q G1 G → ∀ (j : Nat) (hj : j < es.length), ∃ t, (ts.map V.ref)[j]? = some (.ref t) ∧ SqT K G t (es[j]'hj).v := fun bG j hj => by
      obtain ⟨t, e1, e2⟩ := ht j hj
      exact ⟨t, e1, SqT_but bG (SqT_up s1 e2) ⟨_, hq1⟩⟩
    refine for_it (n := es.length) (by have := walk_enum (K := K) (a := a) (xs := ts.map V.ref); rw [List.length_map, lt] at this; exact this) (fun i σ G => But q G1 G ∧ ∃ (acc : List (Nat × Nat)) (ys : List V), G q = some (.lst ys) ∧ Paired (fun w y => IntsAt G (iv w) y) acc ys ∧ acc.Nodup ∧ (∀ w ∈ acc, WaitOk es w ∧ w.2 < i) ∧ acc.length ≤ 20 * i ∧ ∃ v2 v3 v4, σ = [some (.ref a), some (.ref q), v2, v3, v4])
      ⟨But.refl _ _, [], [], hq1, .nil, List.nodup_nil, (fun w h => nomatch h), Nat.zero_le _, none, none, none, rfl⟩ (fun i σ G _ hh => SqL.of (hh.1 _ _ naq ha1)) ?_ ?_
    · rintro i v σ G' G hi ⟨bG, acc, ys, hqG, py, nd, hok, la, v2, v3, v4, rfl⟩ ⟨T, x1, x2, rfl, nT, rfl, g1, g2⟩
      dsimp only at g1 g2
      obtain rfl := Option.some.inj g1
      obtain ⟨t, e1, _⟩ := ht i hi
      rw [e1] at g2
      obtain rfl := Option.some.inj g2
      have sT := Same.updf (o := .tup [V.int (i : Nat), V.ref t]) nT
      have bT : But q G1 (upd G' T (.tup [V.int (i : Nat), V.ref t])) := bG.trans (But.of sT)
      have pT := paired_mono (fun w y h => IntsAt.same sT h) py
      have qT := sT _ _ hqG
      have hTT : SqT K (upd G' T (.tup [V.int (i : Nat), V.ref t])) T [V.int (i : Nat), V.ref t] := SqT.of upd_same
      obtain ⟨G2, eG⟩ : ∃ X, X = upd G' T (.tup [V.int (i : Nat), V.ref t]) := ⟨_, rfl⟩
      rw [← eG] at bT pT qT hTT ⊢
      clear eG sT py hqG bG nT
      refine ⟨T, [_, _], rfl, hTT, rfl, _, [_], rfl, _, [], rfl, rfl, ?_⟩
      refine ⟨_, rfl, (i : Int), rfl, by omega, by omega, ?_⟩
      rw [Int.toNat_natCast]
      refine for_range (lo := 0) (n := i) (fun j σ G => But q G1 G ∧ ∃ (acc : List (Nat × Nat)) (ys : List V), G q = some (.lst ys) ∧ Paired (fun w y => IntsAt G (iv w) y) acc ys ∧ acc.Nodup ∧ (∀ w ∈ acc, WaitOk es w ∧ (w.2 < i ∨ w.2 = i ∧ w.1 < j)) ∧ acc.length ≤ 20 * i + j ∧ ∃ v4, σ = [some (.ref a), some (.ref q), some (.int (i : Nat)), some (.ref t), v4])
        ⟨bT, acc, ys, qT, pT, nd, fun w h => ⟨(hok w h).1, .inl (hok w h).2⟩, by omega, v4, rfl⟩ ?_ ?_
      · rintro j σ G hj ⟨bG, acc, ys, hqG, py, nd, hok, la, v4', rfl⟩
        have hj : j < i := hj
        obtain ⟨tj, f1, f2⟩ := tk bG j (by omega)
        obtain ⟨ti, h1, h2⟩ := tk bG i hi
        rw [e1] at h1
        obtain rfl := V.ref.inj (Option.some.inj h1)
        have haG := bG _ _ naq ha1
        have ly := paired_len py
        have skip : But q G1 G ∧ ∃ (acc : List (Nat × Nat)) (ys : List V), G q = some (.lst ys) ∧ Paired (fun w y => IntsAt G (iv w) y) acc ys ∧ acc.Nodup ∧ (∀ w ∈ acc, WaitOk es w ∧ (w.2 < i ∨ w.2 = i ∧ w.1 < j + 1)) ∧ acc.length ≤ 20 * i + (j + 1) ∧ ∃ v4, [some (V.ref a), some (.ref q), some (.int (i : Nat)), some (.ref t), some (.int (0 + (j : Int)))] = [some (V.ref a), some (.ref q), some (.int (i : Nat)), some (.ref t), v4] :=
          ⟨bG, acc, ys, hqG, py, nd, fun w h => ⟨(hok w h).1, (hok w h).2.imp id fun z => ⟨z.1, by omega⟩⟩, by omega, _, rfl⟩
        have grow : WaitOk es (j, i) → ∀ (T2 : Addr), G T2 = none → (upd G T2 (.tup [V.int (0 + (j : Int)), V.int (i : Nat)])) q = some (.lst ys) ∧ ys.length < sizeLine ∧ (But q G1 (upd (upd G T2 (.tup [V.int (0 + (j : Int)), V.int (i : Nat)])) q (.lst (ys ++ [.ref T2]))) ∧ ∃ (acc : List (Nat × Nat)) (ys' : List V), (upd (upd G T2 (.tup [V.int (0 + (j : Int)), V.int (i : Nat)])) q (.lst (ys ++ [.ref T2]))) q = some (.lst ys') ∧ Paired (fun w y => IntsAt (upd (upd G T2 (.tup [V.int (0 + (j : Int)), V.int (i : Nat)])) q (.lst (ys ++ [.ref T2]))) (iv w) y) acc ys' ∧ acc.Nodup ∧ (∀ w ∈ acc, WaitOk es w ∧ (w.2 < i ∨ w.2 = i ∧ w.1 < j + 1)) ∧ acc.length ≤ 20 * i + (j + 1) ∧ ∃ v4, [some (V.ref a), some (.ref q), some (.int (i : Nat)), some (.ref t), some (.int (0 + (j : Int)))] = [some (V.ref a), some (.ref q), some (.int (i : Nat)), some (.ref t), v4]) := fun ok T2 n2 => by
          have sT := Same.updf (o := .tup [V.int (0 + (j : Int)), V.int (i : Nat)]) n2
          have nq2 : T2 ≠ q := fun z => by rw [z, hqG] at n2; cases n2
          have up : ∀ {w y}, IntsAt (upd G T2 (.tup [V.int (0 + (j : Int)), V.int (i : Nat)])) (iv w) y → IntsAt (upd (upd G T2 (.tup [V.int (0 + (j : Int)), V.int (i : Nat)])) q (.lst (ys ++ [.ref T2]))) (iv w) y := fun {w y} ⟨u, eu, hu⟩ => ⟨u, eu, by
            rw [upd_ne (fun z => by rw [z, sT _ _ hqG] at hu; cases hu)]
            exact hu⟩
          refine ⟨sT _ _ hqG, by omega, (bG.trans (But.of sT)).trans But.upd', acc ++ [(j, i)], _, upd_same, paired_snoc (paired_mono (fun w y h => up (IntsAt.same sT h)) py) (up ⟨T2, rfl, ?_⟩), ?_, fun w hw => ?_, by rw [List.length_append]; show _ + 1 ≤ _; omega, _, rfl⟩
          · rw [upd_same]
            show some (HO.tup [V.int (0 + (j : Int)), V.int (i : Int)]) = some (HO.tup [V.int (j : Int), V.int (i : Int)])
            rw [Int.zero_add]
          · refine List.nodup_append.mpr ⟨nd, List.pairwise_singleton _ _, fun x hx y hy z => ?_⟩
            rw [List.mem_singleton.mp hy] at z
            have := (hok x hx).2
            rw [z] at this
            simp at this
          · rcases List.mem_append.mp hw with m | m
            · exact ⟨(hok w m).1, (hok w m).2.imp id fun z => ⟨z.1, by omega⟩⟩
            · rw [List.mem_singleton.mp m]
              exact ⟨ok, .inr ⟨rfl, by show j < j + 1; omega⟩⟩
        have aj : atI (ts.map V.ref) (0 + (j : Int)) = some (.ref tj) := by rw [Int.zero_add]; exact atI_nat f1
        cases q1 : es[j]'(by omega) with
        | bar =>
          rw [q1] at f2
          exact ⟨_, rfl, _, rfl, a, _, _, _, rfl, rfl, SqL.of haG, aj, tj, _, 0, _, rfl, rfl, f2, rfl, rfl, _, rfl, iteF skip⟩
        | tell =>
          rw [q1] at f2
          exact ⟨_, rfl, _, rfl, a, _, _, _, rfl, rfl, SqL.of haG, aj, tj, _, 0, _, rfl, rfl, f2, rfl, rfl, _, rfl, iteF skip⟩
        | wr c =>
          rw [q1] at f2
          refine ⟨_, rfl, _, rfl, a, _, _, _, rfl, rfl, SqL.of haG, aj, tj, _, 0, _, rfl, rfl, f2, rfl, rfl, _, rfl, iteT ?_⟩
          have wok : (es[i]'hi = .tell ∨ ∃ c', es[i]'hi = .wr c' ∧ c' ≠ c) → WaitOk es (j, i) := fun h => ⟨hj, hi, c, by show es[j]? = _; rw [List.getElem?_eq_getElem (by omega), q1], by
            show es[i]? = _ ∨ ∃ c', es[i]? = _ ∧ _
            rw [List.getElem?_eq_getElem hi]
            rcases h with h | ⟨c', h, n⟩
            · exact .inl (by rw [h])
            · exact .inr ⟨c', by rw [h], n⟩⟩
          cases q2 : es[i]'hi with
          | bar =>
            rw [q2] at h2
            refine ⟨_, rfl, t, _, 0, _, rfl, rfl, h2, rfl, rfl, _, rfl, iteF ?_⟩
            exact ⟨_, rfl, t, _, 0, _, rfl, rfl, h2, rfl, rfl, _, rfl, iteF (iteF skip)⟩
          | tell =>
            rw [q2] at h2
            refine ⟨_, rfl, t, _, 0, _, rfl, rfl, h2, rfl, rfl, _, rfl, iteT (iteT ?_)⟩
            refine ⟨_, rfl, Or.inl ⟨rfl, _, SqL.of hqG⟩, _, rfl, _, rfl, (by show 2 ≤ sizeLine; omega), fun T2 n2 => ?_⟩
            obtain ⟨y1, y2, y3⟩ := grow (wok (.inl q2)) T2 n2
            exact ⟨q, _, _, rfl, rfl, y1, y2, y3⟩
          | wr c' =>
            rw [q2] at h2
            refine ⟨_, rfl, t, _, 0, _, rfl, rfl, h2, rfl, rfl, _, rfl, iteF ?_⟩
            refine ⟨_, rfl, t, _, 0, _, rfl, rfl, h2, rfl, rfl, _, rfl, iteT ?_⟩
            refine ⟨_, rfl, _, rfl, _, rfl, a, _, _, _, rfl, rfl, SqL.of haG, aj, _, _, Ev.dp h2, Ev.dp f2, shaped_ev _, shaped_ev _, _, rfl, ?_⟩
            rw [eqv_ev]
            by_cases z : Ev.wr c' = Ev.wr c
            · rw [decide_eq_true z]
              exact iteF skip
            · rw [decide_eq_false z]
              refine iteT ?_
              refine ⟨_, rfl, Or.inl ⟨rfl, _, SqL.of hqG⟩, _, rfl, _, rfl, (by show 2 ≤ sizeLine; omega), fun T2 n2 => ?_⟩
              obtain ⟨y1, y2, y3⟩ := grow (wok (.inr ⟨c', q2, fun e => z (by rw [e])⟩)) T2 n2
              exact ⟨q, _, _, rfl, rfl, y1, y2, y3⟩
      · rintro σ G ⟨bG, acc, ys, hqG, py, nd, hok, la, v4', rfl⟩
        exact ⟨bG, acc, ys, hqG, py, nd, fun w h => ⟨(hok w h).1, by have := (hok w h).2; omega⟩, by omega, _, _, _, rfl⟩
    · rintro σ G ⟨bG, acc, ys, hqG, py, nd, hok, la, v2, v3, v4, rfl⟩
      refine via_nx ?_
      have pm : Paired (IntsAt G) (acc.map iv) ys := paired_mapG py
      refine ⟨_, rfl, q, ys, acc.map iv, rfl, SqL.of hqG, pm, (fun t ht => ?_), fun p zs hp pz => ?_⟩
      · obtain ⟨w, _, rfl⟩ := List.mem_map.mp ht
        exact fun z => by cases z
      · have sp := Same.updf (o := .lst zs) hp
        have sH : Same H (upd G p (.lst zs)) := fun c o e => sp _ _ (bG _ _ (ne_of_none e hq) (s1 _ _ e))
        have np : H p = none := none_back (fun c o e => bG _ _ (ne_of_none e hq) (s1 _ _ e)) hp
        rw [sortT_iv] at pz
        refine k p (sortP acc) _ sH np ⟨?_, ⟨fun w hw => (hok w (sortP_mem.mp hw)).1, sortP_asc nd⟩, ?_⟩
        · obtain ⟨ts', h1, h2, h3⟩ := (LsT.of_paired (K := K) (vv := fun t : List Int => t.map V.int) (upd_same (H := G) (a := p) (o := .lst zs)) (paired_mono (fun x y ⟨u, e, h⟩ => ⟨u, e, SqT.of (sp _ _ h)⟩) pz)).ex
          refine ⟨ts', h1, by rw [h2, List.length_map], fun i u x q1 q2 => ?_⟩
          exact h3 i u (iv x) q1 (by rw [List.getElem?_map, q2]; rfl)
        · have : (sortP acc).length = acc.length := List.length_mergeSort _
          omega
abbrev s_some_waits : Stmt := top 49
abbrev N_some_waits : List Str := ["_law_purse_here", "_law_run_here", "_law_few", "_law_wait"]
theorem sc_some_waits : FnScope N_some_waits ["_law_purse_here", "_law_run_here", "_law_few"] (defScope s_some_waits) := ⟨rfl, rfl, rfl, by decide +kernel, rfl, by decide +kernel, by decide +kernel⟩
theorem ok_some_waits {f : Addr} {fd : FuncData} (F : FnP K "_law_some_waits" s_some_waits f fd) (Z : FreeS mg)
    {f_pairs_of : Addr} {d_pairs_of : FuncData} (g_pairs_of : mg "_law_pairs_of" = some (.ref f_pairs_of)) (F_pairs_of : FnP K "_law_pairs_of" s_pairs_of f_pairs_of d_pairs_of) (G_pairs_of : FnOk P w K mg base CX0 1 f_pairs_of d_pairs_of ["_law_run_here"] (spPairs K))
    {f_draw : Addr} {d_draw : FuncData} (g_draw : mg "_law_draw" = some (.ref f_draw)) (F_draw : FnP K "_law_draw" s_draw f_draw d_draw) (G_draw : FnOk P w K mg base CX0 2 f_draw d_draw ["_law_purse_here", "_law_many"] spDraw) :
    FnOk P w K mg base CX0 3 f fd ["_law_purse_here", "_law_run_here", "_law_few"] (spSomeW K) := by
  have b_pairs_of : Binds K d_pairs_of ["_law_run_here"] [] := F_pairs_of.bindsN fun _ _ _ _ _ _ us hl => match us, hl with | [_], _ => rfl
  have b_draw : Binds K d_draw ["_law_purse_here", "_law_many"] [] := F_draw.bindsN fun _ _ _ _ _ _ us hl => match us, hl with | [_, _], _ => rfl
  refine F.ok sc_some_waits (fun vs H Q E h => ?_) (fun cdv A outer s H vs Q E hr h => ?_)
  · obtain ⟨pu, a, es, f0, N, rfl, _⟩ := h
    rfl
  · obtain ⟨pu, a, es, f0, N, rfl, hP, hN, f1, f10, hR, l20, k⟩ := h
    have sl : (10000 : Nat) ≤ sizeLine := by decide
    have mf : mixes (f0 : Int) = 1 := mixes_one (by omega) (by omega)
    have nd := sc_some_waits.nd
    refine ⟨_, PSs.nox (pss_one (ps_ret (pe_lc (own := [("_law_wait", 3)]) (g := gName 3) (tt := tTest (tOp rEq (tCall spDraw [] E0 (tCons (tVar 0) (tCons (tVar 2) (tNil)))) (tC (.int 0)))) (te := tVar 3) (by rfl) nd (pi_list (pe_call G_pairs_of (hr.mono (by decide)) rfl g_pairs_of F_pairs_of.kp b_pairs_of .nil pass0 (pa_cons (pv 1) (pa_nil))))
          (blkOk_by (own := [("_law_wait", 3)]) (N := N_some_waits) (sc := defScope s_some_waits) (by decide +kernel)) (fun _ _ _ _ _ => pg_name (i := 3) nd rfl (Or.inl rfl)) (fun _ _ _ _ _ => pts_one (pt_cmpR op_eq (pe_call G_draw (hr.mono (by decide)) rfl g_draw F_draw.kp b_draw .nil pass0 (pa_cons (pv 0) (pa_cons (pv 2) (pa_nil)))) (pe_int) (nomark _)))
          (fun _ _ _ _ _ => pv 3)))), ?_⟩
    refine ⟨_, rfl, a, es, rfl, hR, l20, fun q ws G1 s1 nq hW => ?_⟩
    obtain ⟨tw, hq, ltw, htw⟩ := id hW.at_.ex
    have P1 := hP.same s1
    refine ⟨q, rfl, ⟨_, SqL.of hq⟩, fun D hD => ?_⟩
    have nD := fresh_ne P1 hD
    have npq : q ≠ pu := fresh_ne hP nq
    have nqD : q ≠ D := fun z => by rw [z, hD] at hq; cases hq
    have sD := Same.updf (o := .lst []) hD
    obtain ⟨zw, ezw⟩ : ∃ z, z = tw.zip ws := ⟨_, rfl⟩
    have z1 : zw.map Prod.fst = tw := by rw [ezw, List.map_fst_zip (by omega)]
    have z2 : zw.map Prod.snd = ws := by rw [ezw, List.map_snd_zip (by omega)]
    have zl : zw.length = ws.length := by rw [← z2, List.length_map]
    have zm : ∀ p ∈ zw, SqT K G1 p.1 (wv p.2) := fun p hp => by
      obtain ⟨i, hi, rfl⟩ := List.getElem_of_mem hp
      refine htw i _ _ ?_ ?_
      · rw [← z1, List.getElem?_map, List.getElem?_eq_getElem hi]
        rfl
      · rw [← z2, List.getElem?_map, List.getElem?_eq_getElem hi]
        rfl
    have lw := hW.len
    refine lc_it (n := ws.length) (by have := walk_list (K := K) (a := q) (xs := tw.map V.ref); rw [List.length_map, ltw] at this; exact this) (fun i G => But pu G1 G ∧ Purse G pu (N + i) ∧ ∃ sel : List (Addr × (Nat × Nat)), sel.Sublist (zw.take i) ∧ G D = some (.lst (sel.map fun p => V.ref p.1)))
      ⟨But.of sD, P1.same sD, [], List.nil_sublist _, upd_same⟩ (fun i G _ h => SqL.of (h.1 _ _ npq hq)) ?_ ?_
    · rintro i x G G' hi ⟨bG, PG, sel, ss, hDG⟩ ⟨rfl, hv⟩
      have ei : zw[i]? = some (zw[i]'(by omega)) := List.getElem?_eq_getElem _
      rw [← z1, List.getElem?_map, List.getElem?_map, ei] at hv
      obtain rfl := Option.some.inj hv
      have tk : zw.take (i + 1) = zw.take i ++ [zw[i]'(by omega)] := by
        rw [List.take_succ, ei]
        rfl
      have ls := ss.length_le
      rw [List.length_take] at ls
      refine ⟨rfl, ?_⟩
      refine ⟨_, rfl, _, rfl, pu, f0, N + i, rfl, by omega, log_small (by omega) (by omega), PG, by rw [mf]; omega, by rw [mf]; omega, fun r G2 r0 r1 b2 P2 => ⟨rfl, _, rfl, ?_⟩⟩
      rw [mf] at P2
      have hD2 := b2 _ _ nD hDG
      have b12 := bG.trans b2
      by_cases c : r = 0
      · refine iteP (by rw [c]) ⟨_, rfl, _, hD2, by rw [List.length_map]; omega, fun b o n e => ?_, P2.same' (upd_ne nD.symm), sel ++ [zw[i]'(by omega)], ?_, ?_⟩
        · rw [upd_ne (ne_of_none e hD)]
          exact b12 _ _ n e
        · rw [tk]
          exact ss.append (List.Sublist.refl _)
        · rw [upd_same, List.map_append]
          rfl
      · refine iteQ (fun z => c (V.int.inj z)) ⟨b12, P2, sel, ?_, hD2⟩
        rw [tk]
        exact ss.trans (List.sublist_append_left _ _)
    · rintro G ⟨bG, PG, sel, ss, hDG⟩
      rw [List.take_of_length_le (by omega)] at ss
      have hDo : off G pu D = some (.lst ((sel.map Prod.fst).map V.ref)) := by
        rw [off_at nD, hDG, List.map_map]
        rfl
      have s2 : (sel.map Prod.snd).Sublist ws := by
        rw [← z2]
        exact ss.map _
      have lsel := s2.length_le
      refine k D (sel.map Prod.snd) G ((But.of s1).trans bG) (PG.mono (by omega)) (none_back s1 hD) ⟨⟨sel.map Prod.fst, hDo, by rw [List.length_map, List.length_map], fun j t x h1 h2 => ?_⟩, ⟨fun w hw => hW.ok.ok w (s2.subset hw), hW.ok.asc.sublist s2⟩, by omega⟩
      rw [List.getElem?_map] at h1 h2
      obtain ⟨p, q1, rfl⟩ := Option.map_eq_some_iff.mp h1
      obtain ⟨p', q2, rfl⟩ := Option.map_eq_some_iff.mp h2
      rw [q1] at q2
      obtain rfl := Option.some.inj q2
      have h := zm p (ss.subset (List.mem_of_getElem? q1))
      have npu : ∀ {o : HO}, G1 p.1 = some o → (∀ xs, o ≠ .lst xs) → p.1 ≠ pu := fun e n z => by
        obtain ⟨A0, B0, c0, i0, eP, _⟩ := P1.at_
        rw [z, eP] at e
        exact n _ (Option.some.inj e).symm
      rcases h with (h | ⟨o, h⟩) | h
      · have n1 := npu h (fun xs z => by cases z)
        exact .inl (.inl (by rw [off_at n1]; exact bG _ _ n1 h))
      · have n1 := npu h (fun xs z => by cases z)
        exact .inl (.inr ⟨o, by rw [off_at n1]; exact bG _ _ n1 h⟩)
      · exact .inr h
end
end K18
set_option Elab.async false
set_option linter.all false
set_option maxRecDepth 100000
set_option maxHeartbeats 8000000
/-! Barriers by the law: put in, left out. -/
namespace K18
open PySem PySem.Spec PyProof.Rows L2 KB LamX
def spWith (K : PySem.W.Frag) : Sp := fun vs H Q _ => ∃ (a b t : Addr) (es : List Ev) (P : List Nat), vs = [.ref a, .ref b, .ref t] ∧ RunAt K H a es ∧ es.length ≤ 90 ∧ H b = some (.lst (numsV P)) ∧ P.length ≤ 200 ∧ P.Pairwise (· < ·) ∧ SqT K H t Ev.bar.v ∧ ∀ q H', Same H H' → H q = none → RunAt K H' q (wr es P es.length) → Q (.ref q) H'
def spAreKept (K : PySem.W.Frag) : Sp := fun vs H Q _ => ∃ (a b c : Addr) (es : List Ev) (ws : List (Nat × Nat)) (g : List Nat), vs = [.ref a, .ref b, .ref c] ∧ RunOk K H a es ∧ WtOk K H b es ws ∧ H c = some (.lst (numsV g)) ∧ g.length ≤ 1000 ∧ ∀ H', Same H H' → Q (.bl (keptB es ws g)) H'
theorem LsT.pd {K : PySem.W.Frag} {α : Type} {vv : α → List V} {H : Hp} {a : Addr} {es : List α} (h : LsT K vv H a es) : ∃ ts : List Addr, H a = some (.lst (ts.map V.ref)) ∧ Paired (fun (e : α) t => SqT K H t (vv e)) es ts := by
  obtain ⟨ts, h1, h2, h3⟩ := h
  refine ⟨ts, h1, ?_⟩
  clear h1
  induction ts generalizing es with
  | nil =>
    cases es with
    | nil => exact .nil
    | cons e es => cases h2
  | cons t ts ih =>
    cases es with
    | nil => cases h2
    | cons e es => exact .cons (h3 0 t e rfl rfl) (ih (Nat.succ.inj h2) fun i u f e1 e2 => h3 (i + 1) u f e1 e2)
theorem LsT.of_pd {K : PySem.W.Frag} {α : Type} {vv : α → List V} {H : Hp} {a : Addr} {es : List α} {ts : List Addr} (h : H a = some (.lst (ts.map V.ref))) (p : Paired (fun (e : α) t => SqT K H t (vv e)) es ts) : LsT K vv H a es := by
  have g : ∀ {es : List α} {ts : List Addr}, Paired (fun (e : α) t => SqT K H t (vv e)) es ts → ts.length = es.length ∧ ∀ (i : Nat) (t : Addr) (e : α), ts[i]? = some t → es[i]? = some e → SqT K H t (vv e) := by
    intro es ts p
    induction p with
    | nil => exact ⟨rfl, fun i t e h => by simp at h⟩
    | cons r _ ih =>
      refine ⟨congrArg (· + 1) ih.1, fun i t e h1 h2 => ?_⟩
      cases i with
      | zero =>
        cases h1
        cases h2
        exact r
      | succ i => exact ih.2 i t e h1 h2
  obtain ⟨g1, g2⟩ := g p
  exact ⟨ts, h, g1, g2⟩
theorem paired_app' {α β : Type} {R : α → β → Prop} : ∀ {xs xs' : List α} {ys ys' : List β}, Paired R xs ys → Paired R xs' ys' → Paired R (xs ++ xs') (ys ++ ys')
  | _, _, _, _, .nil, h => h
  | _, _, _, _, .cons r t, h => .cons r (paired_app' t h)
theorem paired_mono' {α β : Type} {F G : α → β → Prop} : ∀ {xs : List α} {ys : List β}, (∀ x y, F x y → G x y) → Paired F xs ys → Paired G xs ys
  | _, _, _, .nil => .nil
  | _, _, k, .cons r t => .cons (k _ _ r) (paired_mono' k t)
theorem count_asc {P : List Nat} (h : P.Pairwise (· < ·)) (i : Nat) : ((P.map fun x : Nat => PyData.int (x : Int)).countP fun z => PyData.eqv z (.int (i : Int))) = if P.contains i then 1 else 0 := by
  rw [List.countP_map]
  have e : ((fun z => PyData.eqv z (.int (i : Int))) ∘ fun x : Nat => PyData.int (x : Int)) = fun x : Nat => x == i := funext fun x => by
    show PyData.eqv (.int (x : Int)) (.int (i : Int)) = _
    simp only [PyData.eqv]
    rw [Bool.eq_iff_iff, beq_iff_eq, beq_iff_eq]
    omega
  rw [e]
  have := List.Nodup.count (a := i) (show P.Nodup from h.imp fun h => Nat.ne_of_lt h)
  unfold List.count at this
  rw [this]
  by_cases c : i ∈ P
  · rw [if_pos c, if_pos (List.contains_iff_mem.mpr c)]
  · rw [if_neg c, if_neg (fun z => c (List.contains_iff_mem.mp z))]
theorem shaped_nums (P : List Nat) : SeqAt.shaped (.list (P.map fun x : Nat => PyData.int (x : Int))) = true := by
  have g : PyData.canLayAll0 (P.map fun x : Nat => PyData.int (x : Int)) = true ∧ PyData.depthAll (P.map fun x : Nat => PyData.int (x : Int)) ≤ 1 := by
    induction P with
    | nil => exact ⟨rfl, Nat.zero_le _⟩
    | cons x P ih =>
      rw [List.map_cons]
      constructor
      · simp only [PyData.canLayAll0, PyData.canLay0, ih.1, Bool.and_self]
      · simp only [PyData.depthAll, PyData.depth]
        have := ih.2
        omega
  refine Bool.and_eq_true_iff.mpr ⟨?_, decide_eq_true ?_⟩
  · simp only [PyData.canLay0]
    exact g.1
  · simp only [PyData.depth]
    have := g.2
    omega
theorem dp_nums {K : PySem.W.Frag} {H : Hp} {b : Addr} {P : List Nat} (h : H b = some (.lst (numsV P))) : Dp K H (.ref b) (.list (P.map fun x : Nat => PyData.int (x : Int))) := by
  refine .lst (SqL.of h) ?_
  have := dpAll_ints (K := K) (H := H) (P.map fun x : Nat => (x : Int))
  rw [List.map_map, List.map_map] at this
  exact this
theorem flat_nums2 (l : List Nat) : (numsV l).all flatV = true := by
  rw [List.all_eq_true]
  intro v m
  obtain ⟨y, _, rfl⟩ := List.mem_map.mp m
  rfl
theorem inV_nums2 (x : Nat) : ∀ l : List Nat, inV (.int (x : Int)) (numsV l) = decide (x ∈ l)
  | [] => by simp [inV, numsV]
  | y :: l => by
    have ih := inV_nums2 x l
    have e : eqV (.int (y : Int)) (.int (x : Int)) = decide (x = y) := by
      show ((y : Int) == (x : Int)) = _
      by_cases h : x = y
      · subst h
        simp
      · simp [h]
        omega
    unfold inV numsV at *
    rw [List.map_cons, List.any_cons, ih, e]
    simp [List.mem_cons]
theorem all_bl' {K : PySem.W.Frag} {n : Nat} {c : Nat → Bool} {H : Hp} {D : Addr} (hR : H D = some (.lst ((List.range n).filterMap fun i => some (V.bl (c i))))) : SqL K H D (((List.range n).map c).map V.bl) := by
  have e : ((List.range n).filterMap fun i => some (V.bl (c i))) = ((List.range n).map c).map V.bl := by
    rw [List.map_map, List.filterMap_eq_map']
    rfl
  rw [e] at hR
  exact SqL.of hR
section
variable {P : Program} {w : World} {K : PySem.W.Frag} {mg : Str → Option Value} {base : Heap}
abbrev s_with : Stmt := top 51
abbrev N_with : List Str := ["_law_run_here", "_law_places", "_law_event_here", "_law_found", "_law_at", "_law_late"]
theorem sc_with : FnScope N_with ["_law_run_here", "_law_places", "_law_event_here"] (defScope s_with) := ⟨rfl, rfl, rfl, by decide +kernel, rfl, by decide +kernel, by decide +kernel⟩
theorem ok_with {f : Addr} {fd : FuncData} (F : FnP K "_law_with" s_with f fd) (Z : FreeS mg) :
    FnOk P w K mg base CX0 2 f fd ["_law_run_here", "_law_places", "_law_event_here"] (spWith K) := by
  refine F.ok sc_with (fun vs H Q E h => ?_) (fun cdv A outer s H vs Q E hr h => ?_)
  · obtain ⟨a, b, t, es, ps, rfl, _⟩ := h
    rfl
  · obtain ⟨a, b, t, es, ps, rfl, hL, l90, hb, lp, pw, ht0, k⟩ := h
    have sl : (10000 : Nat) ≤ sizeLine := by decide
    have hu : _ + 65 < cLine := Nat.lt_of_le_of_lt (Nat.add_le_add_left (by decide : 65 ≤ 200) _) (Nat.lt_of_le_of_lt (Nat.add_le_add_right (Nat.le_add_right _ _) _) hr.un)
    obtain ⟨ts, ha, lt, ht⟩ := id hL.ex
    have nd := sc_with.nd
    refine ⟨_, PSs.nox (pss_cons (ps_set (i := 3) nd rfl (Or.inl rfl) (pe_lst (pa_nil)))
      (pss_cons (ps_for PassesOwn.never rfl (pi_enum (by rfl) Z.enumerate (pa_cons (pv 0) (pa_nil))) (pg_tup rfl (pgs_cons (pg_name (i := 4) nd rfl (Or.inl rfl)) (pgs_cons (pg_name (i := 5) nd rfl (Or.inl rfl)) (pgs_nil))))
        (pss_one (ps_set (i := 3) nd rfl (Or.inl rfl) (pe_op op_cat (pe_op op_cat (pv 3) (pe_op op_rep (pe_lst (pa_cons (pv 2) (pa_nil))) (pe_bm PySem.F.plainAttrs_list PySem.F.slot_list_count PySem.F.type_list_count (mt_countD hu) (pv 1) (pa_cons (pv 4) pa_nil)))) (pe_lst (pa_cons (pv 5) (pa_nil)))))))
      (pss_one (ps_ret (pv 3))))), ?_⟩
    have wrl : ∀ i, i ≤ es.length → (wr es ps i).length ≤ 2 * i := fun i hi => by
      rw [wr_len (List.nodup_iff_pairwise_ne.mpr (pw.imp fun h => Nat.ne_of_lt h)) i hi]
      have := asc_len (b := 0) (n := i) (P := ps.filter fun p => decide (p < i)) (pw.filter _) fun p hp => ⟨Nat.zero_le _, of_decide_eq_true (List.mem_filter.mp hp).2⟩
      omega
    refine ⟨(by show 0 ≤ sizeLine; omega), fun q0 hq0 => ?_⟩
    have s0 := Same.updf (o := .lst []) hq0
    refine ⟨_, rfl, a, _, rfl, SqL.of (s0 _ _ ha), ?_⟩
    refine for_it (n := ts.length) (by have := walk_enum (K := K) (a := a) (xs := ts.map V.ref); rw [List.length_map] at this; exact this) (fun i σ G => Same H G ∧ ∃ (q : Addr) (v4 v5 : Option V), H q = none ∧ RunAt K G q (wr es ps i) ∧ σ = [some (.ref a), some (.ref b), some (.ref t), some (.ref q), v4, v5])
      ⟨s0, q0, none, none, hq0, LsT.nil upd_same, rfl⟩ (fun i σ G _ hh => SqL.of (hh.1 _ _ ha)) ?_ ?_
    · rintro i v σ G' G hi ⟨sG, q, v4, v5, nq, hLG, rfl⟩ ⟨T, x1, x2, rfl, nT, rfl, g1, g2⟩
      dsimp only at g1 g2
      obtain rfl := Option.some.inj g1
      have e1 : ts[i]? = some ts[i] := List.getElem?_eq_getElem hi
      rw [List.getElem?_map, e1] at g2
      obtain rfl := Option.some.inj g2
      have ee : es[i]? = some (es[i]'(by omega)) := List.getElem?_eq_getElem _
      have sT := Same.updf (o := .tup [V.int (i : Nat), V.ref ts[i]]) nT
      have s1 := sG.trans sT
      have wl0 := wrl i (by omega)
      have hL1 := hLG.same sT
      have wk : wr es ps (i + 1) = wr es ps i ++ (if ps.contains i then [Ev.bar] else []) ++ [es[i]'(by omega)] := by
        rw [wr_succ, ee]
        rfl
      obtain ⟨us, hus, pus⟩ := hL1.pd
      have lus := paired_len pus
      obtain ⟨G1, eG1⟩ : ∃ G1, G1 = upd G' T (.tup [V.int (i : Nat), V.ref ts[i]]) := ⟨_, rfl⟩
      refine ⟨T, [_, _], rfl, .inl (.inl upd_same), rfl, _, [_], rfl, _, [], rfl, rfl, ?_⟩
      rw [← eG1] at sT s1 hus pus hL1 ⊢
      refine ⟨_, rfl, _, rfl, (by show 1 ≤ sizeLine; omega), fun b1 hb1 => ?_⟩
      have hbG := s1 _ _ hb
      have sb1 := Same.updf (o := .lst [.ref t]) hb1
      refine ⟨_, rfl, Or.inl ⟨rfl, _, SqL.of (sb1 _ _ hbG)⟩, _, rfl, b, _, .int (i : Int), _, rfl, rfl, dp_nums (sb1 _ _ hbG), .int _, shaped_nums _, rfl, ?_⟩
      rw [count_asc pw]
      obtain ⟨cn, ecn⟩ : ∃ cn : Nat, cn = if ps.contains i then 1 else 0 := ⟨_, rfl⟩
      have c1 : cn ≤ 1 := by
        rw [ecn]
        split <;> omega
      rw [← ecn]
      refine ⟨b1, _, _, rfl, rfl, upd_same, by omega, by omega, by rw [List.length_singleton]; omega, fun p2 hp2 => ?_⟩
      obtain ⟨rf, erf⟩ : ∃ rf : List Addr, rf = if ps.contains i then [t] else [] := ⟨_, rfl⟩
      have er : (List.replicate ((cn : Int)).toNat [V.ref t]).flatten = rf.map V.ref := by
        rw [Int.toNat_natCast, ecn, erf]
        split <;> rfl
      have lrf : rf.length ≤ 1 := by
        rw [erf]
        split
        · exact Nat.le_refl _
        · exact Nat.zero_le _
      have prf : ∀ G, SqT K G t Ev.bar.v → Paired (fun (e : Ev) t => SqT K G t e.v) (if ps.contains i then [Ev.bar] else []) rf := fun G h => by
        rw [erf]
        cases ps.contains i with
        | true => exact .cons h .nil
        | false => exact .nil
      rw [er]
      have s2 := sb1.trans (Same.updf (o := .lst (rf.map V.ref)) hp2)
      refine ⟨q, p2, _, _, rfl, rfl, s2 _ _ hus, upd_same, by rw [List.length_map, List.length_map]; omega, fun p3 hp3 => ?_⟩
      have s3 := s2.trans (Same.updf (o := .lst (us.map V.ref ++ rf.map V.ref)) hp3)
      refine ⟨_, rfl, (by show 1 ≤ sizeLine; omega), fun p4 hp4 => ?_⟩
      have s4' := Same.updf (o := .lst [V.ref ts[i]]) hp4
      refine ⟨p3, p4, _, _, rfl, rfl, s4' _ _ upd_same, upd_same, by rw [List.length_append, List.length_map, List.length_map]; show _ + 1 ≤ _; omega, fun p5 hp5 => ?_⟩
      have s5 := (s3.trans s4').trans (Same.updf (o := .lst ((us.map V.ref ++ rf.map V.ref) ++ [V.ref ts[i]])) hp5)
      have s15 := s1.trans s5
      refine ⟨s15, p5, _, _, none_back (s1.trans (s3.trans s4')) hp5, ?_, rfl⟩
      rw [wk]
      refine LsT.of_pd (ts := us ++ rf ++ [ts[i]]) (by rw [upd_same, List.map_append, List.map_append]; rfl) ?_
      exact paired_app' (paired_app' (paired_mono' (fun _ _ h => SqT_up s5 h) pus) (prf _ (SqT_up s15 ht0))) (.cons (SqT_up s15 (ht i _ _ e1 ee)) .nil)
    · rintro σ G ⟨sG, q, v4, v5, nq, hLG, rfl⟩
      rw [lt] at hLG
      exact ⟨_, rfl, k q G sG nq hLG⟩
abbrev s_are_kept : Stmt := top 52
abbrev N_are_kept : List Str := ["_law_run_here", "_law_waits", "_law_gone", "_law_early", "_law_late", "_law_place"]
theorem sc_are_kept : FnScope N_are_kept ["_law_run_here", "_law_waits", "_law_gone"] (defScope s_are_kept) := ⟨rfl, rfl, rfl, by decide +kernel, rfl, by decide +kernel, by decide +kernel⟩
theorem ok_are_kept {f : Addr} {fd : FuncData} (F : FnP K "_law_are_kept" s_are_kept f fd) (Z : FreeS mg) :
    FnOk P w K mg base CX0 1 f fd ["_law_run_here", "_law_waits", "_law_gone"] (spAreKept K) := by
  refine F.ok sc_are_kept (fun vs H Q E h => ?_) (fun cdv A outer s H vs Q E hr h => ?_)
  · obtain ⟨a, b, c, es, ws, g, rfl, _⟩ := h
    rfl
  · obtain ⟨a, b, c, es, ws, g, rfl, hR, hW, hc, lg, k⟩ := h
    obtain ⟨ts, ha, lt, ht⟩ := hR.at_.got
    obtain ⟨tw, hb, ltw, htw⟩ := hW.at_.got
    have sl : (10000 : Nat) ≤ sizeLine := by decide
    have l100 := hR.len
    have nd := sc_are_kept.nd
    refine ⟨_, PSs.nox (pss_cons (ps_for PassesOwn.never rfl (pi_list (pv 1)) (pg_tup rfl (pgs_cons (pg_name (i := 3) nd rfl (Or.inl rfl)) (pgs_cons (pg_name (i := 4) nd rfl (Or.inl rfl)) (pgs_nil))))
        (pss_one (ps_if (PW.pt (pw_and (pt_val (pe_callB (cr_any rfl) (by rfl) Z.any (by decide +kernel) (pa_cons (pe_lc (own := [("_law_place", 5)]) (g := gName 5) (tt := tYes) (te := tOp rEq (tOp (rIxT K) (tOp (rIxL K) (tVar 0) (tVar 5)) (tC (.int 0))) (tC (.str "barrier"))) (by rfl) nd (pi_range2 (by rfl) Z.range (pa_cons (pv 3) (pa_cons (pv 4) (pa_nil))))
          (blkOk_by (own := [("_law_place", 5)]) (N := N_are_kept) (sc := defScope s_are_kept) (by decide +kernel)) (fun _ _ _ _ _ => pg_name (i := 5) nd rfl (Or.inl rfl)) (fun _ _ _ _ _ => pts_nil)
          (fun _ _ _ _ _ => pe_cmpR op_eq (pe_ix ix_tup (pe_ix ix_list (pv 0) (pv 5) (fun _ _ => rfl)) (pe_int) (fun _ _ => rfl)) (pe_str) (nomark _))) (pa_nil)))) (pw_and1 (pt_not (pt_val (pe_callB (cr_any rfl) (by rfl) Z.any (by decide +kernel) (pa_cons (pe_lc (own := [("_law_place", 5)]) (g := gName 5) (tt := tYes) (te := tAndV (tOp rEq (tOp (rIxT K) (tOp (rIxL K) (tVar 0) (tVar 5)) (tC (.int 0))) (tC (.str "barrier"))) (tOp (rIn K true) (tVar 5) (tVar 2))) (by rfl) nd (pi_range2 (by rfl) Z.range (pa_cons (pv 3) (pa_cons (pv 4) (pa_nil))))
          (blkOk_by (own := [("_law_place", 5)]) (N := N_are_kept) (sc := defScope s_are_kept) (by decide +kernel)) (fun _ _ _ _ _ => pg_name (i := 5) nd rfl (Or.inl rfl)) (fun _ _ _ _ _ => pts_nil)
          (fun _ _ _ _ _ => pe_and (pe_cmpR op_eq (pe_ix ix_tup (pe_ix ix_list (pv 0) (pv 5) (fun _ _ => rfl)) (pe_int) (fun _ _ => rfl)) (pe_str) (nomark _)) (pe_one (pe_cmpR op_notIn_seq (pv 5) (pv 2) (by rfl))))) (pa_nil)))))))) (pss_one (ps_ret (pe_bl))) (pss_nil))))
      (pss_one (ps_ret (pe_bl)))), ?_⟩
    obtain ⟨okW, eok⟩ : ∃ okW : Nat × Nat → Bool, okW = fun w => !exB' es w (fun _ => true) || exB' es w (fun i => !g.contains i) := ⟨_, rfl⟩
    have eK : keptB es ws g = ws.all okW := by rw [eok]; rfl
    rw [eK] at k
    have at_ : ∀ {G : Hp}, Same H G → ∀ (i : Nat) (hi : i < es.length), ∃ t, (ts.map V.ref)[i]? = some (.ref t) ∧ SqT K G t (es[i]'hi).v := fun s i hi => by
      obtain ⟨t, e1, e2⟩ := ht i hi
      exact ⟨t, e1, SqT_up s e2⟩
    have isb : ∀ (i : Nat) (hi : i < es.length) {G : Hp} {t : Addr}, SqT K G t (es[i]'hi).v → ∃ s0 rest, (es[i]'hi).v = .str s0 :: rest ∧ decide (V.str s0 = V.str "barrier") = isB es i := fun i hi G t h => by
      have eb : isB es i = decide (es[i] = .bar) := by
        unfold isB
        rw [List.getElem?_eq_getElem hi, decide_eq_decide]
        exact ⟨fun z => Option.some.inj z, fun z => by rw [z]⟩
      rw [eb]
      cases es[i] <;> exact ⟨_, _, rfl, by rfl⟩
    refine ⟨_, rfl, b, rfl, ⟨_, SqL.of hb⟩, ?_⟩
    refine for_list (xs := tw.map V.ref) (fun i σ G => Same H G ∧ (∀ j, j < i → ∀ w, ws[j]? = some w → okW w = true) ∧ ∃ v3 v4, σ = [some (.ref a), some (.ref b), some (.ref c), v3, v4, none])
      ⟨Same.refl _, fun j h => absurd h (Nat.not_lt_zero _), none, none, rfl⟩ (fun i σ G _ hh => SqL.of (hh.1 _ _ hb)) ?_ ?_
    · rintro i y σ G hy ⟨sG, hok, v3, v4, rfl⟩
      have hi : i < ws.length := by
        have := (List.getElem?_eq_some_iff.mp hy).1
        rw [List.length_map] at this
        omega
      obtain ⟨t, e1, e2⟩ := htw i hi
      rw [e1] at hy
      obtain rfl := Option.some.inj hy
      have ok := hW.ok.ok _ (List.getElem_mem hi)
      have l1 := ok.lt
      have l2 := ok.len
      have hw := SqT_up sG e2
      obtain ⟨wi, ewi⟩ : ∃ x, x = ws[i] := ⟨_, rfl⟩
      have ewj : ws[i]? = some wi := by rw [List.getElem?_eq_getElem hi, ewi]
      rw [← ewi] at hw ok l1 l2
      refine ⟨t, [_, _], rfl, hw, rfl, _, [_], rfl, _, [], rfl, rfl, ?_⟩
      refine ⟨_, rfl, _, rfl, (wi.1 : Int), (wi.2 : Int), rfl, ⟨by omega, by omega, by omega, by omega⟩, fun D hD => ?_⟩
      rw [show ((wi.2 : Int) - (wi.1 : Int)).toNat = wi.2 - wi.1 by omega]
      refine lc_sel (walk_range (lo := (wi.1 : Int)) (n := wi.2 - wi.1)) (fun k => some (.bl (isB es (wi.1 + k) && true))) (by omega) hD (fun _ _ => trivial) ?_ ?_
      · rintro j x Ga Gb Qy Qn hj sa ⟨rfl, rfl⟩ ky_ kn
        obtain ⟨tj, f1, f2⟩ := at_ (sG.trans sa) (wi.1 + j) (by omega)
        obtain ⟨s0, rest, h1, h2⟩ := isb _ (by omega) f2
        rw [h1] at f2
        refine ⟨rfl, _, rfl, _, rfl, a, _, _, _, rfl, rfl, SqL.of (sa _ _ (sG _ _ ha)), (by have := atI_nat f1; rw [Int.natCast_add] at this; exact this), tj, _, 0, .str s0, rfl, rfl, f2, atI_nat (j := 0) rfl, rfl, ?_⟩
        refine ky_ _ _ (Same.refl _) ?_
        rw [h2, Bool.and_true]
      · intro G1 s1 hR2
        have hB := all_bl' (K := K) hR2
        refine ⟨D, _, rfl, hB, _, rfl, ?_⟩
        have e1' : (((List.range (wi.2 - wi.1)).map fun k => isB es (wi.1 + k) && true).any id) = exB' es wi fun _ => true := by
          unfold exB'
          rw [List.any_map]
          rfl
        rw [e1']
        have sG1 := sG.trans s1
        have next : okW wi = true → ∀ G, Same H G → Same H G ∧ (∀ j, j < i + 1 → ∀ w, ws[j]? = some w → okW w = true) ∧ ∃ v3 v4, [some (V.ref a), some (.ref b), some (.ref c), some (.int (wi.1 : Int)), some (.int (wi.2 : Int)), none] = [some (V.ref a), some (.ref b), some (.ref c), v3, v4, none] := fun h G s => ⟨s, fun j hj w hw => by
          rcases Nat.lt_or_ge j i with q | q
          · exact hok j q w hw
          · obtain rfl : j = i := by omega
            rw [ewj] at hw
            cases hw
            exact h, _, _, rfl⟩
        cases q1 : exB' es wi fun _ => true with
        | false => exact iteF (next (by rw [eok]; show (!exB' es wi _ || _) = true; rw [q1]; rfl) _ sG1)
        | true =>
          refine iteT ?_
          refine ⟨_, rfl, _, rfl, (wi.1 : Int), (wi.2 : Int), rfl, ⟨by omega, by omega, by omega, by omega⟩, fun D2 hD2 => ?_⟩
          rw [show ((wi.2 : Int) - (wi.1 : Int)).toNat = wi.2 - wi.1 by omega]
          refine lc_sel (walk_range (lo := (wi.1 : Int)) (n := wi.2 - wi.1)) (fun k => some (.bl (isB es (wi.1 + k) && !g.contains (wi.1 + k)))) (by omega) hD2 (fun _ _ => trivial) ?_ ?_
          · rintro j x Ga Gb Qy Qn hj sa ⟨rfl, rfl⟩ ky_ kn
            obtain ⟨tj, f1, f2⟩ := at_ (sG1.trans sa) (wi.1 + j) (by omega)
            obtain ⟨s0, rest, h1, h2⟩ := isb _ (by omega) f2
            rw [h1] at f2
            refine ⟨rfl, _, rfl, _, rfl, a, _, _, _, rfl, rfl, SqL.of (sa _ _ (sG1 _ _ ha)), (by have := atI_nat f1; rw [Int.natCast_add] at this; exact this), tj, _, 0, .str s0, rfl, rfl, f2, atI_nat (j := 0) rfl, rfl, _, rfl, ?_⟩
            rw [h2]
            cases qb : isB es (wi.1 + j) with
            | false =>
              refine iteF (ky_ _ _ (Same.refl _) ?_)
              rw [qb]
              rfl
            | true =>
              refine iteT ⟨_, rfl, _, rfl, c, numsV g, rfl, .inl (SqL.of (sa _ _ (sG1 _ _ hc))), rfl, flat_nums2 _, ?_⟩
              refine ky_ _ _ (Same.refl _) ?_
              rw [qb, Bool.true_and]
              have ev : inV (V.int ((wi.1 : Int) + (j : Int))) (numsV g) = g.contains (wi.1 + j) := by
                rw [← Int.natCast_add, inV_nums2, Bool.eq_iff_iff, decide_eq_true_eq, List.contains_iff_mem]
              show some (V.bl _) = some (V.bl (if true = true then !inV (V.int ((wi.1 : Int) + (j : Int))) (numsV g) else _))
              rw [if_pos rfl, ev]
          · intro G2 s2 hR3
            have hB2 := all_bl' (K := K) hR3
            refine ⟨D2, _, rfl, hB2, ?_⟩
            have e2' : (((List.range (wi.2 - wi.1)).map fun k => isB es (wi.1 + k) && !g.contains (wi.1 + k)).any id) = exB' es wi fun i => !g.contains i := by
              unfold exB'
              rw [List.any_map]
              rfl
            rw [e2']
            have sG2 := sG1.trans s2
            cases q2 : exB' es wi fun i => !g.contains i with
            | true => exact ⟨_, rfl, iteF (next (by rw [eok]; show (!exB' es wi _ || exB' es wi _) = true; rw [q2, Bool.or_true]) _ sG2)⟩
            | false =>
              have k1 := k _ sG2
              have ef : ws.all okW = false := by
                rw [← Bool.not_eq_true, List.all_eq_true]
                intro z
                have := z wi (List.mem_of_getElem? ewj)
                rw [eok] at this
                change (!exB' es wi (fun _ => true) || exB' es wi (fun i => !g.contains i)) = true at this
                rw [q1, q2] at this
                cases this
              rw [ef] at k1
              exact ⟨_, rfl, iteT k1⟩
    · rintro σ G ⟨sG, hok, v3, v4, rfl⟩
      have k1 := k _ sG
      have ef : ws.all okW = true := by
        rw [List.all_eq_true]
        intro w hw
        obtain ⟨j, hj, e⟩ := List.getElem_of_mem hw
        exact hok j (by rw [List.length_map]; omega) w (by rw [List.getElem?_eq_getElem hj, e])
      rw [ef] at k1
      exact k1
end
end K18
set_option Elab.async false
set_option linter.all false
set_option maxRecDepth 100000
set_option maxHeartbeats 8000000
/-! Barriers put in and left out: what the law asks. -/
namespace K18
open PySem PySem.Spec PyProof.Rows L2 KB LamX
def spPutR (K : PySem.W.Frag) : Sp := fun vs H Q _ => ∃ (pu a b : Addr) (es : List Ev) (ws : List (Nat × Nat)) (N : Nat), vs = [.ref pu, .ref a, .ref b] ∧ Purse H pu N ∧ N ≤ 2 ^ 37 ∧ a ≠ pu ∧ b ≠ pu ∧ RunOk K (off H pu) a es ∧ es.length ≤ 20 ∧ WtOk K (off H pu) b es ws ∧ Tabs (TbK K) H ∧ ∀ H', ButN pu H H' → Purse H' pu (N + 1000) → Tabs (TbK K) H' → Q (.bl true) H'
def spLeftR (K : PySem.W.Frag) : Sp := fun vs H Q _ => ∃ (a b : Addr) (es : List Ev) (ws : List (Nat × Nat)), vs = [.ref a, .ref b] ∧ RunOk K H a es ∧ WtOk K H b es ws ∧ ∀ H', Same H H' → Q (.bl true) H'
theorem nums_td {K : PySem.W.Frag} {H : Hp} {a : Addr} {l : List Nat} (n : Nat) (h : H a = some (.lst (numsV l))) (hl : l.length ≤ 1000) : TD K H (n + 1) (.ref a) (.list (l.map fun x : Nat => PyData.int (x : Int))) := by
  refine TD.lst h (by unfold numsV; rw [List.length_map, List.length_map]) (by rw [List.length_map]; exact hl) fun i u e e1 e2 => ?_
  unfold numsV at e1
  rw [List.getElem?_map] at e1 e2
  obtain ⟨p, q1, rfl⟩ := Option.map_eq_some_iff.mp e1
  rw [q1] at e2
  cases e2
  exact TD.flat (.int _)
theorem run_td {K : PySem.W.Frag} {H : Hp} {a : Addr} {es : List Ev} (n : Nat) (h : RunAt K H a es) (hl : es.length ≤ 1000) : TD K H (n + 2) (.ref a) (.list (es.map Ev.d)) := LsT.td n (fun h => Ev.td n h) h hl
theorem wts_td {K : PySem.W.Frag} {H : Hp} {a : Addr} {ws : List (Nat × Nat)} (n : Nat) (h : WtAt K H a ws) (hl : ws.length ≤ 1000) : TD K H (n + 2) (.ref a) (.list (ws.map pd)) := LsT.td n (fun h => pd_td n h) h hl
theorem LsT.butS {K : PySem.W.Frag} {α : Type} {vv : α → List V} {H H' : Hp} {a : Addr} {xs : List α} {S : Addr → Prop} (k : ∀ c o, ¬ S c → H c = some o → H' c = some o) (hS : ∀ p, S p → ∃ l, H p = some (.lst l)) (n : ¬ S a) (h : LsT K vv H a xs) : LsT K vv H' a xs := by
  obtain ⟨ts, h1, h2, h3⟩ := h
  refine ⟨ts, k _ _ n h1, h2, fun i t e e1 e2 => ?_⟩
  rcases h3 i t e e1 e2 with (h | ⟨o, h⟩) | h
  · exact .inl (.inl (k _ _ (fun z => by obtain ⟨l, e⟩ := hS t z; rw [h] at e; cases e) h))
  · exact .inl (.inr ⟨o, k _ _ (fun z => by obtain ⟨l, e⟩ := hS t z; rw [h] at e; cases e) h⟩)
  · exact .inr h
theorem LsT.copy {K : PySem.W.Frag} {α : Type} {vv : α → List V} {H H' : Hp} {a q : Addr} {xs : List α} {vs : List V} (h : LsT K vv H a xs) (e : H a = some (.lst vs)) (k : Same H H') (hq : H' q = some (.lst vs)) : LsT K vv H' q xs := by
  obtain ⟨ts, h1, h2, h3⟩ := h
  rw [h1] at e
  cases e
  exact ⟨ts, hq, h2, fun i t x e1 e2 => SqT_up k (h3 i t x e1 e2)⟩
section
variable {P : Program} {w : World} {K : PySem.W.Frag} {mg : Str → Option Value} {base : Heap}
abbrev s_left_right : Stmt := top 54
abbrev N_left_right : List Str := ["_law_run_here", "_law_waits", "_law_place", "_law_barriers", "_law_alone", "_law_gone", "_law_told", "_law_due", "_law_some", "_law_event_here"]
theorem sc_left_right : FnScope N_left_right ["_law_run_here", "_law_waits"] (defScope s_left_right) := ⟨rfl, rfl, rfl, by decide +kernel, rfl, by decide +kernel, by decide +kernel⟩
theorem ok_left_right {f : Addr} {fd : FuncData} (F : FnP K "_law_left_right" s_left_right f fd) (Z : FreeS mg)
    {f_exact : Addr} {d_exact : FuncData} (g_exact : mg "_law_exact" = some (.ref f_exact)) (F_exact : FnP K "_law_exact" s_exact f_exact d_exact) (GA_exact : ∀ n : Nat, FnOk P w K mg base CX0 (n + 1) f_exact d_exact ["_law_mine", "_law_theirs"] (spExactD K n))
    {f_are_kept : Addr} {d_are_kept : FuncData} (g_are_kept : mg "_law_are_kept" = some (.ref f_are_kept)) (F_are_kept : FnP K "_law_are_kept" s_are_kept f_are_kept d_are_kept) (G_are_kept : FnOk P w K mg base CX0 1 f_are_kept d_are_kept ["_law_run_here", "_law_waits", "_law_gone"] (spAreKept K))
    {f_needless : Addr} {d_needless : FuncData} (g_needless : mg "needless" = some (.ref f_needless)) (F_needless : FnP K "needless" s_needless f_needless d_needless) (G_needless : FnOk P w K mg base CX0 7 f_needless d_needless ["run", "waits"] (spNeedless K))
    {f_spared : Addr} {d_spared : FuncData} (g_spared : mg "spared" = some (.ref f_spared)) (F_spared : FnP K "spared" s_spared f_spared d_spared) (G_spared : FnOk P w K mg base CX0 7 f_spared d_spared ["run", "waits"] (spSpared K))
    {f_bare : Addr} {d_bare : FuncData} (g_bare : mg "bare" = some (.ref f_bare)) (F_bare : FnP K "bare" s_bare f_bare d_bare) (G_bare : FnOk P w K mg base CX0 6 f_bare d_bare ["run"] (spBare K)) :
    FnOk P w K mg base CX0 11 f fd ["_law_run_here", "_law_waits"] (spLeftR K) := by
  have b_exact : Binds K d_exact ["_law_mine", "_law_theirs"] [] := F_exact.bindsN fun _ _ _ _ _ _ us hl => match us, hl with | [_, _], _ => rfl
  have b_are_kept : Binds K d_are_kept ["_law_run_here", "_law_waits", "_law_gone"] [] := F_are_kept.bindsN fun _ _ _ _ _ _ us hl => match us, hl with | [_, _, _], _ => rfl
  have b_needless : Binds K d_needless ["run", "waits"] [] := F_needless.bindsN fun _ _ _ _ _ _ us hl => match us, hl with | [_, _], _ => rfl
  have b_spared : Binds K d_spared ["run", "waits"] [] := F_spared.bindsN fun _ _ _ _ _ _ us hl => match us, hl with | [_, _], _ => rfl
  have b_bare : Binds K d_bare ["run"] [] := F_bare.bindsN fun _ _ _ _ _ _ us hl => match us, hl with | [_], _ => rfl
  refine F.ok sc_left_right (fun vs H Q E h => ?_) (fun cdv A outer s H vs Q E hr h => ?_)
  · obtain ⟨a, b, es, ws, rfl, _⟩ := h
    rfl
  · obtain ⟨a, b, es, ws, rfl, hR, hW, k⟩ := h
    obtain ⟨ts, ha, lt, ht⟩ := hR.at_.got
    have sl : (10000 : Nat) ≤ sizeLine := by decide
    have l100 := hR.len
    have nd := sc_left_right.nd
    refine ⟨_, PSs.nox (pss_cons (ps_setLc (i := 3) (own := [("_law_place", 2)]) (g := gName 2) (tt := tTest (tOp rEq (tOp (rIxT K) (tOp (rIxL K) (tVar 0) (tVar 2)) (tC (.int 0))) (tC (.str "barrier")))) (te := tVar 2) (by rfl) nd rfl rfl rfl (pi_range1 (by rfl) Z.range (pa_cons (pe_callB call_len_seq (by rfl) Z.len (by decide +kernel) (pa_cons (pv 0) (pa_nil))) (pa_nil)))
          (blkOk_by (own := [("_law_place", 2)]) (N := N_left_right) (sc := defScope s_left_right) (by decide +kernel)) (fun _ _ _ _ _ => pg_name (i := 2) nd rfl (Or.inl rfl)) (fun _ _ _ _ _ => pts_one (pt_cmpR op_eq (pe_ix ix_tup (pe_ix ix_list (pv 0) (pv 2) (fun _ _ => rfl)) (pe_int) (fun _ _ => rfl)) (pe_str) (nomark _)))
          (fun _ _ _ _ _ => pv 2))
      (pss_cons (ps_par (i := 4) (j := 5) rfl nd rfl rfl (by decide) rfl rfl (pa_cons (pe_lc (own := [("_law_place", 2)]) (g := gName 2) (tt := tB (tCall (spAreKept K) [] E0 (tCons (tVar 0) (tCons (tVar 1) (tCons (tLst (tCons (tVar 2) (tNil))) (tNil)))))) (te := tVar 2) (by rfl) nd (pi_list (pv 3))
          (blkOk_by (own := [("_law_place", 2)]) (N := N_left_right) (sc := defScope s_left_right) (by decide +kernel)) (fun _ _ _ _ _ => pg_name (i := 2) nd rfl (Or.inl rfl)) (fun _ _ _ _ _ => pts_one (pt_val (pe_call G_are_kept (hr.mono (by decide)) rfl g_are_kept F_are_kept.kp b_are_kept .nil pass0 (pa_cons (pv 0) (pa_cons (pv 1) (pa_cons (pe_lst (pa_cons (pv 2) (pa_nil))) (pa_nil)))))))
          (fun _ _ _ _ _ => pv 2)) (pa_cons (pe_lst (pa_nil)) (pa_nil))) rfl)
      (pss_cons (ps_for PassesOwn.never rfl (pi_list (pv 3)) (pg_name (i := 2) nd rfl (Or.inl rfl))
        (pss_one (ps_if (pt_val (pe_call G_are_kept (hr.mono (by decide)) rfl g_are_kept F_are_kept.kp b_are_kept .nil pass0 (pa_cons (pv 0) (pa_cons (pv 1) (pa_cons (pe_op op_cat (pv 5) (pe_lst (pa_cons (pv 2) (pa_nil)))) (pa_nil)))))) (pss_one (ps_expr (pe_bm PySem.F.plainAttrs_list PySem.F.slot_list_append PySem.F.type_list_append mt_append (pv 5) (pa_cons (pv 2) (pa_nil))))) (pss_nil))))
      (pss_cons (ps_set (i := 6) nd rfl (Or.inl rfl) (pe_lst (pa_cons (pe_call G_needless (hr.mono (by decide)) rfl g_needless F_needless.kp b_needless .nil pass0 (pa_cons (pv 0) (pa_cons (pv 1) (pa_nil)))) (pa_cons (pe_call G_spared (hr.mono (by decide)) rfl g_spared F_spared.kp b_spared .nil pass0 (pa_cons (pv 0) (pa_cons (pv 1) (pa_nil)))) (pa_cons (pe_call G_bare (hr.mono (by decide)) rfl g_bare F_bare.kp b_bare .nil pass0 (pa_cons (pv 0) (pa_nil))) (pa_nil))))))
      (pss_cons (ps_set (i := 7) nd rfl (Or.inl rfl) (pe_lst (pa_cons (pv 4) (pa_cons (pv 5) (pa_cons (pe_lc (own := [("_law_event_here", 9)]) (g := gName 9) (tt := tTest (tOp (rNeD K) (tVar 9) (tTup (tCons (tC (.str "barrier")) (tNil))))) (te := tVar 9) (by rfl) nd (pi_list (pv 0))
          (blkOk_by (own := [("_law_event_here", 9)]) (N := N_left_right) (sc := defScope s_left_right) (by decide +kernel)) (fun _ _ _ _ _ => pg_name (i := 9) nd rfl (Or.inl rfl)) (fun _ _ _ _ _ => pts_one (pt_cmpR (op_neD hr.units) (pv 9) (pe_tup (pa_cons (pe_str) (pa_nil))) (nomark _)))
          (fun _ _ _ _ _ => pv 9)) (pa_nil))))))
      (pss_cons (ps_if (pt_not (pt_val (pe_call (GA_exact 9) (hr.mono (by decide)) rfl g_exact F_exact.kp b_exact .nil pass0 (pa_cons (pv 6) (pa_cons (pv 7) (pa_nil)))))) (pss_one (ps_ret (pe_bl))) (pss_nil))
      (pss_cons (ps_for PassesOwn.never rfl (pi_list (pv 6)) (pg_name (i := 8) nd rfl (Or.inl rfl))
        (pss_one (ps_expr (pe_bm PySem.F.plainAttrs_list PySem.F.slot_list_append PySem.F.type_list_append mt_append (pv 8) (pa_cons (pe_non) (pa_nil))))))
      (pss_one (ps_ret (pe_call (GA_exact 9) (hr.mono (by decide)) rfl g_exact F_exact.kp b_exact .nil pass0 (pa_cons (pe_lst (pa_cons (pe_call G_needless (hr.mono (by decide)) rfl g_needless F_needless.kp b_needless .nil pass0 (pa_cons (pe_callTy call_list_ofR (by rfl) Z.tlist (by decide +kernel) (pa_cons (pv 0) (pa_nil))) (pa_cons (pv 1) (pa_nil)))) (pa_cons (pe_call G_spared (hr.mono (by decide)) rfl g_spared F_spared.kp b_spared .nil pass0 (pa_cons (pv 0) (pa_cons (pe_callTy call_list_ofR (by rfl) Z.tlist (by decide +kernel) (pa_cons (pv 1) (pa_nil))) (pa_nil)))) (pa_cons (pe_call G_bare (hr.mono (by decide)) rfl g_bare F_bare.kp b_bare .nil pass0 (pa_cons (pv 0) (pa_nil))) (pa_nil))))) (pa_cons (pv 7) (pa_nil))))))))))))), ?_⟩
    have isb : ∀ (i : Nat) (hi : i < es.length) {G : Hp} {t : Addr}, SqT K G t (es[i]'hi).v → ∃ s0 rest, (es[i]'hi).v = .str s0 :: rest ∧ decide (V.str s0 = V.str "barrier") = isB es i := fun i hi G t h => by
      have eb : isB es i = decide (es[i] = .bar) := by
        unfold isB
        rw [List.getElem?_eq_getElem hi, decide_eq_decide]
        exact ⟨fun z => Option.some.inj z, fun z => by rw [z]⟩
      rw [eb]
      cases es[i] <;> exact ⟨_, _, rfl, by rfl⟩
    have lb2 : (bars es).length ≤ 100 := by
      have := List.length_filter_le (isB es) (List.range es.length)
      rw [List.length_range] at this
      unfold bars
      omega
    refine ⟨_, rfl, a, _, rfl, .inl (SqL.of ha), (es.length : Int), (by rw [List.length_map, lt]), by omega, by omega, fun D hD => ?_⟩
    rw [Int.toNat_natCast]
    refine lc_sel (walk_range (lo := 0) (n := es.length)) (fun i => if isB es i = true then some (.int (i : Int)) else none) (by omega) hD (fun _ _ => trivial) ?_ ?_
    · rintro j x Ga Gb Qy Qn hj sa ⟨rfl, rfl⟩ ky_ kn
      obtain ⟨tj, f1, f2⟩ := ht j hj
      have f2 := SqT_up sa f2
      obtain ⟨s0, rest, h1, h2⟩ := isb _ hj f2
      rw [h1] at f2
      refine ⟨rfl, _, rfl, _, rfl, a, _, _, _, rfl, rfl, SqL.of (sa _ _ ha), (by rw [Int.zero_add]; exact atI_nat f1), tj, _, 0, .str s0, rfl, rfl, f2, atI_nat (j := 0) rfl, rfl, _, rfl, ?_⟩
      rw [h2]
      cases qb : isB es j with
      | true => exact iteT ⟨_, rfl, ky_ _ _ (Same.refl _) (by rw [if_pos qb]; exact (congrArg (fun z => some (V.int z)) (Int.zero_add _)).symm)⟩
      | false => exact iteF (kn _ (Same.refl _) (if_neg (by rw [qb]; exact Bool.false_ne_true)))
    · intro G1 s1 hR2
      have hB : G1 D = some (.lst (numsV (bars es))) := by
        rw [hR2, fm_if (isB es) (fun i : Nat => V.int (i : Int))]
        rfl
      clear hR2
      refine via_nx ?_
      refine ⟨_, rfl, D, rfl, ⟨_, SqL.of hB⟩, fun D4 hD4 => ?_⟩
      refine lc_nums (K := K) (l := bars es) (fun p => keptB es ws [p]) (by omega) hB hD4 ?_ ?_
      · intro p Ga Qy Qn hp sa ky_ kn
        have sGa := s1.trans sa
        refine ⟨rfl, _, rfl, _, rfl, _, rfl, (by show 1 ≤ sizeLine; omega), fun b1 hb1 => ?_⟩
        have sb := Same.updf (o := .lst [V.int (p : Int)]) hb1
        refine ⟨a, b, b1, es, ws, [p], rfl, hR.same (sGa.trans sb), hW.same (sGa.trans sb), upd_same, (by show 1 ≤ 1000; decide), fun Gb sB => ⟨_, rfl, ?_⟩⟩
        cases q : keptB es ws [p] with
        | true => exact iteT ⟨_, rfl, ky_ _ (sb.trans sB) q⟩
        | false => exact iteF (kn _ (sb.trans sB) q)
      · intro G2 s2 hA
        have hA : G2 D4 = some (.lst (numsV (aloneL es ws))) := hA
        refine ⟨(by show 0 ≤ sizeLine; omega), fun q5 hq5 => ?_⟩
        have s3 := Same.updf (o := .lst []) hq5
        have hq3 : (upd G2 q5 (.lst [])) q5 = some (.lst []) := upd_same
        have s13 := (s1.trans s2).trans s3
        have nq5 : H q5 = none := none_back (s1.trans s2) hq5
        have hB3 := s3 _ _ (s2 _ _ hB)
        have hA3 := s3 _ _ hA
        have nBq : D ≠ q5 := ne_of_none (s2 _ _ hB) hq5
        have nAq : D4 ≠ q5 := ne_of_none hA hq5
        obtain ⟨G3, eG⟩ : ∃ X, X = upd G2 q5 (.lst []) := ⟨_, rfl⟩
        rw [← eG] at s3 hq3 s13 hB3 hA3 ⊢
        clear eG s3
        refine ⟨_, _, rfl, ?_⟩
        refine via_nx ?_
        refine norm (σ' := [some (.ref a), some (.ref b), none, some (.ref D), some (.ref D4), some (.ref q5), none, none, none, none]) rfl ?_
        refine ⟨_, rfl, D, rfl, ⟨_, SqL.of hB3⟩, ?_⟩
        have lbv : (numsV (bars es)).length = (bars es).length := List.length_map _
        refine for_list (xs := numsV (bars es)) (fun i σ G => But q5 G3 G ∧ G q5 = some (.lst (numsV (goneL es ws i))) ∧ ∃ v2, σ = [some (.ref a), some (.ref b), v2, some (.ref D), some (.ref D4), some (.ref q5), none, none, none, none])
          ⟨But.refl _ _, hq3, none, rfl⟩ (fun i σ G _ hh => SqL.of (hh.1 _ _ nBq hB3)) ?_ ?_
        · rintro i y σ G hy ⟨bG, hqG, v2, rfl⟩
          have hi : i < (bars es).length := by
            have := (List.getElem?_eq_some_iff.mp hy).1
            omega
          obtain ⟨p, hp⟩ : ∃ p, (bars es)[i]? = some p := ⟨_, List.getElem?_eq_getElem hi⟩
          rw [bars_at hp] at hy
          obtain rfl := Option.some.inj hy
          have eg : goneL es ws (i + 1) = if keptB es ws (goneL es ws i ++ [p]) then goneL es ws i ++ [p] else goneL es ws i := by
            show (match (bars es)[i]? with | some p => _ | none => _) = _
            rw [hp]
          have sG : Same H G := fun c o e => bG _ _ (ne_of_none e nq5) (s13 _ _ e)
          have lg : (goneL es ws i).length ≤ i := by
            have e := (spare_gone hW.ok.ok i (by omega)).1
            rw [← e]
            exact spare_len es ws i
          have lgv : (numsV (goneL es ws i)).length = (goneL es ws i).length := List.length_map _
          refine ⟨_, rfl, _, rfl, _, rfl, _, rfl, (by show 1 ≤ sizeLine; omega), fun b1 hb1 => ?_⟩
          have sb1 := Same.updf (o := .lst [V.int (p : Int)]) hb1
          refine ⟨q5, b1, _, _, rfl, rfl, sb1 _ _ hqG, upd_same, (by rw [lgv]; show _ + 1 ≤ _; omega), fun b2 hb2 => ?_⟩
          have sb2 := sb1.trans (Same.updf (o := .lst (numsV (goneL es ws i) ++ [V.int (p : Int)])) hb2)
          have en : numsV (goneL es ws i) ++ [V.int (p : Int)] = numsV (goneL es ws i ++ [p]) := by
            unfold numsV
            rw [List.map_append]
            rfl
          refine ⟨a, b, b2, es, ws, goneL es ws i ++ [p], rfl, hR.same (sG.trans sb2), hW.same (sG.trans sb2), by rw [upd_same, en], (by rw [List.length_append]; show _ + 1 ≤ _; omega), fun Gb sB => ⟨_, rfl, ?_⟩⟩
          have sb3 := sb2.trans sB
          have hq3' := sb3 _ _ hqG
          cases q : keptB es ws (goneL es ws i ++ [p]) with
          | true =>
            rw [q, if_pos rfl] at eg
            refine iteT ⟨_, rfl, Or.inl ⟨rfl, _, SqL.of hq3'⟩, _, rfl, q5, _, _, rfl, rfl, hq3', (by rw [lgv]; omega), ?_⟩
            refine ⟨(bG.trans (But.of sb3)).trans But.upd', ?_, some (.int (p : Int)), rfl⟩
            rw [upd_same, eg, en]
          | false =>
            rw [q, if_neg Bool.false_ne_true] at eg
            exact iteF ⟨bG.trans (But.of sb3), by rw [eg]; exact hq3', some (.int (p : Int)), rfl⟩
        · rintro σ G4 ⟨bG, hqG, v2, rfl⟩
          rw [lbv] at hqG
          have s14 : Same H G4 := fun c o e => bG _ _ (ne_of_none e nq5) (s13 _ _ e)
          have hA4 := bG _ _ nAq hA3
          clear bG hA3 hB3 hq3 s13 s2 hA hD4 hB s1 hD
          refine via_nx ?_
          refine ⟨_, rfl, _, rfl, a, b, es, ws, rfl, hR.same s14, hW.same s14, fun n1 G5 s5 f1 h1 => ?_⟩
          have s15 := s14.trans s5
          have n1a : n1 ≠ D4 ∧ n1 ≠ q5 ∧ ∀ o, H n1 ≠ some o := ⟨(ne_of_none hA4 f1).symm, (ne_of_none hqG f1).symm, fun o e => by rw [s14 _ _ e] at f1; cases f1⟩
          refine ⟨_, rfl, _, rfl, a, b, es, ws, rfl, hR.same s15, hW.same s15, fun n2 G6 s6 f2 h2 => ?_⟩
          have s16 := s15.trans s6
          have n2a : n2 ≠ D4 ∧ n2 ≠ q5 ∧ ∀ o, H n2 ≠ some o := ⟨(ne_of_none (s5 _ _ hA4) f2).symm, (ne_of_none (s5 _ _ hqG) f2).symm, fun o e => by rw [s15 _ _ e] at f2; cases f2⟩
          refine ⟨_, rfl, a, es, rfl, hR.same s16, fun n3 G7 s7 f3 h3 => ?_⟩
          have s17 := s16.trans s7
          have n3a : n3 ≠ D4 ∧ n3 ≠ q5 ∧ ∀ o, H n3 ≠ some o := ⟨(ne_of_none ((s5.trans s6) _ _ hA4) f3).symm, (ne_of_none ((s5.trans s6) _ _ hqG) f3).symm, fun o e => by rw [s16 _ _ e] at f3; cases f3⟩
          obtain ⟨t3, h3x, _⟩ := id h3.ex
          refine ⟨(by show 3 ≤ sizeLine; omega), fun qt hqt => ?_⟩
          have s8 := Same.updf (o := .lst [V.ref n1, V.ref n2, V.ref n3]) hqt
          have n1t : n1 ≠ qt := ne_of_none ((s6.trans s7) _ _ h1) hqt
          have n2t : n2 ≠ qt := ne_of_none (s7 _ _ h2) hqt
          have n3t : n3 ≠ qt := ne_of_none h3x hqt
          have h3x := s8 _ _ h3x
          have ht8 : (upd G7 qt (.lst [V.ref n1, V.ref n2, V.ref n3])) qt = some (.lst [V.ref n1, V.ref n2, V.ref n3]) := upd_same
          have h18 := ((s6.trans s7).trans s8) _ _ h1
          have h28 := (s7.trans s8) _ _ h2
          have h38 := h3.same s8
          have s18 := s17.trans s8
          have s48 := ((s5.trans s6).trans s7).trans s8
          have hA8 := s48 _ _ hA4
          have hG8 := s48 _ _ hqG
          obtain ⟨G8, eG⟩ : ∃ X, X = upd G7 qt (.lst [V.ref n1, V.ref n2, V.ref n3]) := ⟨_, rfl⟩
          rw [← eG] at ht8 h18 h28 h38 s18 hA8 hG8 h3x ⊢
          clear eG s8 s48
          refine norm (σ' := [some (.ref a), some (.ref b), v2, some (.ref D), some (.ref D4), some (.ref q5), some (.ref qt), none, none, none]) rfl ?_
          refine ⟨_, rfl, _, rfl, ?_⟩
          have hR8 := hR.same s18
          obtain ⟨t8, ha8, lt8, ht8'⟩ := hR8.at_.got
          refine ⟨_, rfl, a, rfl, ⟨_, SqL.of ha8⟩, fun D9 hD9 => ?_⟩
          refine ls_rel (xs := es) (vv := Ev.v) (fun e => decide (e ≠ Ev.bar)) (fun e y G => ∃ t, y = .ref t ∧ SqT K G t e.v) (fun e y G G' s ⟨t, h1, h2⟩ => ⟨t, h1, SqT_up s h2⟩) (by omega) hR8.at_ hD9 ?_ ?_
          · rintro e t Ga Qy Qn hm sa hacc he heo ky_ kn
            refine ⟨rfl, _, rfl, (by show 1 ≤ sizeLine; omega), fun tb htb => ?_⟩
            have sb := Same.updf (o := .tup [V.str "barrier"]) htb
            refine ⟨_, _, Ev.dp (SqT_up sb he), Ev.dp (e := .bar) (SqT.of upd_same), shaped_ev _, shaped_ev .bar, _, rfl, ?_⟩
            rw [eqv_ev]
            by_cases c : e = .bar
            · rw [decide_eq_true c]
              exact iteF (kn _ (decide_eq_false (fun z => z c)) sb)
            · rw [decide_eq_false c]
              exact iteT ⟨_, rfl, ky_ _ _ (decide_eq_true c) sb ⟨t, rfl, SqT_up (off_same D9 sb) heo⟩⟩
          · intro G9 ys s9 hys py
            have hbare : RunAt K G9 D9 (bareL es) := LsT.of_paired hys (paired_mono (fun x y ⟨t, e, h⟩ => ⟨t, e, SqT_up (off_le _ _) h⟩) py)
            refine ⟨(by show 3 ≤ sizeLine; omega), fun qd hqd => ?_⟩
            have s10 := Same.updf (o := .lst [V.ref D4, V.ref q5, V.ref D9]) hqd
            have hd10 : (upd G9 qd (.lst [V.ref D4, V.ref q5, V.ref D9])) qd = some (.lst [V.ref D4, V.ref q5, V.ref D9]) := upd_same
            have x10 := s9.trans s10
            have y1 := x10 _ _ h18
            have y2 := x10 _ _ h28
            have y3 := h38.same x10
            have y4 := x10 _ _ ht8
            have y5 := x10 _ _ hA8
            have y6 := x10 _ _ hG8
            have y7 := hbare.same s10
            have s1x := s18.trans x10
            obtain ⟨S, eS⟩ : ∃ S : Addr → Prop, S = fun c => c = n1 ∨ c = n2 ∨ c = n3 := ⟨_, rfl⟩
            have nS : ∀ c, S c → c ≠ D4 ∧ c ≠ q5 ∧ c ≠ D9 ∧ c ≠ qd ∧ c ≠ qt ∧ (∀ o, H c ≠ some o) := fun c hc => by
              rw [eS] at hc
              rcases hc with rfl | rfl | rfl
              · exact ⟨n1a.1, n1a.2.1, ne_of_none h18 hD9, ne_of_none (s9 _ _ h18) hqd, n1t, n1a.2.2⟩
              · exact ⟨n2a.1, n2a.2.1, ne_of_none h28 hD9, ne_of_none (s9 _ _ h28) hqd, n2t, n2a.2.2⟩
              · exact ⟨n3a.1, n3a.2.1, ne_of_none h3x hD9, ne_of_none (s9 _ _ h3x) hqd, n3t, n3a.2.2⟩
            have S1 : S n1 := by rw [eS]; exact .inl rfl
            have S2 : S n2 := by rw [eS]; exact .inr (.inl rfl)
            have S3 : S n3 := by rw [eS]; exact .inr (.inr rfl)
            obtain ⟨Gx, eG⟩ : ∃ X, X = upd G9 qd (.lst [V.ref D4, V.ref q5, V.ref D9]) := ⟨_, rfl⟩
            rw [← eG] at hd10 y1 y2 y3 y4 y5 y6 y7 s1x ⊢
            clear eG s10 x10 h18 h28 h38 hA8 hG8 ht8 hys py hbare
            have lal : (aloneL es ws).length ≤ 100 := by
              have := List.length_filter_le (fun p => keptB es ws [p]) (bars es)
              unfold aloneL
              omega
            have lgo : (goneL es ws (bars es).length).length ≤ 100 := by
              have e := (spare_gone hW.ok.ok _ (Nat.le_refl _)).1
              rw [← e]
              have := spare_len es ws (bars es).length
              omega
            have lba : (bareL es).length ≤ 100 := by
              have := List.length_filter_le (fun e => decide (e ≠ Ev.bar)) es
              unfold bareL
              omega
            have tdd : ∀ (G : Hp) (x1 x2 x3 q : Addr), G x1 = some (.lst (numsV (aloneL es ws))) → G x2 = some (.lst (numsV (goneL es ws (bars es).length))) → RunAt K G x3 (bareL es) → G q = some (.lst [.ref x1, .ref x2, .ref x3]) → TD K G 9 (.ref q) (.list [.list ((aloneL es ws).map fun x : Nat => PyData.int (x : Int)), .list ((goneL es ws (bars es).length).map fun x : Nat => PyData.int (x : Int)), .list ((bareL es).map Ev.d)]) := fun G x1 x2 x3 q e1 e2 e3 e4 =>
              TD.lst e4 rfl (Nat.le_of_ble_eq_true rfl) (td_cons (nums_td 7 e1 (by omega)) (td_cons (nums_td 7 e2 (by omega)) (td_cons (run_td 6 e3 (by omega)) td_nil)))
            refine via_nx ?_
            refine norm (σ' := [some (.ref a), some (.ref b), v2, some (.ref D), some (.ref D4), some (.ref q5), some (.ref qt), some (.ref qd), none, none]) rfl ?_
            refine ⟨_, rfl, _, rfl, .ref qt, .ref qd, _, rfl, tdd Gx n1 n2 n3 qt y1 y2 y3 y4, tdd Gx D4 q5 D9 qd y5 y6 y7 hd10, fun Gy sy => ⟨_, rfl, iteF ?_⟩⟩
            have z1 := sy _ _ y1
            have z2 := sy _ _ y2
            obtain ⟨t3', z3, _⟩ := (y3.same sy).ex
            obtain ⟨_, _, l3, _⟩ := id (y3.same sy).ex
            have z4 := sy _ _ y4
            have hS0 : ∀ c, S c → ∃ l, Gy c = some (.lst l) ∧ l.length ≤ 1000 := fun c hc => by
              rw [eS] at hc
              rcases hc with rfl | rfl | rfl
              · exact ⟨_, z1, by unfold numsV; rw [List.length_map]; omega⟩
              · exact ⟨_, z2, by unfold numsV; rw [List.length_map]; omega⟩
              · obtain ⟨tt, e1, e2, _⟩ := (y3.same sy).ex
                exact ⟨_, e1, by rw [List.length_map, e2]; omega⟩
            refine via_nx ?_
            refine ⟨_, rfl, qt, rfl, ⟨_, SqL.of z4⟩, ?_⟩
            refine for_list (xs := [V.ref n1, V.ref n2, V.ref n3]) (fun i σ G => (∀ c o, ¬ S c → Gy c = some o → G c = some o) ∧ (∀ c, S c → ∃ l, G c = some (.lst l) ∧ l.length ≤ 1000 + i) ∧ ∃ v8, σ = [some (.ref a), some (.ref b), v2, some (.ref D), some (.ref D4), some (.ref q5), some (.ref qt), some (.ref qd), v8, none])
              ⟨fun c o _ e => e, fun c hc => hS0 c hc, none, rfl⟩ (fun i σ G _ hh => SqL.of (hh.1 _ _ (fun z => (nS _ z).2.2.2.2.1 rfl) z4)) ?_ ?_
            · rintro i y σ G hy ⟨bG, hSG, v8, rfl⟩
              obtain ⟨c, rfl, hc⟩ : ∃ c, y = .ref c ∧ S c := by
                match i with
                | 0 => cases hy; exact ⟨n1, rfl, S1⟩
                | 1 => cases hy; exact ⟨n2, rfl, S2⟩
                | 2 => cases hy; exact ⟨n3, rfl, S3⟩
                | i + 3 => simp at hy
              have hi : i < 3 := by
                have := (List.getElem?_eq_some_iff.mp hy).1
                exact this
              obtain ⟨l, e1, e2⟩ := hSG c hc
              refine ⟨_, rfl, Or.inl ⟨rfl, _, SqL.of e1⟩, c, _, _, rfl, rfl, e1, by omega, ?_⟩
              refine ⟨fun x o nx e => by rw [upd_ne (fun z : x = c => nx (by rw [z]; exact hc))]; exact bG x o nx e, fun x hx => ?_, _, rfl⟩
              by_cases z : x = c
              · rw [z, upd_same]
                exact ⟨_, rfl, by rw [List.length_append]; show _ + 1 ≤ _; omega⟩
              · rw [upd_ne z]
                obtain ⟨l', g1, g2⟩ := hSG x hx
                exact ⟨l', g1, by omega⟩
            · rintro σ Gz ⟨bG, hSG, v8, rfl⟩
              have sz : Same H Gz := fun c o e => bG c o (fun z => (nS c z).2.2.2.2.2 o e) (sy _ _ (s1x _ _ e))
              have w5 := bG _ _ (fun z => (nS _ z).1 rfl) (sy _ _ y5)
              have w6 := bG _ _ (fun z => (nS _ z).2.1 rfl) (sy _ _ y6)
              have w7 : RunAt K Gz D9 (bareL es) := (y7.same sy).butS bG (fun p hp => by obtain ⟨l, e, _⟩ := hS0 p hp; exact ⟨l, e⟩) (fun z => (nS _ z).2.2.1 rfl)
              have wd := bG _ _ (fun z => (nS _ z).2.2.2.1 rfl) (sy _ _ hd10)
              clear bG hSG hS0 z1 z2 z3 z4 y1 y2 y3 y4 y5 y6 y7 hd10 sy s1x
              have hRz := hR.same sz
              have hWz := hW.same sz
              obtain ⟨ta, haz, lta, _⟩ := id hRz.at_.ex
              obtain ⟨tb, hbz, ltb, _⟩ := id hWz.at_.ex
              refine via_nx ?_
              refine ⟨_, rfl, a, _, rfl, .inl (SqL.of haz), fun l1 hl1 => ?_⟩
              have x1 := Same.updf (o := .lst (ta.map V.ref)) hl1
              refine ⟨_, rfl, l1, b, es, ws, rfl, ⟨hRz.at_.copy haz x1 upd_same, hRz.ne, hRz.len⟩, hWz.same x1, fun m1 Ga sa f1 h1 => ?_⟩
              have xa := x1.trans sa
              refine ⟨_, rfl, _, rfl, b, _, rfl, .inl (SqL.of (xa _ _ hbz)), fun l2 hl2 => ?_⟩
              have x2 := Same.updf (o := .lst (tb.map V.ref)) hl2
              have xa2 := xa.trans x2
              refine ⟨a, l2, es, ws, rfl, hRz.same xa2, ⟨hWz.at_.copy hbz xa2 upd_same, hWz.ok, hWz.len⟩, fun m2 Gb sb f2 h2 => ?_⟩
              have xb := xa2.trans sb
              refine ⟨_, rfl, a, es, rfl, hRz.same xb, fun m3 Gc sc f3 h3 => ?_⟩
              refine ⟨(by show 3 ≤ sizeLine; omega), fun qe hqe => ?_⟩
              have x3 := Same.updf (o := .lst [V.ref m1, V.ref m2, V.ref m3]) hqe
              have xc := (xb.trans sc).trans x3
              refine ⟨_, rfl, .ref qe, .ref qd, _, rfl, tdd _ m1 m2 m3 qe ((((x2.trans sb).trans sc).trans x3) _ _ h1) ((sc.trans x3) _ _ h2) (h3.same x3) upd_same, tdd _ D4 q5 D9 qd (xc _ _ w5) (xc _ _ w6) (w7.same xc) (xc _ _ wd), fun Gd sd => k _ ((sz.trans xc).trans sd)⟩
end
end K18
set_option Elab.async false
set_option linter.all false
set_option maxRecDepth 100000
set_option maxHeartbeats 8000000
/-! Barriers put in: what the law asks. -/
namespace K18
open PySem PySem.Spec PyProof.Rows L2 KB LamX
theorem rgV_nat (m : Nat) : rgV 0 (m : Int) = numsV (List.range m) := by
  unfold rgV numsV
  rw [show ((m : Int) - 0).toNat = m by omega]
  apply List.map_congr_left
  intro x _
  rw [Int.zero_add]
theorem nums_of_perm {ns : List Int} {P0 : List Nat} (h : ns.Perm (P0.map fun x : Nat => (x : Int))) : ∃ P : List Nat, ns = P.map (fun x : Nat => (x : Int)) ∧ P.Perm P0 := by
  refine ⟨ns.map Int.toNat, ?_, ?_⟩
  · rw [List.map_map]
    refine (List.map_id ns).symm.trans (List.map_congr_left fun x hx => ?_)
    obtain ⟨n, _, rfl⟩ := List.mem_map.mp (h.mem_iff.mp hx)
    rfl
  · have h2 := h.map Int.toNat
    rw [List.map_map] at h2
    have e : P0.map (Int.toNat ∘ fun x : Nat => (x : Int)) = P0 := (List.map_congr_left fun x _ => rfl).trans (List.map_id P0)
    rw [e] at h2
    exact h2
theorem cut_pre (xs : List V) (r : Nat) : cutV xs none (some (r : Int)) = xs.take r := by
  unfold cutV
  have e1 : HT.sIx xs.length 0 none = 0 := rfl
  rw [e1, List.drop_zero, Nat.sub_zero]
  have e2 : HT.sIx xs.length xs.length (some (r : Int)) = min r xs.length := by
    unfold HT.sIx
    simp
    omega
  rw [e2, ← List.take_take, List.take_length]
theorem numsV_ints (l : List Nat) : numsV l = (l.map fun x : Nat => (x : Int)).map V.int := by
  unfold numsV
  rw [List.map_map]
  rfl
theorem plok_of {n : Nat} {L : List Nat} {P0 P : List Nat} (hL : L.Perm (List.range n)) (h0 : P0.Sublist L) (hp : P.Perm P0) (hs : (P.map fun x : Nat => (x : Int)).Pairwise (· ≤ ·)) : PlOk n P := by
  have nd : P.Nodup := hp.nodup_iff.mpr (h0.nodup (hL.nodup_iff.mpr List.nodup_range))
  rw [List.pairwise_map] at hs
  refine ⟨(hs.and (List.nodup_iff_pairwise_ne.mp nd)).imp fun {a b} h => ?_, fun p hm => ?_⟩
  · obtain ⟨h1, h2⟩ := h
    omega
  · exact List.mem_range.mp (hL.mem_iff.mp (h0.subset (hp.mem_iff.mp hm)))
theorem wr_nil (es : List Ev) : ∀ i, wr es [] i = es.take i
  | 0 => rfl
  | i + 1 => by
    rw [wr_succ, List.take_succ]
    unfold pre
    rw [wr_nil es i]
    simp
theorem wr_len3 {es : List Ev} {P : List Nat} (h : PlOk es.length P) : (wr es P es.length).length ≤ 2 * es.length := wr_len2 h.nd (Nat.le_refl _) h.len
theorem ends_ok {es : List Ev} {ws : List (Nat × Nat)} (h : WaitsOk es ws) : PlOk es.length (ends (brokenL es ws)) := by
  have hl : ∀ w ∈ brokenL es ws, w.1 < w.2 := fun w hw => (h.ok w (List.mem_filter.mp hw).1).lt
  refine ⟨ends_asc hl, fun p hp => ?_⟩
  obtain ⟨g, hg, rfl⟩ := List.mem_map.mp hp
  exact (h.ok g (List.mem_filter.mp (apart_mem hl hg)).1).len
theorem ends_stab {es : List Ev} {ws : List (Nat × Nat)} (h : WaitsOk es ws) : ∀ w ∈ brokenL es ws, ∃ p ∈ ends (brokenL es ws), w.1 < p ∧ p ≤ w.2 :=
  served_iff.mp (ends_serve fun w hw => (h.ok w (List.mem_filter.mp hw).1).lt)
section
variable {P : Program} {w : World} {K : PySem.W.Frag} {mg : Str → Option Value} {base : Heap}
abbrev s_put_right : Stmt := top 53
abbrev N_put_right : List Str := ["_law_purse_here", "_law_run_here", "_law_waits", "_law_places", "_law_handed", "_law_told", "_law_due", "_law_late", "_law_sent", "_law_some", "_law_place", "_law_one", "_law_other"]
theorem sc_put_right : FnScope N_put_right ["_law_purse_here", "_law_run_here", "_law_waits"] (defScope s_put_right) := ⟨rfl, rfl, rfl, by decide +kernel, rfl, by decide +kernel, by decide +kernel⟩
theorem ok_put_right {f : Addr} {fd : FuncData} (F : FnP K "_law_put_right" s_put_right f fd) (Z : FreeS mg)
    {f_waits_then : Addr} {d_waits_then : FuncData} (g_waits_then : mg "waits_then" = some (.ref f_waits_then)) (F_waits_then : FnP K "waits_then" s_waits_then f_waits_then d_waits_then) (G_waits_then : FnOk P w K mg base CX0 7 f_waits_then d_waits_then ["run", "waits", "places"] (spThen K))
    {f_barriers_for : Addr} {d_barriers_for : FuncData} (g_barriers_for : mg "barriers_for" = some (.ref f_barriers_for)) (F_barriers_for : FnP K "barriers_for" s_barriers_for f_barriers_for d_barriers_for) (G_barriers_for : FnOk P w K mg base CX0 7 f_barriers_for d_barriers_for ["run", "waits"] (spFor K))
    {f_exact : Addr} {d_exact : FuncData} (g_exact : mg "_law_exact" = some (.ref f_exact)) (F_exact : FnP K "_law_exact" s_exact f_exact d_exact) (GA_exact : ∀ n : Nat, FnOk P w K mg base CX0 (n + 1) f_exact d_exact ["_law_mine", "_law_theirs"] (spExactD K n))
    {f_with_barriers : Addr} {d_with_barriers : FuncData} (g_with_barriers : mg "with_barriers" = some (.ref f_with_barriers)) (F_with_barriers : FnP K "with_barriers" s_with_barriers f_with_barriers d_with_barriers) (G_with_barriers : FnOk P w K mg base CX0 6 f_with_barriers d_with_barriers ["run", "places"] (spWithB K))
    {f_with : Addr} {d_with : FuncData} (g_with : mg "_law_with" = some (.ref f_with)) (F_with : FnP K "_law_with" s_with f_with d_with) (G_with : FnOk P w K mg base CX0 2 f_with d_with ["_law_run_here", "_law_places", "_law_event_here"] (spWith K))
    {f_broken : Addr} {d_broken : FuncData} (g_broken : mg "broken" = some (.ref f_broken)) (F_broken : FnP K "broken" s_broken f_broken d_broken) (G_broken : FnOk P w K mg base CX0 7 f_broken d_broken ["run", "waits"] (spBroken K))
    {f_shuffled : Addr} {d_shuffled : FuncData} (g_shuffled : mg "_law_shuffled" = some (.ref f_shuffled)) (F_shuffled : FnP K "_law_shuffled" s_shuffled f_shuffled d_shuffled) (G_shuffled : FnOk P w K mg base CX0 3 f_shuffled d_shuffled ["_law_purse_here", "_law_some"] (spShuffled K))
    {f_draw : Addr} {d_draw : FuncData} (g_draw : mg "_law_draw" = some (.ref f_draw)) (F_draw : FnP K "_law_draw" s_draw f_draw d_draw) (G_draw : FnOk P w K mg base CX0 2 f_draw d_draw ["_law_purse_here", "_law_many"] spDraw) :
    FnOk P w K mg base CX0 11 f fd ["_law_purse_here", "_law_run_here", "_law_waits"] (spPutR K) := by
  have b_waits_then : Binds K d_waits_then ["run", "waits", "places"] [] := F_waits_then.bindsN fun _ _ _ _ _ _ us hl => match us, hl with | [_, _, _], _ => rfl
  have b_barriers_for : Binds K d_barriers_for ["run", "waits"] [] := F_barriers_for.bindsN fun _ _ _ _ _ _ us hl => match us, hl with | [_, _], _ => rfl
  have b_exact : Binds K d_exact ["_law_mine", "_law_theirs"] [] := F_exact.bindsN fun _ _ _ _ _ _ us hl => match us, hl with | [_, _], _ => rfl
  have b_with_barriers : Binds K d_with_barriers ["run", "places"] [] := F_with_barriers.bindsN fun _ _ _ _ _ _ us hl => match us, hl with | [_, _], _ => rfl
  have b_with : Binds K d_with ["_law_run_here", "_law_places", "_law_event_here"] [] := F_with.bindsN fun _ _ _ _ _ _ us hl => match us, hl with | [_, _, _], _ => rfl
  have b_broken : Binds K d_broken ["run", "waits"] [] := F_broken.bindsN fun _ _ _ _ _ _ us hl => match us, hl with | [_, _], _ => rfl
  have b_shuffled : Binds K d_shuffled ["_law_purse_here", "_law_some"] [] := F_shuffled.bindsN fun _ _ _ _ _ _ us hl => match us, hl with | [_, _], _ => rfl
  have b_draw : Binds K d_draw ["_law_purse_here", "_law_many"] [] := F_draw.bindsN fun _ _ _ _ _ _ us hl => match us, hl with | [_, _], _ => rfl
  refine F.ok sc_put_right (fun vs H Q E h => ?_) (fun cdv A outer s H vs Q E hr h => ?_)
  · obtain ⟨pu, a, b, es, ws, N, rfl, _⟩ := h
    rfl
  · obtain ⟨pu, a, b, es, ws, N, rfl, hP, hN, na, nb, hRo, l20, hWo, hT, k⟩ := h
    have sl : (10000 : Nat) ≤ sizeLine := by decide
    have m4 : mixes 4 = 1 := mixes_one (by decide) (by decide)
    have hu : _ + 1 < cLine := Nat.lt_of_le_of_lt (Nat.add_le_add_left (by decide : 1 ≤ 64) _) hr.units
    have nd := sc_put_right.nd
    refine ⟨_, PSs.nox (pss_cons (ps_set (i := 3) nd rfl (Or.inr rfl) (pe_callB (cr_sorted) (by rfl) Z.sorted (by decide +kernel) (pa_cons (pe_slice sl_list (pe_call G_shuffled (hr.mono (by decide)) rfl g_shuffled F_shuffled.kp b_shuffled .nil pass0 (pa_cons (pv 0) (pa_cons (pe_listRg rfl (by rfl) Z.tlist (prg_1 (by rfl) Z.range (pe_callB call_len_seq (by rfl) Z.len (by decide +kernel) (pa_cons (pv 1) (pa_nil))))) (pa_nil)))) (po_none) (po_some (pe_call G_draw (hr.mono (by decide)) rfl g_draw F_draw.kp b_draw .nil pass0 (pa_cons (pv 0) (pa_cons (pe_int) (pa_nil)))))) (pa_nil))))
      (pss_cons (ps_set (i := 4) nd rfl (Or.inl rfl) (pe_lst (pa_cons (pe_callTy call_list_ofR (by rfl) Z.tlist (by decide +kernel) (pa_cons (pv 1) (pa_nil))) (pa_cons (pe_callTy call_list_ofR (by rfl) Z.tlist (by decide +kernel) (pa_cons (pv 2) (pa_nil))) (pa_cons (pe_callTy call_list_ofR (by rfl) Z.tlist (by decide +kernel) (pa_cons (pv 3) (pa_nil))) (pa_nil))))))
      (pss_cons (ps_asg (pe_tup (pa_cons (pe_call G_with_barriers (hr.mono (by decide)) rfl g_with_barriers F_with_barriers.kp b_with_barriers .nil pass0 (pa_cons (pe_ix ix_list (pv 4) (pe_int) (fun _ _ => rfl)) (pa_cons (pe_ix ix_list (pv 4) (pe_int) (fun _ _ => rfl)) (pa_nil)))) (pa_cons (pe_call G_with (hr.mono (by decide)) rfl g_with F_with.kp b_with .nil pass0 (pa_cons (pv 1) (pa_cons (pv 3) (pa_cons (pe_tup (pa_cons (pe_str) (pa_nil))) (pa_nil))))) (pa_nil)))) (pg_tup rfl (pgs_cons (pg_name (i := 5) nd rfl (Or.inr rfl)) (pgs_cons (pg_name (i := 6) nd rfl (Or.inl rfl)) (pgs_nil)))))
      (pss_cons (ps_set (i := 8) nd rfl (Or.inr rfl) (pe_callTy (call_dictPR rfl) (by rfl) Z.tdict (by decide +kernel) (pa_cons (pe_lc (own := [("_law_late", 7)]) (g := gName 7) (tt := tYes) (te := tTup (tCons (tVar 7) (tCons (tOp (rI0 fun i j => .int (i + j)) (tVar 7) (tCB (rLenK K) (tCons (tLc (iList K (tVar 3)) (gName 10) (tTest (tOp (rI0 fun i j => .bl (decide (i < j))) (tVar 10) (tOp (rI0 fun i j => .int (i + j)) (tVar 7) (tC (.int 1))))) (tVar 10) [10]) (tNil)))) (tNil)))) (by rfl) nd (pi_range1 (by rfl) Z.range (pa_cons (pe_callB call_len_seq (by rfl) Z.len (by decide +kernel) (pa_cons (pv 1) (pa_nil))) (pa_nil)))
          (blkOk_by (own := [("_law_late", 7)]) (N := N_put_right) (sc := defScope s_put_right) (by decide +kernel)) (fun _ _ _ _ _ => pg_name (i := 7) nd rfl (Or.inr rfl)) (fun _ _ _ _ _ => pts_nil)
          (fun _ _ _ _ _ => pe_tup (pa_cons (pv 7) (pa_cons (pe_op op_add (pv 7) (pe_callB call_len_seq (by rfl) Z.len (by decide +kernel) (pa_cons (pe_lc (own := [("_law_place", 10)]) (g := gName 10) (tt := tTest (tOp (rI0 fun i j => .bl (decide (i < j))) (tVar 10) (tOp (rI0 fun i j => .int (i + j)) (tVar 7) (tC (.int 1))))) (te := tVar 10) (by rfl) nd (pi_list (pv 3))
          (blkOk_by (own := [("_law_place", 10)]) (N := N_put_right) (sc := ({ kind := .function, names := [(".0", .local), ("_law_late", .cell), ("len", .globalImplicit), ("_law_places", .cell)], isGenerator := false, isCoroutine := false } : Scope)) (by decide +kernel)) (fun _ _ _ _ _ => pg_name (i := 10) nd rfl (Or.inl rfl)) (fun _ _ _ _ _ => pts_one (pt_cmpR op_lt (pv 10) (pe_op op_add (pv 7) (pe_int)) (nomark _)))
          (fun _ _ _ _ _ => pv 10)) (pa_nil)))) (pa_nil))))) (pa_nil))))
      (pss_cons (ps_set (i := 7) nd rfl (Or.inl rfl) (pe_call G_waits_then (hr.mono (by decide)) rfl g_waits_then F_waits_then.kp b_waits_then .nil pass0 (pa_cons (pe_ix ix_list (pv 4) (pe_int) (fun _ _ => rfl)) (pa_cons (pe_ix ix_list (pv 4) (pe_int) (fun _ _ => rfl)) (pa_cons (pe_ix ix_list (pv 4) (pe_int) (fun _ _ => rfl)) (pa_nil))))))
      (pss_cons (ps_if (pt_not (pt_val (pe_call (GA_exact 9) (hr.mono (by decide)) rfl g_exact F_exact.kp b_exact .nil pass0 (pa_cons (pe_lst (pa_cons (pv 5) (pa_cons (pv 7) (pa_cons (pv 4) (pa_nil))))) (pa_cons (pe_lst (pa_cons (pv 6) (pa_cons (pe_lc (own := [("_law_one", 11), ("_law_other", 12)]) (g := gTup K 2 (gCons (gName 11) (gCons (gName 12) (gNil)))) (tt := tYes) (te := tTup (tCons (tDGet (tVar 8) (tVar 11)) (tCons (tDGet (tVar 8) (tVar 12)) (tNil)))) (by rfl) nd (pi_list (pv 2))
          (blkOk_by (own := [("_law_one", 11), ("_law_other", 12)]) (N := N_put_right) (sc := defScope s_put_right) (by decide +kernel)) (fun _ _ _ _ _ => pg_tup rfl (pgs_cons (pg_name (i := 11) nd rfl (Or.inl rfl)) (pgs_cons (pg_name (i := 12) nd rfl (Or.inl rfl)) (pgs_nil)))) (fun _ _ _ _ _ => pts_nil)
          (fun _ _ _ _ _ => pe_tup (pa_cons (pe_dget hu (pv 8) (pv 11) (fun _ _ => rfl)) (pa_cons (pe_dget hu (pv 8) (pv 12) (fun _ _ => rfl)) (pa_nil))))) (pa_cons (pe_lst (pa_cons (pv 1) (pa_cons (pv 2) (pa_cons (pv 3) (pa_nil))))) (pa_nil))))) (pa_nil)))))) (pss_one (ps_ret (pe_bl))) (pss_nil))
      (pss_cons (ps_if (pt_not (pt_val (pe_callB (cr_all rfl) (by rfl) Z.all (by decide +kernel) (pa_cons (pe_lc (own := [("_law_place", 10)]) (g := gName 10) (tt := tYes) (te := tOp (rEqD K) (tOp (rIxL K) (tVar 5) (tDGet (tVar 8) (tVar 10))) (tOp (rIxL K) (tVar 1) (tVar 10))) (by rfl) nd (pi_range1 (by rfl) Z.range (pa_cons (pe_callB call_len_seq (by rfl) Z.len (by decide +kernel) (pa_cons (pv 1) (pa_nil))) (pa_nil)))
          (blkOk_by (own := [("_law_place", 10)]) (N := N_put_right) (sc := defScope s_put_right) (by decide +kernel)) (fun _ _ _ _ _ => pg_name (i := 10) nd rfl (Or.inl rfl)) (fun _ _ _ _ _ => pts_nil)
          (fun _ _ _ _ _ => pe_cmpR (op_eqD hr.units) (pe_ix ix_list (pv 5) (pe_dget hu (pv 8) (pv 10) (fun _ _ => rfl)) (fun _ _ => rfl)) (pe_ix ix_list (pv 1) (pv 10) (fun _ _ => rfl)) (nomark _))) (pa_nil))))) (pss_one (ps_ret (pe_bl))) (pss_nil))
      (pss_cons (ps_set (i := 9) nd rfl (Or.inl rfl) (pe_call G_barriers_for (hr.mono (by decide)) rfl g_barriers_for F_barriers_for.kp b_barriers_for .nil pass0 (pa_cons (pv 1) (pa_cons (pv 2) (pa_nil)))))
      (pss_cons (ps_if (pt_cmpR (op_neE (Nat.lt_of_le_of_lt (Nat.le_add_right _ 64) hr.units)) (pe_call G_broken (hr.mono (by decide)) rfl g_broken F_broken.kp b_broken .nil pass0 (pa_cons (pe_call G_with_barriers (hr.mono (by decide)) rfl g_with_barriers F_with_barriers.kp b_with_barriers .nil pass0 (pa_cons (pv 1) (pa_cons (pv 9) (pa_nil)))) (pa_cons (pe_call G_waits_then (hr.mono (by decide)) rfl g_waits_then F_waits_then.kp b_waits_then .nil pass0 (pa_cons (pv 1) (pa_cons (pv 2) (pa_cons (pv 9) (pa_nil))))) (pa_nil)))) (pe_lst (pa_nil)) (nomark _)) (pss_one (ps_ret (pe_bl))) (pss_nil))
      (pss_cons (ps_expr (pe_bm PySem.F.plainAttrs_list PySem.F.slot_list_append PySem.F.type_list_append mt_append (pv 5) (pa_cons (pe_non) (pa_nil))))
      (pss_cons (ps_expr (pe_bm PySem.F.plainAttrs_list PySem.F.slot_list_append PySem.F.type_list_append mt_append (pv 7) (pa_cons (pe_non) (pa_nil))))
      (pss_one (ps_ret (pe_call (GA_exact 9) (hr.mono (by decide)) rfl g_exact F_exact.kp b_exact .nil pass0 (pa_cons (pe_lst (pa_cons (pe_call G_with_barriers (hr.mono (by decide)) rfl g_with_barriers F_with_barriers.kp b_with_barriers .nil pass0 (pa_cons (pv 1) (pa_cons (pv 3) (pa_nil)))) (pa_cons (pe_call G_with_barriers (hr.mono (by decide)) rfl g_with_barriers F_with_barriers.kp b_with_barriers .nil pass0 (pa_cons (pv 1) (pa_cons (pe_lst (pa_nil)) (pa_nil)))) (pa_nil)))) (pa_cons (pe_lst (pa_cons (pv 6) (pa_cons (pv 1) (pa_nil)))) (pa_nil))))))))))))))))), ?_⟩
    have hR := hRo.same (off_le H pu)
    have hW := hWo.same (off_le H pu)
    obtain ⟨ts, ha, lt, ht⟩ := hR.at_.got
    refine ⟨_, rfl, _, rfl, a, _, rfl, .inl (SqL.of ha), _, rfl, by rw [List.length_map, lt]; exact RgOk.of_le (by omega) (by omega) (by omega) (by omega), fun R hR' => ?_⟩
    rw [List.length_map, lt, rgV_nat]
    have sR := Same.updf (o := .lst (numsV (List.range es.length))) hR'
    have nR : R ≠ pu := fresh_ne hP hR'
    refine ⟨pu, R, N, List.range es.length, rfl, hP.same sR, by omega, nR, upd_same, by rw [List.length_range]; omega, fun q1 L1 H1 b1 P1 n1 e1 p1 => ?_⟩
    have b01 : But pu H H1 := (But.of sR).trans b1
    refine ⟨_, rfl, pu, 4, N + 100, rfl, by decide, log_small (by decide) (by decide), P1, by rw [m4]; omega, by rw [m4]; omega, fun r H2 r0 r1 b2 P2 => ?_⟩
    rw [m4] at P2
    obtain ⟨r, rfl⟩ : ∃ z : Nat, r = (z : Int) := ⟨r.toNat, by omega⟩
    have nq1 : q1 ≠ pu := fresh_ne (hP.same sR) n1
    have e2 := b2 _ _ nq1 e1
    refine ⟨(r : Int), rfl, q1, _, rfl, SqL.of e2, fun c3 hc3 => ?_⟩
    rw [cut_pre]
    have et : (numsV L1).take r = (((L1.take r).map fun x : Nat => (x : Int)).map V.int) := by
      rw [← numsV_ints]
      unfold numsV
      rw [List.map_take]
    have lt3 : (L1.take r).length ≤ 3 := by
      rw [List.length_take]
      omega
    rw [et]
    refine ⟨c3, (L1.take r).map fun x : Nat => (x : Int), rfl, SqL.of upd_same, by rw [List.length_map]; omega, fun ns' c4 pm srt hc4 => ?_⟩
    obtain ⟨ps, rfl, pp⟩ := nums_of_perm pm
    have hPl : PlOk es.length ps := plok_of p1 (List.take_sublist r L1) pp srt
    have lps : ps.length ≤ 3 := by rw [pp.length_eq]; exact lt3
    have b02 := b01.trans b2
    have s34 := (Same.updf (o := .lst (((L1.take r).map fun x : Nat => (x : Int)).map V.int)) hc3).trans (Same.updf (o := .lst ((ps.map fun x : Nat => (x : Int)).map V.int)) hc4)
    have h4 : (upd (upd H2 c3 (.lst (((L1.take r).map fun x : Nat => (x : Int)).map V.int))) c4 (.lst ((ps.map fun x : Nat => (x : Int)).map V.int))) c4 = some (.lst (numsV ps)) := by rw [upd_same, ← numsV_ints]
    obtain ⟨G0, eG⟩ : ∃ X, X = upd (upd H2 c3 (.lst (((L1.take r).map fun x : Nat => (x : Int)).map V.int))) c4 (.lst ((ps.map fun x : Nat => (x : Int)).map V.int)) := ⟨_, rfl⟩
    rw [← eG] at s34 h4 ⊢
    have PG := P2.same s34
    have bG : But pu H G0 := b02.trans (But.of s34)
    have hRG : RunOk K G0 a es := (hRo.same (but_off bG)).same (off_le _ _)
    have hWG : WtOk K G0 b es ws := (hWo.same (but_off bG)).same (off_le _ _)
    have TG : Tabs (TbK K) G0 := tabs_but bG (by obtain ⟨A0, B0, c0, i0, eP, _⟩ := hP; exact ⟨_, eP⟩) hT
    clear eG s34 hc4 hc3 e2 e1 b2 P2 b1 P1 b01 b02 n1 srt pm pp et lt3 ha ht lt ts p1 sR
    obtain ⟨ta, ha, lta, hta⟩ := hRG.at_.got
    obtain ⟨tb, hb, ltb, htb⟩ := hWG.at_.got
    refine norm (σ' := [some (.ref pu), some (.ref a), some (.ref b), some (.ref c4), none, none, none, none, none, none, none, none, none]) rfl ?_
    refine ⟨_, rfl, a, _, rfl, .inl (SqL.of ha), fun l1 hl1 => ?_⟩
    have x1 := Same.updf (o := .lst (ta.map V.ref)) hl1
    refine ⟨_, rfl, b, _, rfl, .inl (SqL.of (x1 _ _ hb)), fun l2 hl2 => ?_⟩
    have x2 := Same.updf (o := .lst (tb.map V.ref)) hl2
    refine ⟨_, rfl, c4, _, rfl, .inl (SqL.of ((x1.trans x2) _ _ h4)), fun l3 hl3 => ?_⟩
    have x3 := Same.updf (o := .lst (numsV ps)) hl3
    refine ⟨(by show 3 ≤ sizeLine; omega), fun lh hlh => ?_⟩
    have x4 := Same.updf (o := .lst [V.ref l1, V.ref l2, V.ref l3]) hlh
    have f1 := ((x2.trans x3).trans x4) _ _ (upd_same (a := l1) (o := .lst (ta.map V.ref)))
    have f2 := (x3.trans x4) _ _ (upd_same (a := l2) (o := .lst (tb.map V.ref)))
    have f3 := x4 _ _ (upd_same (a := l3) (o := .lst (numsV ps)))
    have x14 := ((x1.trans x2).trans x3).trans x4
    have f4 := upd_same (H := upd (upd (upd G0 l1 (.lst (ta.map V.ref))) l2 (.lst (tb.map V.ref))) l3 (.lst (numsV ps))) (a := lh) (o := .lst [V.ref l1, V.ref l2, V.ref l3])
    obtain ⟨G1, eG⟩ : ∃ X, X = upd (upd (upd (upd G0 l1 (.lst (ta.map V.ref))) l2 (.lst (tb.map V.ref))) l3 (.lst (numsV ps))) lh (.lst [V.ref l1, V.ref l2, V.ref l3]) := ⟨_, rfl⟩
    rw [← eG] at f1 f2 f3 f4 x14 ⊢
    clear eG x1 x2 x3 x4
    have R1 : RunOk K G1 l1 es := ⟨hRG.at_.copy ha x14 f1, hRG.ne, hRG.len⟩
    have W1 : WtOk K G1 l2 es ws := ⟨hWG.at_.copy hb x14 f2, hWG.ok, hWG.len⟩
    refine ⟨_, rfl, lh, _, 0, .ref l1, rfl, rfl, SqL.of f4, atI_nat (j := 0) rfl, _, rfl, lh, _, 2, .ref l3, rfl, rfl, SqL.of f4, atI_nat (j := 2) rfl, l1, l3, es, ps, rfl, R1, f3, hPl, fun q5 G2 s2 n5 h5 => ?_⟩
    have y12 := x14.trans s2
    refine ⟨_, rfl, _, rfl, (by show 1 ≤ sizeLine; omega), fun tb1 htb1 => ?_⟩
    have sb1 := Same.updf (o := .tup [V.str "barrier"]) htb1
    have y13 := y12.trans sb1
    refine ⟨a, c4, tb1, es, ps, rfl, hRG.at_.same y13, by omega, y13 _ _ h4, by omega, hPl.asc, SqT.of upd_same, fun q6 G3 s3 n6 h6 => ?_⟩
    refine ⟨(by show 2 ≤ sizeLine; omega), fun T5 hT5 => ?_⟩
    have sT5 := Same.updf (o := .tup [V.ref q5, V.ref q6]) hT5
    refine ⟨T5, [_, _], rfl, SqT.of upd_same, rfl, _, [_], rfl, _, [], rfl, rfl, ?_⟩
    have y24 := (sb1.trans s3).trans sT5
    have y14 := y12.trans y24
    have h5' := h5.same y24
    have h6' := h6.same sT5
    have g1 := (s2.trans y24) _ _ f1
    have g2 := (s2.trans y24) _ _ f2
    have g3 := (s2.trans y24) _ _ f3
    have g4 := (s2.trans y24) _ _ f4
    have n56 : q5 ≠ q6 := fun z => by
      obtain ⟨tt, e, _⟩ := (h5.same sb1).ex
      rw [z, n6] at e
      cases e
    have n5c : ∀ c o, G0 c = some o → c ≠ q5 := fun c o e z => by rw [← z, x14 _ _ e] at n5; cases n5
    have n5l : lh ≠ q5 := ne_of_none f4 n5
    obtain ⟨G4, eG⟩ : ∃ X, X = upd G3 T5 (.tup [V.ref q5, V.ref q6]) := ⟨_, rfl⟩
    rw [← eG] at y14 h5' h6' g1 g2 g3 g4 ⊢
    clear eG y24 sT5 s3 y13 sb1 y12 s2 f1 f2 f3 f4 x14 h5 h6
    refine via_nx ?_
    refine norm (σ' := [some (.ref pu), some (.ref a), some (.ref b), some (.ref c4), some (.ref lh), some (.ref q5), some (.ref q6), none, none, none, none, none, none]) rfl ?_
    refine ⟨_, rfl, a, _, rfl, .inl (SqL.of (y14 _ _ ha)), (es.length : Int), (by rw [List.length_map, lta]), by omega, by omega, fun D hD => ?_⟩
    rw [Int.toNat_natCast]
    refine lc_rel (walk_range (lo := 0) (n := es.length)) (fun _ => true) (fun i y G => ∃ T, y = .ref T ∧ G T = some (.tup [kV (ky i), .int (sent ps i : Int)])) (fun i y G G' s ⟨T, e, h⟩ => ⟨T, e, s _ _ h⟩) (by omega) hD (fun _ _ => trivial) ?_ ?_
    · rintro i v Ga Gb Qy Qn hi sa hacc ⟨rfl, rfl⟩ ky_ kn
      dsimp only
      rw [Int.zero_add]
      refine ⟨rfl, _, rfl, _, rfl, _, rfl, c4, rfl, ⟨_, SqL.of (sa _ _ (y14 _ _ h4))⟩, fun D2 hD2 => ?_⟩
      refine lc_nums (K := K) (l := ps) (fun p => decide (p < i + 1)) (by omega) (sa _ _ (y14 _ _ h4)) hD2 ?_ ?_
      · intro p Gc Qy Qn hp sc ky2 kn2
        refine ⟨rfl, _, rfl, _, rfl, _, _, rfl, rfl, _, _, rfl, rfl, _, rfl, ?_⟩
        by_cases c : p < i + 1
        · exact iteP (by omega) ⟨_, rfl, ky2 _ (Same.refl _) (decide_eq_true c)⟩
        · exact iteQ (by omega) (kn2 _ (Same.refl _) (decide_eq_false c))
      · intro Gc sc hc
        refine ⟨D2, _, rfl, .inl (SqL.of hc), _, _, rfl, rfl, (by show 2 ≤ sizeLine; omega), fun T hT => ?_⟩
        have es' : ((i : Nat) : Int) + (((numsV (ps.filter fun p => decide (p < i + 1))).length : Nat) : Int) = ((sent ps i : Nat) : Int) := by
          unfold sent numsV
          rw [List.length_map]
          omega
        obtain ⟨acc, hacc⟩ := hacc
        have nTD : T ≠ D := fun z => by rw [z, sc _ _ hacc] at hT; cases hT
        refine ky_ _ _ rfl (sc.trans (Same.updf hT)) ⟨T, rfl, ?_⟩
        rw [off_at nTD, upd_same]
        show some (HO.tup [V.int (i : Int), V.int (((i : Nat) : Int) + (((numsV (ps.filter fun p => decide (p < i + 1))).length : Nat) : Int))]) = _
        rw [es']
        rfl
    · intro G5 ys s5 hys py
      rw [List.filter_eq_self.mpr (fun _ _ => rfl)] at py
      obtain ⟨adrs, rfl, pa⟩ := pairs_addr (K := K) (f := fun i => (ky i, .int (sent ps i : Int))) py
      have pa2 := paired_mono' (fun x y h => SqT_up (off_le _ _) h) pa
      refine ⟨D, adrs, _, rfl, SqL.of hys, pa2, fun S hS => ?_⟩
      have ekv : (List.range es.length).map (fun i => (ky i, V.int (sent ps i : Int))) = dV (List.range es.length) fun p => .int (sent ps p : Int) := rfl
      rw [ekv, merge_dV0 List.nodup_range]
      have sS := Same.updf (o := .dK (dV (List.range es.length) fun p => .int (sent ps p : Int))) hS
      have fS := upd_same (H := G5) (a := S) (o := .dK (dV (List.range es.length) fun p => .int (sent ps p : Int)))
      have y16 := y14.trans (s5.trans sS)
      have h56 := h5'.same (s5.trans sS)
      have h66 := h6'.same (s5.trans sS)
      have k1 := (s5.trans sS) _ _ g1
      have k2 := (s5.trans sS) _ _ g2
      have k3 := (s5.trans sS) _ _ g3
      have k4 := (s5.trans sS) _ _ g4
      obtain ⟨G6, eG⟩ : ∃ X, X = upd G5 S (.dK (dV (List.range es.length) fun p => .int (sent ps p : Int))) := ⟨_, rfl⟩
      rw [← eG] at fS y16 h56 h66 k1 k2 k3 k4 ⊢
      clear eG sS s5 y14 h5' h6' g1 g2 g3 g4 hys pa pa2 py hD
      refine norm (σ' := [some (.ref pu), some (.ref a), some (.ref b), some (.ref c4), some (.ref lh), some (.ref q5), some (.ref q6), none, some (.ref S), none, none, none, none]) rfl ?_
      have R6 : RunOk K G6 l1 es := ⟨hRG.at_.copy ha y16 k1, hRG.ne, hRG.len⟩
      have W6 : WtOk K G6 l2 es ws := ⟨hWG.at_.copy hb y16 k2, hWG.ok, hWG.len⟩
      refine ⟨_, rfl, lh, _, 0, .ref l1, rfl, rfl, SqL.of k4, atI_nat (j := 0) rfl, _, rfl, lh, _, 1, .ref l2, rfl, rfl, SqL.of k4, atI_nat (j := 1) rfl, _, rfl, lh, _, 2, .ref l3, rfl, rfl, SqL.of k4, atI_nat (j := 2) rfl, ?_⟩
      refine ⟨l1, l2, l3, es, ws, ps, rfl, R6, W6, k3, hPl, fun q7 G7 s7 n7 h7 => ?_⟩
      have y17 := y16.trans s7
      have h57 := h56.same s7
      have h67 := h66.same s7
      have fS7 := s7 _ _ fS
      have k17 := s7 _ _ k1
      have k27 := s7 _ _ k2
      have k37 := s7 _ _ k3
      have k47 := s7 _ _ k4
      have nq7 : ∀ c o, G6 c = some o → c ≠ q7 := fun c o e => ne_of_none e n7
      have nq70 : ∀ c o, G0 c = some o → c ≠ q7 := fun c o e => nq7 c o (y16 _ _ e)
      have n57 : q5 ≠ q7 := by
        obtain ⟨tt, e, _⟩ := h56.ex
        exact nq7 _ _ e
      have n67 : q6 ≠ q7 := by
        obtain ⟨tt, e, _⟩ := h66.ex
        exact nq7 _ _ e
      have lwr := wr_len3 hPl
      have lmv : (movedL ps ws).length = ws.length := List.length_map _
      have lw1000 := hWG.len
      refine via_nx ?_
      refine norm (σ' := [some (.ref pu), some (.ref a), some (.ref b), some (.ref c4), some (.ref lh), some (.ref q5), some (.ref q6), some (.ref q7), some (.ref S), none, none, none, none]) rfl ?_
      clear R6 W6 y16 h56 h66 fS k1 k2 k3 k4 R1 W1
      refine ⟨_, rfl, _, rfl, _, rfl, (by show 3 ≤ sizeLine; omega), fun la hla => ?_⟩
      have sa := Same.updf (o := .lst [V.ref q5, V.ref q7, V.ref lh]) hla
      have fa := upd_same (H := G7) (a := la) (o := .lst [V.ref q5, V.ref q7, V.ref lh])
      obtain ⟨G8, eG⟩ : ∃ X, X = upd G7 la (.lst [V.ref q5, V.ref q7, V.ref lh]) := ⟨_, rfl⟩
      rw [← eG] at sa fa ⊢
      clear eG
      refine ⟨_, rfl, _, rfl, b, rfl, ⟨_, SqL.of (sa _ _ (y17 _ _ hb))⟩, fun D3 hD3 => ?_⟩
      have W8 := hWG.same (y17.trans sa)
      refine ls_rel (xs := ws) (vv := wv) (fun _ => true) (fun x y G => ∃ t, y = .ref t ∧ SqT K G t (wv (sent ps x.1, sent ps x.2))) (fun x y G G' s ⟨t, h1, h2⟩ => ⟨t, h1, SqT_up s h2⟩) (by omega) W8.at_ hD3 ?_ ?_
      · rintro x t Ga Qy Qn hm sx hacc hx hxo ky_ kn
        have ok := hWG.ok.ok x hm
        have l1 := ok.lt
        have l2 := ok.len
        have fx := sx _ _ (sa _ _ fS7)
        have dg : ∀ i, i < es.length → DGet Ga S (.int (i : Int)) (some (.int (sent ps i : Int))) := fun i hi => .inl ⟨_, ky i, .inl fx, rfl, (dV_val (f := fun p => V.int (sent ps p : Int)) (List.mem_range.mpr hi)).symm⟩
        refine ⟨t, [_, _], rfl, hx, rfl, _, [_], rfl, _, [], rfl, rfl, ?_⟩
        refine ⟨rfl, _, rfl, _, rfl, S, _, rfl, dg x.1 (by omega), _, rfl, _, rfl, S, _, rfl, dg x.2 l2, (by show 2 ≤ sizeLine; omega), fun T hT => ?_⟩
        obtain ⟨acc, hacc⟩ := hacc
        refine ky_ _ _ rfl (Same.updf hT) ⟨T, rfl, SqT.of ?_⟩
        rw [off_at (fun z => by rw [z, hacc] at hT; cases hT)]
        exact upd_same
      · intro G9 ys s9 hys py
        rw [List.filter_eq_self.mpr (fun _ _ => rfl)] at py
        have hWD : WtAt K G9 D3 (movedL ps ws) := by
          obtain ⟨ts', e1, e2, e3⟩ := (LsT.of_paired (vv := fun x : Nat × Nat => wv (sent ps x.1, sent ps x.2)) hys (paired_mono (fun x y ⟨t, e, h⟩ => ⟨t, e, SqT_up (off_le _ _) h⟩) py)).ex
          refine ⟨ts', e1, by rw [lmv, e2], fun i t x h1 h2 => ?_⟩
          unfold movedL at h2
          rw [List.getElem?_map] at h2
          obtain ⟨v, q1, rfl⟩ := Option.map_eq_some_iff.mp h2
          exact e3 i t v h1 q1
        refine ⟨_, rfl, _, rfl, _, rfl, (by show 3 ≤ sizeLine; omega), fun lb1 hlb1 => ⟨(by show 3 ≤ sizeLine; omega), fun lc1 hlc1 => ?_⟩⟩
        have sb := Same.updf (o := .lst [V.ref a, V.ref b, V.ref c4]) hlb1
        have sc := Same.updf (o := .lst [V.ref q6, V.ref D3, V.ref lb1]) hlc1
        have s8c := (sa.trans s9).trans (sb.trans sc)
        have fb := sc _ _ (upd_same (H := G9) (a := lb1) (o := .lst [V.ref a, V.ref b, V.ref c4]))
        have fc := upd_same (H := upd G9 lb1 (.lst [V.ref a, V.ref b, V.ref c4])) (a := lc1) (o := .lst [V.ref q6, V.ref D3, V.ref lb1])
        have fa' := (s9.trans (sb.trans sc)) _ _ fa
        have hWD' := hWD.same (sb.trans sc)
        obtain ⟨Gc, eG⟩ : ∃ X, X = upd (upd G9 lb1 (.lst [V.ref a, V.ref b, V.ref c4])) lc1 (.lst [V.ref q6, V.ref D3, V.ref lb1]) := ⟨_, rfl⟩
        rw [← eG] at s8c fb fc fa' hWD' ⊢
        clear eG sb sc s9 sa fa hWD hys py
        have y1c := y17.trans s8c
        have td3 : ∀ (x1 x2 x3 q : Addr), RunAt K Gc x1 es → WtAt K Gc x2 ws → Gc x3 = some (.lst (numsV ps)) → Gc q = some (.lst [.ref x1, .ref x2, .ref x3]) → TD K Gc 8 (.ref q) (.list [.list (es.map Ev.d), .list (ws.map pd), .list (ps.map fun x : Nat => PyData.int (x : Int))]) := fun x1 x2 x3 q e1 e2 e3 e4 =>
          TD.lst e4 rfl (Nat.le_of_ble_eq_true rfl) (td_cons (run_td 5 e1 (by omega)) (td_cons (wts_td 5 e2 (by omega)) (td_cons (nums_td 6 e3 (by omega)) td_nil)))
        have t1 := td3 l1 l2 l3 lh (hRG.at_.copy ha y1c (s8c _ _ k17)) (hWG.at_.copy hb y1c (s8c _ _ k27)) (s8c _ _ k37) (s8c _ _ k47)
        have t2 := td3 a b c4 lb1 (hRG.at_.same y1c) (hWG.at_.same y1c) (y1c _ _ h4) fb
        refine ⟨.ref la, .ref lc1, .list [.list ((wr es ps es.length).map Ev.d), .list ((movedL ps ws).map pd), .list [.list (es.map Ev.d), .list (ws.map pd), .list (ps.map fun x : Nat => PyData.int (x : Int))]], rfl,
          TD.lst fa' rfl (Nat.le_of_ble_eq_true rfl) (td_cons (run_td 6 (h57.same s8c) (by omega)) (td_cons (wts_td 6 (h7.same s8c) (by omega)) (td_cons t1 td_nil))),
          TD.lst fc rfl (Nat.le_of_ble_eq_true rfl) (td_cons (run_td 6 (h67.same s8c) (by omega)) (td_cons (wts_td 6 hWD' (by omega)) (td_cons t2 td_nil))), fun Gd sd => ⟨_, rfl, iteF ?_⟩⟩
        have y1d := y1c.trans sd
        have s7d := s8c.trans sd
        have h5d := h57.same s7d
        have h6d := h67.same s7d
        have h7d := h7.same s7d
        have fSd := s7d _ _ fS7
        clear t1 t2 td3 fa' fb fc hWD' s8c y1c k17 k27 k37 k47 h57 h67 h7 fS7 W8
        refine via_nx ?_
        have hRd := hRG.same y1d
        obtain ⟨tr, har, ltr, htr⟩ := hRd.at_.got
        obtain ⟨t5, h5x, lt5, ht5⟩ := h5d.got
        refine ⟨_, rfl, a, _, rfl, .inl (SqL.of har), (es.length : Int), (by rw [List.length_map, ltr]), by omega, by omega, fun D4 hD4 => ?_⟩
        rw [Int.toNat_natCast]
        refine lc_sel (walk_range (lo := 0) (n := es.length)) (fun _ => some (.bl true)) (by omega) hD4 (fun _ _ => trivial) ?_ ?_
        · rintro i x Gz Ga Qy Qn hi sx ⟨rfl, rfl⟩ ky_ kn
          dsimp only
          rw [Int.zero_add]
          have gl := sent_le_len hPl.nd hi
          obtain ⟨u5, e5, w5⟩ := ht5 (sent ps i) gl
          obtain ⟨u1, e1, w1⟩ := htr i hi
          have eq : (wr es ps es.length)[sent ps i] = es[i] := by
            have := wr_get hPl.nd hi
            rw [List.getElem?_eq_getElem gl, List.getElem?_eq_getElem hi] at this
            exact Option.some.inj this
          have dg : DGet Ga S (.int (i : Int)) (some (.int (sent ps i : Int))) := .inl ⟨_, ky i, .inl (sx _ _ fSd), rfl, (dV_val (f := fun p => V.int (sent ps p : Int)) (List.mem_range.mpr hi)).symm⟩
          refine ⟨rfl, _, rfl, _, rfl, _, rfl, S, _, rfl, dg, q5, _, _, _, rfl, rfl, SqL.of (sx _ _ h5x), atI_nat e5, ?_⟩
          refine ⟨_, rfl, _, rfl, a, _, _, _, rfl, rfl, SqL.of (sx _ _ har), atI_nat e1, ?_⟩
          refine ⟨_, _, Ev.dp (SqT_up sx w5), Ev.dp (SqT_up sx w1), shaped_ev _, shaped_ev _, ?_⟩
          rw [eqv_ev, eq, decide_eq_true rfl]
          exact ky_ _ _ (Same.refl _) rfl
        · intro Ge se hR2
          obtain ⟨bs, hB, hbt⟩ := all_bits (K := K) hR2
          refine ⟨D4, bs, rfl, hB, ?_⟩
          rw [hbt]
          refine ⟨_, rfl, iteF ?_⟩
          have y1e := y1d.trans se
          refine via_nx ?_
          refine ⟨_, rfl, _, rfl, a, b, es, ws, rfl, hRG.same y1e, hWG.same y1e, tabs_same y1e TG, fun qe Gf eF TF nF hF => ?_⟩
          have hPe := ends_ok hWG.ok
          have y1f : ExtN G0 Gf := (ExtN.of y1e).trans eF
          have Rf := hRG.ext y1f
          have Wf := hWG.ext y1f
          have sdf := (ExtN.of (se)).trans eF
          have h5f := h5d.ext sdf
          have h6f := h6d.ext sdf
          have h7f := h7d.ext sdf
          have h4f := y1f _ _ h4 (fun ps z => by cases z)
          refine norm (σ' := [some (.ref pu), some (.ref a), some (.ref b), some (.ref c4), some (.ref lh), some (.ref q5), some (.ref q6), some (.ref q7), some (.ref S), some (.ref qe), none, none, none]) rfl ?_
          refine ⟨_, rfl, _, rfl, a, qe, es, _, rfl, Rf, hF, hPe, fun r1 Gg sg m1 i1 => ?_⟩
          refine ⟨_, rfl, _, rfl, _, rfl, a, b, qe, es, ws, _, rfl, Rf.same sg, Wf.same sg, sg _ _ hF, hPe, fun r2 Gh sh m2 i2 => ?_⟩
          have lwe := wr_len3 hPe
          have nwe : wr es (ends (brokenL es ws)) es.length ≠ [] := fun z => by
            have hp : 0 < es.length := List.length_pos_iff.mpr hRG.ne
            have := sent_le_len (es := es) hPe.nd hp
            rw [z] at this
            exact Nat.not_lt_zero _ this
          have lm2 : (movedL (ends (brokenL es ws)) ws).length = ws.length := List.length_map _
          refine ⟨r1, r2, _, _, rfl, ⟨i1.same sh, nwe, by omega⟩, ⟨i2, waits_wr hPe.nd hWG.ok, by omega⟩, fun r3 Gi si m3 i3 => ?_⟩
          rw [none_broken hPe.nd hWG.ok (ends_stab hWG.ok)] at i3
          obtain ⟨t3, z1, z2, _⟩ := i3.ex
          obtain rfl : t3 = [] := List.length_eq_zero_iff.mp z2
          refine ⟨(by show 0 ≤ sizeLine; omega), fun e0 he0 => ?_⟩
          have s0 := Same.updf (o := .lst []) he0
          refine ⟨r3, e0, _, rfl, rfl, SqL.of (s0 _ _ z1), SqL.of upd_same, _, rfl, iteF ?_⟩
          have sgi := (sg.trans sh).trans (si.trans s0)
          have Rj := Rf.same sgi
          have h5j := h5f.same sgi
          have h6j := h6f.same sgi
          have h7j := h7f.same sgi
          have h4j := sgi _ _ h4f
          have Tj := tabs_same sgi TF
          have y1j : ExtN G0 (upd Gi e0 (.lst [])) := y1f.trans (ExtN.of sgi)
          obtain ⟨Gj, eG⟩ : ∃ X, X = upd Gi e0 (.lst []) := ⟨_, rfl⟩
          rw [← eG] at Rj h5j h6j h7j h4j Tj y1j ⊢
          clear eG sgi s0
          refine via_nx ?_
          obtain ⟨v5, u5, lv5, _⟩ := id h5j.ex
          obtain ⟨v7, u7, lv7, _⟩ := id h7j.ex
          refine ⟨_, rfl, Or.inl ⟨rfl, _, SqL.of u5⟩, q5, _, _, rfl, rfl, u5, (by rw [List.length_map]; omega), ?_⟩
          have w7 : (upd Gj q5 (.lst (v5.map V.ref ++ [V.non]))) q7 = some (.lst (v7.map V.ref)) := by rw [upd_ne n57.symm]; exact u7
          refine via_nx ?_
          refine ⟨_, rfl, Or.inl ⟨rfl, _, SqL.of w7⟩, q7, _, _, rfl, rfl, w7, (by rw [List.length_map]; omega), ?_⟩
          have bk : ∀ c o, ¬ (c = q5 ∨ c = q7) → Gj c = some o → (upd (upd Gj q5 (.lst (v5.map V.ref ++ [V.non]))) q7 (.lst (v7.map V.ref ++ [V.non]))) c = some o := fun c o n e => by
            rw [upd_ne (fun z => n (.inr z)), upd_ne (fun z => n (.inl z))]
            exact e
          have hS : ∀ p, (p = q5 ∨ p = q7) → ∃ l, Gj p = some (.lst l) := fun p hp => by
            rcases hp with rfl | rfl
            · exact ⟨_, u5⟩
            · exact ⟨_, u7⟩
          have n0 : ∀ c o, G0 c = some o → ¬ (c = q5 ∨ c = q7) := fun c o e z => z.elim (n5c c o e) (nq70 c o e)
          have Tk := tabs_but (K := K) (But.upd' (p := q7) (H := upd Gj q5 (.lst (v5.map V.ref ++ [V.non]))) (o := .lst (v7.map V.ref ++ [V.non]))) ⟨_, w7⟩ (tabs_but (K := K) (But.upd' (p := q5) (H := Gj) (o := .lst (v5.map V.ref ++ [V.non]))) ⟨_, u5⟩ Tj)
          have Rk : RunOk K _ a es := ⟨Rj.at_.butS bk hS (n0 a _ ha), Rj.ne, Rj.len⟩
          have h6k := h6j.butS bk hS (fun z => z.elim (fun z => n56 z.symm) n67)
          have h4k := bk _ _ (n0 c4 _ h4) h4j
          obtain ⟨Gk, eG⟩ : ∃ X, X = upd (upd Gj q5 (.lst (v5.map V.ref ++ [V.non]))) q7 (.lst (v7.map V.ref ++ [V.non])) := ⟨_, rfl⟩
          rw [← eG] at bk Tk Rk h6k h4k ⊢
          clear eG w7 u5 u7 hS
          refine via_nx ?_
          refine ⟨_, rfl, _, rfl, a, c4, es, ps, rfl, Rk, h4k, hPl, fun r4 Gl sl4 m4' i4 => ?_⟩
          refine ⟨_, rfl, (by show 0 ≤ sizeLine; omega), fun e1 he1 => ?_⟩
          have s1 := Same.updf (o := .lst []) he1
          refine ⟨a, e1, es, [], rfl, Rk.same (sl4.trans s1), upd_same, ⟨.nil, fun p h => nomatch h⟩, fun r5 Gm sm m5 i5 => ?_⟩
          rw [wr_nil, List.take_length] at i5
          refine ⟨(by show 2 ≤ sizeLine; omega), fun la2 hla2 => ?_⟩
          have s2 := Same.updf (o := .lst [V.ref r4, V.ref r5]) hla2
          refine ⟨_, rfl, _, rfl, (by show 2 ≤ sizeLine; omega), fun lb2 hlb2 => ?_⟩
          have s3 := Same.updf (o := .lst [V.ref q6, V.ref a]) hlb2
          have sk := (sl4.trans s1).trans (sm.trans (s2.trans s3))
          refine ⟨_, _, .list [.list ((wr es ps es.length).map Ev.d), .list (es.map Ev.d)], rfl,
            TD.lst (s3 _ _ (upd_same (a := la2) (o := .lst [V.ref r4, V.ref r5]))) rfl (Nat.le_of_ble_eq_true rfl) (td_cons (run_td 6 (i4.same (s1.trans (sm.trans (s2.trans s3)))) (by omega)) (td_cons (run_td 6 (i5.same (s2.trans s3)) (by omega)) td_nil)),
            TD.lst upd_same rfl (Nat.le_of_ble_eq_true rfl) (td_cons (run_td 6 (h6k.same sk) (by omega)) (td_cons (run_td 6 (Rk.at_.same sk) (by omega)) td_nil)), fun Gn sn => ?_⟩
          have skn := sk.trans sn
          have fin : ∀ c o, G0 c = some o → (∀ ps, o ≠ .tbl ps) → Gn c = some o := fun c o e nt => skn _ _ (bk _ _ (n0 c o e) (y1j _ _ e nt))
          refine k _ (fun c o n e nt => fin c o (bG c o n e) nt) ?_ (tabs_same skn Tk)
          obtain ⟨A0, B0, c0, i0, eP, r1', r2', r3', r4'⟩ := PG.at_
          exact Purse.mono ⟨A0, B0, c0, i0, fin _ _ eP (fun ps z => by cases z), r1', r2', r3', r4'⟩ (by omega)
end
end K18
set_option Elab.async false
set_option linter.all false
set_option maxRecDepth 100000
set_option maxHeartbeats 8000000
/-! Moments that serve, by the law. -/
namespace K18
open PySem PySem.Spec PyProof.Rows L2 KB LamX
def spOwnServed (K : PySem.W.Frag) : Sp := fun vs H Q _ => ∃ (b c : Addr) (ws : List (Nat × Nat)) (ms : List Nat), vs = [.ref b, .ref c] ∧ WtAt K H b ws ∧ ws.length ≤ 20 ∧ H c = some (.lst (numsV ms)) ∧ ms.length ≤ 20 ∧ ∀ q H', Same H H' → H q = none → LLs H H' q ((List.range ms.length).map (ownAt ws ms)) → Q (.ref q) H'
def spAllS (K : PySem.W.Frag) : Sp := fun vs H Q _ => ∃ (b c : Addr) (ws : List (Nat × Nat)) (ms : List Nat), vs = [.ref b, .ref c] ∧ WtAt K H b ws ∧ ws.length ≤ 100 ∧ H c = some (.lst (numsV ms)) ∧ ms.length ≤ 100 ∧ ∀ H', Same H H' → Q (.bl (served ws ms)) H'
def spLeastS (K : PySem.W.Frag) : Sp := fun vs H Q _ => ∃ (b : Addr) (ws : List (Nat × Nat)), vs = [.ref b] ∧ WtAt K H b ws ∧ (∀ w ∈ ws, w.1 < w.2 ∧ w.2 ≤ 10) ∧ ws.length ≤ 5 ∧ ∀ H', Same H H' → Q (.int ((ends ws).length : Nat)) H'
theorem ends_len {ws : List (Nat × Nat)} : (ends ws).length ≤ ws.length := by
  have h1 := (greedy_sub (byEnd ws) 0).length_le
  have h2 : (byEnd ws).length = ws.length := List.length_mergeSort _
  unfold ends apart
  rw [List.length_map]
  omega
theorem ends_pl {ws : List (Nat × Nat)} {n : Nat} (h : ∀ w ∈ ws, w.1 < w.2 ∧ w.2 < n) : PlOk n (ends ws) := by
  have hl : ∀ w ∈ ws, w.1 < w.2 := fun w hw => (h w hw).1
  refine ⟨ends_asc hl, fun p hp => ?_⟩
  obtain ⟨g, hg, rfl⟩ := List.mem_map.mp hp
  exact (h g (apart_mem hl hg)).2
theorem ownAt_len (ws : List (Nat × Nat)) (ms : List Nat) (i : Nat) : (ownAt ws ms i).length ≤ ws.length := by
  have := List.length_filter_le (fun k => !(ownDone ws ms i).contains k && (decide ((ws.getD k (0, 0)).1 < ms.getD i 0) && decide (ms.getD i 0 < (ws.getD k (0, 0)).2 + 1))) (List.range ws.length)
  rw [List.length_range] at this
  exact this
theorem ownDone_len (ws : List (Nat × Nat)) (ms : List Nat) : ∀ i, (ownDone ws ms i).length ≤ i * ws.length
  | 0 => Nat.zero_le _
  | i + 1 => by
    show (ownDone ws ms i ++ ownAt ws ms i).length ≤ _
    have h1 := ownDone_len ws ms i
    have h2 := ownAt_len ws ms i
    rw [List.length_append, Nat.succ_mul]
    omega
/-- a comprehension that asks a Bool of each list of numbers -/
theorem lls_bools {K : PySem.W.Frag} {PS : List (List Nat)} {ys : List V} {a : Addr} {g : TG} {tt : TT} {te : TE} {vs : List Nat} {σ : L2.St} {H1 : Hp} {D : Addr} {Qd : Hp → Prop} (c : List Nat → Bool) (hn : PS.length ≤ 100000) (ha : H1 a = some (.lst ys)) (py : Paired (LsAt H1) PS ys) (hD : H1 D = none)
    (hs : ∀ x t H (Qy : V → Hp → Prop) (Qn : Hp → Prop), x ∈ PS → Same H1 H → H t = some (.lst (numsV x)) → (∀ H4, Same H H4 → Qy (.bl (c x)) H4) →
      g (.ref t) (wipe σ vs) H fun σ2 H2 => wipe σ2 vs = wipe σ vs ∧ tt σ2 H2 fun b H3 => if b = true then te σ2 H3 Qy else Qn H3)
    (hd : ∀ H, Same H1 H → H D = some (.lst ((PS.map c).map V.bl)) → Qd H) :
    ∃ W : Nat → Nat → Hp → Prop, (∃ m, W 0 m (upd H1 D (.lst []))) ∧ ∀ i m H, W i m H →
      ((Itl K a).stop i H ∧ Qd H) ∨ ((Itl K a).go i H ∧ ∃ Nx : Hp → Prop, (∀ H', Nx H' → ∃ m', m' < m ∧ W (i + 1) m' H') ∧ ∀ x H', (Itl K a).yld i H x H' → g x (wipe σ vs) H' fun σ2 H2 => wipe σ2 vs = wipe σ vs ∧ tt σ2 H2 fun b H3 =>
        if b = true then te σ2 H3 fun y H4 => ∃ acc, H4 D = some (.lst acc) ∧ acc.length < sizeLine ∧ Nx (upd H4 D (.lst (acc ++ [y]))) else Nx H3) := by
  have ly := paired_len py
  refine lc_sel (n := PS.length) (by have := walk_list (K := K) (a := a) (xs := ys); rw [← ly] at this; exact this) (fun j => (PS[j]?).map fun x => V.bl (c x)) hn hD (fun H2 s3 => SqL.of (s3 _ _ ha)) ?_ ?_
  · rintro j v H5 H6 Qy Qn hj s5 ⟨rfl, hy⟩ ky_ kn
    obtain ⟨x, e1, t, rfl, e2⟩ := paired_get2 py hy
    have ex : PS[j] = x := by
      rw [List.getElem?_eq_getElem hj] at e1
      exact Option.some.inj e1
    exact hs x t _ Qy Qn (List.mem_of_getElem? e1) s5 (s5 _ _ e2) fun H4 s4 => ky_ _ _ s4 (by rw [e1]; rfl)
  · intro H2 s2 hR
    refine hd H2 s2 ?_
    rw [hR, fm_all (fun x => V.bl (c x)) PS, List.map_map]
    rfl
section
variable {P : Program} {w : World} {K : PySem.W.Frag} {mg : Str → Option Value} {base : Heap}
abbrev s_all_served : Stmt := top 58
abbrev N_all_served : List Str := ["_law_due", "_law_moments", "_law_ready", "_law_late", "_law_moment"]
theorem sc_all_served : FnScope N_all_served ["_law_due", "_law_moments"] (defScope s_all_served) := ⟨rfl, rfl, rfl, by decide +kernel, rfl, by decide +kernel, by decide +kernel⟩
theorem ok_all_served {f : Addr} {fd : FuncData} (F : FnP K "_law_all_served" s_all_served f fd) (Z : FreeS mg) :
    FnOk P w K mg base CX0 1 f fd ["_law_due", "_law_moments"] (spAllS K) := by
  refine F.ok sc_all_served (fun vs H Q E h => ?_) (fun cdv A outer s H vs Q E hr h => ?_)
  · obtain ⟨b, c, ws, ms, rfl, _⟩ := h
    rfl
  · obtain ⟨b, c, ws, ms, rfl, hW, lw, hc, lm, k⟩ := h
    have sl : (10000 : Nat) ≤ sizeLine := by decide
    obtain ⟨tw, hb, ltw, htw⟩ := hW.got
    have nd := sc_all_served.nd
    refine ⟨_, PSs.nox (pss_one (ps_ret (pe_callB (cr_all rfl) (by rfl) Z.all (by decide +kernel) (pa_cons (pe_lc (own := [("_law_ready", 2), ("_law_late", 3)]) (g := gTup K 2 (gCons (gName 2) (gCons (gName 3) (gNil)))) (tt := tYes) (te := tCB (rAny K) (tCons (tLc (iList K (tVar 1)) (gName 4) (tYes) (tChain (rI0 fun i j => .bl (decide (i < j))) (rI0 fun i j => .bl (decide (i < j))) (tVar 2) (tVar 4) (tOp (rI0 fun i j => .int (i + j)) (tVar 3) (tC (.int 1)))) [4]) (tNil))) (by rfl) nd (pi_list (pv 0))
          (blkOk_by (own := [("_law_ready", 2), ("_law_late", 3)]) (N := N_all_served) (sc := defScope s_all_served) (by decide +kernel)) (fun _ _ _ _ _ => pg_tup rfl (pgs_cons (pg_name (i := 2) nd rfl (Or.inr rfl)) (pgs_cons (pg_name (i := 3) nd rfl (Or.inr rfl)) (pgs_nil)))) (fun _ _ _ _ _ => pts_nil)
          (fun _ _ _ _ _ => pe_callB (cr_any rfl) (by rfl) Z.any (by decide +kernel) (pa_cons (pe_lc (own := [("_law_moment", 4)]) (g := gName 4) (tt := tYes) (te := tChain (rI0 fun i j => .bl (decide (i < j))) (rI0 fun i j => .bl (decide (i < j))) (tVar 2) (tVar 4) (tOp (rI0 fun i j => .int (i + j)) (tVar 3) (tC (.int 1)))) (by rfl) nd (pi_list (pv 1))
          (blkOk_by (own := [("_law_moment", 4)]) (N := N_all_served) (sc := ({ kind := .function, names := [(".0", .local), ("_law_ready", .cell), ("_law_late", .cell), ("any", .globalImplicit), ("_law_moments", .cell)], isGenerator := false, isCoroutine := false } : Scope)) (by decide +kernel)) (fun _ _ _ _ _ => pg_name (i := 4) nd rfl (Or.inl rfl)) (fun _ _ _ _ _ => pts_nil)
          (fun _ _ _ _ _ => pe_chain op_lt op_lt (pv 2) (pv 4) (pe_op op_add (pv 3) (pe_int)))) (pa_nil)))) (pa_nil))))), ?_⟩
    refine ⟨_, rfl, b, rfl, ⟨_, SqL.of hb⟩, fun D hD => ?_⟩
    refine ls_bools (xs := ws) (vv := wv) (fun w => ms.any fun p => stab p w) (by omega) hW hD ?_ ?_
    · rintro x t Ga Qy Qn hm sa hx ky_
      refine ⟨t, [_, _], rfl, hx, rfl, _, [_], rfl, _, [], rfl, rfl, rfl, ?_⟩
      refine ⟨_, rfl, c, rfl, ⟨_, SqL.of (sa _ _ hc)⟩, fun D2 hD2 => ?_⟩
      refine lc_bools (K := K) (l := ms) (fun p => stab p x) (by omega) (sa _ _ hc) hD2 ?_ ?_
      · intro p Gb Qy2 Qn2 hp sb ky2
        have k2 := ky2 _ (Same.refl _)
        refine ⟨rfl, _, rfl, _, rfl, _, _, rfl, rfl, _, rfl, ?_⟩
        unfold stab at k2
        by_cases c1 : x.1 < p
        · rw [decide_eq_true c1] at k2
          refine iteP (by omega) ⟨_, rfl, _, _, rfl, rfl, _, _, rfl, rfl, ?_⟩
          show Qy2 (.bl (decide ((p : Int) < (x.2 : Int) + 1))) _
          rw [show decide ((p : Int) < (x.2 : Int) + 1) = decide (p ≤ x.2) from decide_eq_decide.mpr (by omega)]
          exact k2
        · rw [decide_eq_false c1] at k2
          exact iteQ (by omega) k2
      · intro Gb sb hB
        refine ⟨D2, _, rfl, SqL.of hB, ?_⟩
        rw [List.any_map]
        exact ky_ _ sb
    · intro Gb sb hB
      refine ⟨D, _, rfl, SqL.of hB, ?_⟩
      rw [List.all_map]
      exact k _ sb
abbrev s_least_served : Stmt := top 56
abbrev N_least_served : List Str := ["_law_due", "_law_size", "_law_some"]
theorem sc_least_served : FnScope N_least_served ["_law_due"] (defScope s_least_served) := ⟨rfl, rfl, rfl, by decide +kernel, rfl, by decide +kernel, by decide +kernel⟩
theorem ok_least_served {f : Addr} {fd : FuncData} (F : FnP K "_law_least_served" s_least_served f fd) (Z : FreeS mg)
    {f_all_served : Addr} {d_all_served : FuncData} (g_all_served : mg "_law_all_served" = some (.ref f_all_served)) (F_all_served : FnP K "_law_all_served" s_all_served f_all_served d_all_served) (G_all_served : FnOk P w K mg base CX0 1 f_all_served d_all_served ["_law_due", "_law_moments"] (spAllS K))
    {f_place_lists : Addr} {d_place_lists : FuncData} (g_place_lists : mg "_law_place_lists" = some (.ref f_place_lists)) (F_place_lists : FnP K "_law_place_lists" s_place_lists f_place_lists d_place_lists) (G_place_lists : FnOk P w K mg base CX0 1 f_place_lists d_place_lists ["_law_many", "_law_size"] (spPlaceL K)) :
    FnOk P w K mg base CX0 2 f fd ["_law_due"] (spLeastS K) := by
  have b_all_served : Binds K d_all_served ["_law_due", "_law_moments"] [] := F_all_served.bindsN fun _ _ _ _ _ _ us hl => match us, hl with | [_, _], _ => rfl
  have b_place_lists : Binds K d_place_lists ["_law_many", "_law_size"] [] := F_place_lists.bindsN fun _ _ _ _ _ _ us hl => match us, hl with | [_, _], _ => rfl
  refine F.ok sc_least_served (fun vs H Q E h => ?_) (fun cdv A outer s H vs Q E hr h => ?_)
  · obtain ⟨b, ws, rfl, _⟩ := h
    rfl
  · obtain ⟨b, ws, rfl, hW, h10, l5, k⟩ := h
    have sl : (10000 : Nat) ≤ sizeLine := by decide
    have nd := sc_least_served.nd
    refine ⟨_, PSs.nox (pss_cons (ps_for PassesOwn.never rfl (pi_range1 (by rfl) Z.range (pa_cons (pe_int) (pa_nil))) (pg_name (i := 1) nd rfl (Or.inl rfl))
        (pss_one (ps_if (pt_val (pe_callB (cr_any rfl) (by rfl) Z.any (by decide +kernel) (pa_cons (pe_lc (own := [("_law_some", 2)]) (g := gName 2) (tt := tYes) (te := tCall (spAllS K) [] E0 (tCons (tVar 0) (tCons (tVar 2) (tNil)))) (by rfl) nd (pi_list (pe_call G_place_lists (hr.mono (by decide)) rfl g_place_lists F_place_lists.kp b_place_lists .nil pass0 (pa_cons (pe_int) (pa_cons (pv 1) (pa_nil)))))
          (blkOk_by (own := [("_law_some", 2)]) (N := N_least_served) (sc := defScope s_least_served) (by decide +kernel)) (fun _ _ _ _ _ => pg_name (i := 2) nd rfl (Or.inl rfl)) (fun _ _ _ _ _ => pts_nil)
          (fun _ _ _ _ _ => pe_call G_all_served (hr.mono (by decide)) rfl g_all_served F_all_served.kp b_all_served .nil pass0 (pa_cons (pv 0) (pa_cons (pv 2) (pa_nil))))) (pa_nil)))) (pss_one (ps_ret (pv 1))) (pss_nil))))
      (pss_one (ps_ret (pe_int)))), ?_⟩
    have le5 := Nat.le_trans (ends_len (ws := ws)) l5
    have hl : ∀ w ∈ ws, w.1 < w.2 := fun w hw => (h10 w hw).1
    have pl : PlOk 11 (ends ws) := ends_pl fun w hw => ⟨(h10 w hw).1, by have := (h10 w hw).2; omega⟩
    refine ⟨_, rfl, by decide, by decide, ?_⟩
    refine for_range (lo := 0) (n := 6) (fun i σ G => Same H G ∧ i ≤ (ends ws).length ∧ ∃ v1, σ = [some (.ref b), v1, none])
      ⟨Same.refl _, Nat.zero_le _, none, rfl⟩ ?_ ?_
    · rintro i σ G hi ⟨sG, hle, v1, rfl⟩
      have hi : i < 6 := hi
      refine ⟨_, rfl, 11, i, (by rw [Int.zero_add]; rfl), by decide, by omega, fun q ys PS G1 s1 nq hq py hm lPS => ⟨q, rfl, ⟨_, SqL.of hq⟩, fun D hD => ?_⟩⟩
      have sH := sG.trans s1
      refine lls_bools (K := K) (served ws) (by omega) hq py hD ?_ ?_
      · intro x t Ga Qy Qn hx sa ht ky_
        have lx := ((hm x).mp hx).2
        exact ⟨rfl, _, rfl, _, rfl, b, t, ws, x, rfl, hW.same (sH.trans sa), by omega, ht, by omega, fun Gb sb => ky_ _ sb⟩
      · intro G2 s2 hB
        refine ⟨D, _, rfl, SqL.of hB, ?_⟩
        rw [List.any_map]
        have e : PS.any (id ∘ served ws) = decide (i = (ends ws).length) := by
          rw [Bool.eq_iff_iff, List.any_eq_true, decide_eq_true_eq]
          constructor
          · rintro ⟨P', hP', hs⟩
            obtain ⟨h1, h2⟩ := (hm P').mp hP'
            have := (ends_least hl h1.asc hs).1
            omega
          · intro e
            exact ⟨ends ws, (hm _).mpr ⟨pl, e.symm⟩, ends_serve hl⟩
        rw [e]
        have sH2 := sH.trans s2
        refine ⟨_, rfl, ?_⟩
        by_cases c : i = (ends ws).length
        · refine iteP c ⟨_, rfl, ?_⟩
          have := k _ sH2
          rw [← c] at this
          rw [Int.zero_add]
          exact this
        · exact iteQ c ⟨sH2, by omega, _, rfl⟩
    · rintro σ G ⟨sG, hle, v1, rfl⟩
      omega
abbrev s_own_served : Stmt := top 55
abbrev N_own_served : List Str := ["_law_due", "_law_moments", "_law_found", "_law_done", "_law_moment", "_law_some", "_law_at"]
theorem sc_own_served : FnScope N_own_served ["_law_due", "_law_moments"] (defScope s_own_served) := ⟨rfl, rfl, rfl, by decide +kernel, rfl, by decide +kernel, by decide +kernel⟩
theorem ok_own_served {f : Addr} {fd : FuncData} (F : FnP K "_law_own_served" s_own_served f fd) (Z : FreeS mg) :
    FnOk P w K mg base CX0 1 f fd ["_law_due", "_law_moments"] (spOwnServed K) := by
  refine F.ok sc_own_served (fun vs H Q E h => ?_) (fun cdv A outer s H vs Q E hr h => ?_)
  · obtain ⟨b, c, ws, ms, rfl, _⟩ := h
    rfl
  · obtain ⟨b, c, ws, ms, rfl, hW, lw, hc, lm, k⟩ := h
    have sl : (10000 : Nat) ≤ sizeLine := by decide
    obtain ⟨tw, hb, ltw, htw⟩ := hW.got
    have nd := sc_own_served.nd
    refine ⟨_, PSs.nox (pss_cons (ps_asg (pe_tup (pa_cons (pe_lst (pa_nil)) (pa_cons (pe_lst (pa_nil)) (pa_nil)))) (pg_tup rfl (pgs_cons (pg_name (i := 2) nd rfl (Or.inl rfl)) (pgs_cons (pg_name (i := 3) nd rfl (Or.inr rfl)) (pgs_nil)))))
      (pss_cons (ps_for PassesOwn.never rfl (pi_list (pv 1)) (pg_name (i := 4) nd rfl (Or.inr rfl))
        (pss_cons (ps_setLc (i := 5) (own := [("_law_at", 6)]) (g := gName 6) (tt := tAnd (tTest (tOp (rIn K true) (tVar 6) (tVar 3))) (tTest (tChain (rI0 fun i j => .bl (decide (i < j))) (rI0 fun i j => .bl (decide (i < j))) (tOp (rIxT K) (tOp (rIxL K) (tVar 0) (tVar 6)) (tC (.int 0))) (tVar 4) (tOp (rI0 fun i j => .int (i + j)) (tOp (rIxT K) (tOp (rIxL K) (tVar 0) (tVar 6)) (tC (.int 1))) (tC (.int 1)))))) (te := tVar 6) (by rfl) nd rfl rfl rfl (pi_range1 (by rfl) Z.range (pa_cons (pe_callB call_len_seq (by rfl) Z.len (by decide +kernel) (pa_cons (pv 0) (pa_nil))) (pa_nil)))
          (blkOk_by (own := [("_law_at", 6)]) (N := N_own_served) (sc := defScope s_own_served) (by decide +kernel)) (fun _ _ _ _ _ => pg_name (i := 6) nd rfl (Or.inl rfl)) (fun _ _ _ _ _ => pts_one (PW.pt (pw_and (pt_cmpR op_notIn_seq (pv 6) (pv 3) (by rfl)) (pw_and1 (pt_chain op_lt op_lt (pe_ix ix_tup (pe_ix ix_list (pv 0) (pv 6) (fun _ _ => rfl)) (pe_int) (fun _ _ => rfl)) (pv 4) (pe_op op_add (pe_ix ix_tup (pe_ix ix_list (pv 0) (pv 6) (fun _ _ => rfl)) (pe_int) (fun _ _ => rfl)) (pe_int)))))))
          (fun _ _ _ _ _ => pv 6))
      (pss_one (ps_asg (pe_tup (pa_cons (pe_op op_cat (pv 2) (pe_lst (pa_cons (pv 5) (pa_nil)))) (pa_cons (pe_op op_cat (pv 3) (pv 5)) (pa_nil)))) (pg_tup rfl (pgs_cons (pg_name (i := 2) nd rfl (Or.inl rfl)) (pgs_cons (pg_name (i := 3) nd rfl (Or.inr rfl)) (pgs_nil))))))))
      (pss_one (ps_ret (pv 2))))), ?_⟩
    refine ⟨(by show 0 ≤ sizeLine; omega), fun q2 hq2 => ⟨(by show 0 ≤ sizeLine; omega), fun q3 hq3 => ⟨(by show 2 ≤ sizeLine; omega), fun T0 hT0 => ?_⟩⟩⟩
    have s1 := Same.updf (o := .lst []) hq2
    have s2 := Same.updf (o := .lst []) hq3
    have s3 := Same.updf (o := .tup [V.ref q2, V.ref q3]) hT0
    refine ⟨T0, [_, _], rfl, SqT.of upd_same, rfl, _, [_], rfl, _, [], rfl, rfl, ?_⟩
    have s13 := s1.trans (s2.trans s3)
    have f2 := (s2.trans s3) _ _ (upd_same (a := q2) (o := .lst []))
    have f3 := s3 _ _ (upd_same (H := upd H q2 (.lst [])) (a := q3) (o := .lst []))
    obtain ⟨G0, eG⟩ : ∃ X, X = upd (upd (upd H q2 (.lst [])) q3 (.lst [])) T0 (.tup [V.ref q2, V.ref q3]) := ⟨_, rfl⟩
    rw [← eG] at s13 f2 f3 ⊢
    clear eG s1 s2 s3 hq3 hT0
    refine via_nx ?_
    refine norm (σ' := [some (.ref b), some (.ref c), some (.ref q2), some (.ref q3), none, none, none]) rfl ?_
    have lv : (numsV ms).length = ms.length := List.length_map _
    refine ⟨_, rfl, c, rfl, ⟨_, SqL.of (s13 _ _ hc)⟩, ?_⟩
    refine for_list (xs := numsV ms) (fun i σ G => Same H G ∧ ∃ (q2 q3 : Addr) (ys : List V) (v4 v5 : Option V), H q2 = none ∧ G q2 = some (.lst ys) ∧ Paired (fun l y => ∃ T, y = V.ref T ∧ H T = none ∧ G T = some (.lst (numsV l))) ((List.range i).map (ownAt ws ms)) ys ∧ G q3 = some (.lst (numsV (ownDone ws ms i))) ∧ σ = [some (.ref b), some (.ref c), some (.ref q2), some (.ref q3), v4, v5, none])
      ⟨s13, q2, q3, [], none, none, hq2, f2, .nil, f3, rfl⟩ (fun i σ G _ hh => SqL.of (hh.1 _ _ hc)) ?_ ?_
    · rintro i y σ G hy ⟨sG, q2, q3, ys, v4, v5, nq2, hq2, py, hq3, rfl⟩
      have hi : i < ms.length := by
        have := (List.getElem?_eq_some_iff.mp hy).1
        omega
      have eg : ms.getD i 0 = ms[i] := by
        rw [List.getD_eq_getElem?_getD, List.getElem?_eq_getElem hi]
        rfl
      unfold numsV at hy
      rw [List.getElem?_map, List.getElem?_eq_getElem hi] at hy
      obtain rfl := Option.some.inj hy
      have ly := paired_len py
      rw [List.length_map, List.length_range] at ly
      refine ⟨_, rfl, b, _, rfl, .inl (SqL.of (sG _ _ hb)), (ws.length : Int), (by rw [List.length_map, ltw]), by omega, by omega, fun D hD => ?_⟩
      rw [Int.toNat_natCast]
      refine lc_sel (walk_range (lo := 0) (n := ws.length)) (fun k => if (!(ownDone ws ms i).contains k && (decide ((ws.getD k (0, 0)).1 < ms.getD i 0) && decide (ms.getD i 0 < (ws.getD k (0, 0)).2 + 1))) = true then some (.int (k : Int)) else none) (by omega) hD (fun _ _ => trivial) ?_ ?_
      · rintro j x Gz Ga Qy Qn hj sx ⟨rfl, rfl⟩ ky_ kn
        dsimp only
        rw [Int.zero_add]
        obtain ⟨tj, e1, w1⟩ := htw j hj
        have w1 := SqT_up (sG.trans sx) w1
        have ej : ws.getD j (0, 0) = ws[j] := by
          rw [List.getD_eq_getElem?_getD, List.getElem?_eq_getElem hj]
          rfl
        rw [ej, eg] at ky_ kn
        refine ⟨rfl, _, rfl, _, rfl, q3, numsV (ownDone ws ms i), rfl, .inl (SqL.of (sx _ _ hq3)), rfl, flat_nums2 _, _, rfl, ?_⟩
        have ev : inV (V.int (j : Int)) (numsV (ownDone ws ms i)) = (ownDone ws ms i).contains j := by
          rw [inV_nums2, Bool.eq_iff_iff, decide_eq_true_eq, List.contains_iff_mem]
        rw [show (if true = true then !inV (V.int (j : Int)) (numsV (ownDone ws ms i)) else inV (V.int (j : Int)) (numsV (ownDone ws ms i))) = !(ownDone ws ms i).contains j from by rw [if_pos rfl, ev]]
        cases qc : (ownDone ws ms i).contains j with
        | true =>
          rw [qc] at kn
          exact iteF (kn _ (Same.refl _) (if_neg Bool.false_ne_true))
        | false =>
          rw [qc] at ky_ kn
          refine iteT ?_
          have hbx := sx _ _ (sG _ _ hb)
          refine ⟨_, rfl, _, rfl, b, _, _, _, rfl, rfl, SqL.of hbx, atI_nat e1, tj, _, 0, _, rfl, rfl, w1, rfl, _, rfl, _, _, rfl, rfl, _, rfl, ?_⟩
          by_cases c1 : ws[j].1 < ms[i]
          · rw [decide_eq_true c1] at ky_ kn
            refine iteP (by omega) ⟨_, rfl, _, rfl, b, _, _, _, rfl, rfl, SqL.of hbx, atI_nat e1, tj, _, 1, _, rfl, rfl, w1, rfl, _, _, rfl, rfl, _, _, rfl, rfl, _, rfl, ?_⟩
            by_cases c2 : ms[i] < ws[j].2 + 1
            · rw [decide_eq_true c2] at ky_
              exact iteP (by omega) ⟨_, rfl, ky_ _ _ (Same.refl _) (if_pos rfl)⟩
            · rw [decide_eq_false c2] at kn
              exact iteQ (by omega) (kn _ (Same.refl _) (if_neg Bool.false_ne_true))
          · rw [decide_eq_false c1] at kn
            exact iteQ (by omega) ⟨_, rfl, iteF (kn _ (Same.refl _) (if_neg Bool.false_ne_true))⟩
      · intro G1 s1 hR2
        have hB : G1 D = some (.lst (numsV (ownAt ws ms i))) := by
          rw [hR2, fm_if (fun k => !(ownDone ws ms i).contains k && (decide ((ws.getD k (0, 0)).1 < ms.getD i 0) && decide (ms.getD i 0 < (ws.getD k (0, 0)).2 + 1))) (fun k : Nat => V.int (k : Int))]
          rfl
        clear hR2
        have ol := ownAt_len ws ms i
        have od := ownDone_len ws ms i
        have od2 : i * ws.length ≤ 20 * 20 := Nat.mul_le_mul (by omega) lw
        have lv1 : (numsV (ownAt ws ms i)).length = (ownAt ws ms i).length := List.length_map _
        have lv2 : (numsV (ownDone ws ms i)).length = (ownDone ws ms i).length := List.length_map _
        have nDH : H D = none := none_back sG hD
        refine via_nx ?_
        refine ⟨_, rfl, _, rfl, (by show 1 ≤ sizeLine; omega), fun b1 hb1 => ?_⟩
        have x1 := Same.updf (o := .lst [V.ref D]) hb1
        refine ⟨q2, b1, _, _, rfl, rfl, x1 _ _ (s1 _ _ hq2), upd_same, (by show _ + 1 ≤ _; omega), fun b2 hb2 => ?_⟩
        have x2 := Same.updf (o := .lst (ys ++ [V.ref D])) hb2
        have y2 := upd_same (H := upd G1 b1 (.lst [V.ref D])) (a := b2) (o := .lst (ys ++ [V.ref D]))
        refine ⟨_, rfl, _, rfl, q3, D, _, _, rfl, rfl, (x1.trans x2) _ _ (s1 _ _ hq3), (x1.trans x2) _ _ hB, by omega, fun b3 hb3 => ⟨(by show 2 ≤ sizeLine; omega), fun T1 hT1 => ?_⟩⟩
        have x3 := Same.updf (o := .lst (numsV (ownDone ws ms i) ++ numsV (ownAt ws ms i))) hb3
        have y3 := upd_same (H := upd (upd G1 b1 (.lst [V.ref D])) b2 (.lst (ys ++ [V.ref D]))) (a := b3) (o := .lst (numsV (ownDone ws ms i) ++ numsV (ownAt ws ms i)))
        have x4 := Same.updf (o := .tup [V.ref b2, V.ref b3]) hT1
        refine ⟨T1, [_, _], rfl, SqT.of upd_same, rfl, _, [_], rfl, _, [], rfl, rfl, ?_⟩
        have x14 := (x1.trans x2).trans (x3.trans x4)
        refine ⟨sG.trans (s1.trans x14), b2, b3, ys ++ [V.ref D], _, _, none_back (sG.trans (s1.trans x1)) hb2, (x3.trans x4) _ _ y2, ?_, ?_, rfl⟩
        · rw [List.range_succ, List.map_append]
          exact paired_snoc (paired_mono (fun l y ⟨T, e, n, h⟩ => ⟨T, e, n, x14 _ _ (s1 _ _ h)⟩) py) ⟨D, rfl, nDH, x14 _ _ hB⟩
        · rw [x4 _ _ y3]
          show _ = some (HO.lst (numsV (ownDone ws ms i ++ ownAt ws ms i)))
          unfold numsV
          rw [List.map_append]
    · rintro σ G ⟨sG, q2, q3, ys, v4, v5, nq2, hq2, py, hq3, rfl⟩
      rw [lv] at py
      exact ⟨_, rfl, k q2 G sG nq2 ⟨ys, hq2, py⟩⟩
end
end K18
set_option Elab.async false
set_option linter.all false
set_option maxRecDepth 100000
set_option maxHeartbeats 8000000
/-! Moments that serve: what the law asks. -/
namespace K18
open PySem PySem.Spec PyProof.Rows L2 KB LamX
def spSyncsR (K : PySem.W.Frag) : Sp := fun vs H Q _ => ∃ (pu : Addr) (N : Nat), vs = [.ref pu] ∧ Purse H pu N ∧ N ≤ 2 ^ 37 ∧ Tabs (TbK K) H ∧ ∀ H', ButN pu H H' → Purse H' pu (N + 1000) → Tabs (TbK K) H' → Q (.bl true) H'
/-- those lists that the test takes, themselves -/
theorem lls_sel {K : PySem.W.Frag} {PS : List (List Nat)} {ys : List V} {a : Addr} {g : TG} {tt : TT} {te : TE} {vs : List Nat} {σ : L2.St} {H1 : Hp} {D : Addr} {Qd : Hp → Prop} (c : List Nat → Bool) (hn : PS.length ≤ 100000) (ha : H1 a = some (.lst ys)) (py : Paired (LsAt H1) PS ys) (hD : H1 D = none)
    (hs : ∀ x t H (Qy : V → Hp → Prop) (Qn : Hp → Prop), x ∈ PS → Same H1 H → H t = some (.lst (numsV x)) → (∀ H4, Same H H4 → c x = true → Qy (.ref t) H4) → (∀ H4, Same H H4 → c x = false → Qn H4) →
      g (.ref t) (wipe σ vs) H fun σ2 H2 => wipe σ2 vs = wipe σ vs ∧ tt σ2 H2 fun b H3 => if b = true then te σ2 H3 Qy else Qn H3)
    (hd : ∀ H zs, Same H1 H → H D = some (.lst zs) → Paired (LsAt H) (PS.filter c) zs → Qd H) :
    ∃ W : Nat → Nat → Hp → Prop, (∃ m, W 0 m (upd H1 D (.lst []))) ∧ ∀ i m H, W i m H →
      ((Itl K a).stop i H ∧ Qd H) ∨ ((Itl K a).go i H ∧ ∃ Nx : Hp → Prop, (∀ H', Nx H' → ∃ m', m' < m ∧ W (i + 1) m' H') ∧ ∀ x H', (Itl K a).yld i H x H' → g x (wipe σ vs) H' fun σ2 H2 => wipe σ2 vs = wipe σ vs ∧ tt σ2 H2 fun b H3 =>
        if b = true then te σ2 H3 fun y H4 => ∃ acc, H4 D = some (.lst acc) ∧ acc.length < sizeLine ∧ Nx (upd H4 D (.lst (acc ++ [y]))) else Nx H3) := by
  have ly := paired_len py
  refine lc_rel (n := PS.length) (by have := walk_list (K := K) (a := a) (xs := ys); rw [← ly] at this; exact this) (fun i => ((PS[i]?).map c).getD false) (fun i y G => ∃ x, ((PS[i]?).map id) = some x ∧ LsAt G x y) (fun i y G G' s ⟨x, e, h⟩ => ⟨x, e, h.same s⟩) hn hD (fun H2 s3 => SqL.of (s3 _ _ ha)) ?_ ?_
  · rintro j v H5 H6 Qy Qn hj s5 hacc ⟨rfl, hy⟩ ky_ kn
    obtain ⟨x, e1, t, rfl, e2⟩ := paired_get2 py hy
    rw [e1] at ky_ kn
    refine hs x t _ Qy Qn (List.mem_of_getElem? e1) s5 (s5 _ _ e2) (fun H4 s4 cx => ky_ _ H4 cx s4 ⟨x, rfl, t, rfl, ?_⟩) fun H4 s4 cx => kn H4 cx s4
    rw [off_at (ne_of_none e2 hD)]
    exact s4 _ _ (s5 _ _ e2)
  · intro H2 zs s2 hzs pz
    refine hd H2 zs s2 hzs ?_
    have h := paired_fm pz
    rw [fm_get id c PS, List.map_id] at h
    exact paired_mono (fun x y h => h.same (off_le _ _)) h
/-- a number of each list -/
theorem lls_ints {K : PySem.W.Frag} {PS : List (List Nat)} {ys : List V} {a : Addr} {g : TG} {tt : TT} {te : TE} {vs : List Nat} {σ : L2.St} {H1 : Hp} {D : Addr} {Qd : Hp → Prop} (f : List Nat → Int) (hn : PS.length ≤ 100000) (ha : H1 a = some (.lst ys)) (py : Paired (LsAt H1) PS ys) (hD : H1 D = none)
    (hs : ∀ x t H (Qy : V → Hp → Prop) (Qn : Hp → Prop), x ∈ PS → Same H1 H → H t = some (.lst (numsV x)) → (∀ H4, Same H H4 → Qy (.int (f x)) H4) →
      g (.ref t) (wipe σ vs) H fun σ2 H2 => wipe σ2 vs = wipe σ vs ∧ tt σ2 H2 fun b H3 => if b = true then te σ2 H3 Qy else Qn H3)
    (hd : ∀ H, Same H1 H → H D = some (.lst ((PS.map f).map V.int)) → Qd H) :
    ∃ W : Nat → Nat → Hp → Prop, (∃ m, W 0 m (upd H1 D (.lst []))) ∧ ∀ i m H, W i m H →
      ((Itl K a).stop i H ∧ Qd H) ∨ ((Itl K a).go i H ∧ ∃ Nx : Hp → Prop, (∀ H', Nx H' → ∃ m', m' < m ∧ W (i + 1) m' H') ∧ ∀ x H', (Itl K a).yld i H x H' → g x (wipe σ vs) H' fun σ2 H2 => wipe σ2 vs = wipe σ vs ∧ tt σ2 H2 fun b H3 =>
        if b = true then te σ2 H3 fun y H4 => ∃ acc, H4 D = some (.lst acc) ∧ acc.length < sizeLine ∧ Nx (upd H4 D (.lst (acc ++ [y]))) else Nx H3) := by
  have ly := paired_len py
  refine lc_sel (n := PS.length) (by have := walk_list (K := K) (a := a) (xs := ys); rw [← ly] at this; exact this) (fun j => (PS[j]?).map fun x => V.int (f x)) hn hD (fun H2 s3 => SqL.of (s3 _ _ ha)) ?_ ?_
  · rintro j v H5 H6 Qy Qn hj s5 ⟨rfl, hy⟩ ky_ kn
    obtain ⟨x, e1, t, rfl, e2⟩ := paired_get2 py hy
    exact hs x t _ Qy Qn (List.mem_of_getElem? e1) s5 (s5 _ _ e2) fun H4 s4 => ky_ _ _ s4 (by rw [e1]; rfl)
  · intro H2 s2 hR
    refine hd H2 s2 ?_
    rw [hR, fm_all (fun x => V.int (f x)) PS, List.map_map]
    rfl
theorem lls_td {K : PySem.W.Frag} {H0 H : Hp} {q : Addr} {L : List (List Nat)} (n : Nat) (h : LLs H0 H q L) (hl : L.length ≤ 1000) (hi : ∀ l ∈ L, l.length ≤ 1000) : TD K H (n + 2) (.ref q) (.list (L.map fun l => .list (l.map fun x : Nat => PyData.int (x : Int)))) := by
  obtain ⟨ys, hq, py⟩ := h
  refine TD.lst hq (by rw [List.length_map, paired_len py]) (by rw [List.length_map]; exact hl) fun i u e e1 e2 => ?_
  obtain ⟨l, g1, T, rfl, _, hT⟩ := paired_get2 py e1
  rw [List.getElem?_map, g1] at e2
  obtain rfl := Option.some.inj e2
  exact nums_td n hT (hi l (List.mem_of_getElem? g1))
theorem LLs.same {H0 H H' : Hp} {q : Addr} {L : List (List Nat)} (h : LLs H0 H q L) (k : Same H H') : LLs H0 H' q L := by
  obtain ⟨ys, hq, py⟩ := h
  exact ⟨ys, k _ _ hq, paired_mono (fun l y ⟨T, e, n, h⟩ => ⟨T, e, n, k _ _ h⟩) py⟩
section
variable {P : Program} {w : World} {K : PySem.W.Frag} {mg : Str → Option Value} {base : Heap}
abbrev s_syncs_right : Stmt := top 57
abbrev N_syncs_right : List Str := ["_law_purse_here", "_law_due", "_law_turn", "_law_ready", "_law_size", "_law_some", "_law_every", "_law_greatest", "_law_handed", "_law_told", "_law_moments", "_law_late", "_law_at"]
theorem sc_syncs_right : FnScope N_syncs_right ["_law_purse_here"] (defScope s_syncs_right) := ⟨rfl, rfl, rfl, by decide +kernel, rfl, by decide +kernel, by decide +kernel⟩
theorem ok_syncs_right {f : Addr} {fd : FuncData} (F : FnP K "_law_syncs_right" s_syncs_right f fd) (Z : FreeS mg)
    {f_least_served : Addr} {d_least_served : FuncData} (g_least_served : mg "_law_least_served" = some (.ref f_least_served)) (F_least_served : FnP K "_law_least_served" s_least_served f_least_served d_least_served) (G_least_served : FnOk P w K mg base CX0 2 f_least_served d_least_served ["_law_due"] (spLeastS K))
    {f_syncs : Addr} {d_syncs : FuncData} (g_syncs : mg "syncs" = some (.ref f_syncs)) (F_syncs : FnP K "syncs" s_syncs f_syncs d_syncs) (G_syncs : FnOk P w K mg base CX0 6 f_syncs d_syncs ["due"] (spSyncs K))
    {f_exact : Addr} {d_exact : FuncData} (g_exact : mg "_law_exact" = some (.ref f_exact)) (F_exact : FnP K "_law_exact" s_exact f_exact d_exact) (GA_exact : ∀ n : Nat, FnOk P w K mg base CX0 (n + 1) f_exact d_exact ["_law_mine", "_law_theirs"] (spExactD K n))
    {f_draw : Addr} {d_draw : FuncData} (g_draw : mg "_law_draw" = some (.ref f_draw)) (F_draw : FnP K "_law_draw" s_draw f_draw d_draw) (G_draw : FnOk P w K mg base CX0 2 f_draw d_draw ["_law_purse_here", "_law_many"] spDraw)
    {f_served : Addr} {d_served : FuncData} (g_served : mg "served" = some (.ref f_served)) (F_served : FnP K "served" s_served f_served d_served) (G_served : FnOk P w K mg base CX0 6 f_served d_served ["due", "moments"] (spServed K))
    {f_place_lists : Addr} {d_place_lists : FuncData} (g_place_lists : mg "_law_place_lists" = some (.ref f_place_lists)) (F_place_lists : FnP K "_law_place_lists" s_place_lists f_place_lists d_place_lists) (G_place_lists : FnOk P w K mg base CX0 1 f_place_lists d_place_lists ["_law_many", "_law_size"] (spPlaceL K))
    {f_all_served : Addr} {d_all_served : FuncData} (g_all_served : mg "_law_all_served" = some (.ref f_all_served)) (F_all_served : FnP K "_law_all_served" s_all_served f_all_served d_all_served) (G_all_served : FnOk P w K mg base CX0 1 f_all_served d_all_served ["_law_due", "_law_moments"] (spAllS K))
    {f_shuffled : Addr} {d_shuffled : FuncData} (g_shuffled : mg "_law_shuffled" = some (.ref f_shuffled)) (F_shuffled : FnP K "_law_shuffled" s_shuffled f_shuffled d_shuffled) (G_shuffled : FnOk P w K mg base CX0 3 f_shuffled d_shuffled ["_law_purse_here", "_law_some"] (spShuffled K))
    {f_own_served : Addr} {d_own_served : FuncData} (g_own_served : mg "_law_own_served" = some (.ref f_own_served)) (F_own_served : FnP K "_law_own_served" s_own_served f_own_served d_own_served) (G_own_served : FnOk P w K mg base CX0 1 f_own_served d_own_served ["_law_due", "_law_moments"] (spOwnServed K)) :
    FnOk P w K mg base CX0 11 f fd ["_law_purse_here"] (spSyncsR K) := by
  have b_least_served : Binds K d_least_served ["_law_due"] [] := F_least_served.bindsN fun _ _ _ _ _ _ us hl => match us, hl with | [_], _ => rfl
  have b_syncs : Binds K d_syncs ["due"] [] := F_syncs.bindsN fun _ _ _ _ _ _ us hl => match us, hl with | [_], _ => rfl
  have b_exact : Binds K d_exact ["_law_mine", "_law_theirs"] [] := F_exact.bindsN fun _ _ _ _ _ _ us hl => match us, hl with | [_, _], _ => rfl
  have b_draw : Binds K d_draw ["_law_purse_here", "_law_many"] [] := F_draw.bindsN fun _ _ _ _ _ _ us hl => match us, hl with | [_, _], _ => rfl
  have b_served : Binds K d_served ["due", "moments"] [] := F_served.bindsN fun _ _ _ _ _ _ us hl => match us, hl with | [_, _], _ => rfl
  have b_place_lists : Binds K d_place_lists ["_law_many", "_law_size"] [] := F_place_lists.bindsN fun _ _ _ _ _ _ us hl => match us, hl with | [_, _], _ => rfl
  have b_all_served : Binds K d_all_served ["_law_due", "_law_moments"] [] := F_all_served.bindsN fun _ _ _ _ _ _ us hl => match us, hl with | [_, _], _ => rfl
  have b_shuffled : Binds K d_shuffled ["_law_purse_here", "_law_some"] [] := F_shuffled.bindsN fun _ _ _ _ _ _ us hl => match us, hl with | [_, _], _ => rfl
  have b_own_served : Binds K d_own_served ["_law_due", "_law_moments"] [] := F_own_served.bindsN fun _ _ _ _ _ _ us hl => match us, hl with | [_, _], _ => rfl
  refine F.ok sc_syncs_right (fun vs H Q E h => ?_) (fun cdv A outer s H vs Q E hr h => ?_)
  · obtain ⟨pu, N, rfl, _⟩ := h
    rfl
  · obtain ⟨pu, N, rfl, hP, hN, hT, k⟩ := h
    have sl : (10000 : Nat) ≤ sizeLine := by decide
    have m4 : mixes 4 = 1 := mixes_one (by decide) (by decide)
    have m6 : mixes 6 = 1 := mixes_one (by decide) (by decide)
    have nd := sc_syncs_right.nd
    refine ⟨_, PSs.nox (pss_cons (ps_set (i := 1) nd rfl (Or.inr rfl) (pe_lst (pa_nil)))
      (pss_cons (ps_for PassesOwn.never rfl (pi_range1 (by rfl) Z.range (pa_cons (pe_call G_draw (hr.mono (by decide)) rfl g_draw F_draw.kp b_draw .nil pass0 (pa_cons (pv 0) (pa_cons (pe_int) (pa_nil)))) (pa_nil))) (pg_name (i := 2) nd rfl (Or.inl rfl))
        (pss_cons (ps_set (i := 3) nd rfl (Or.inl rfl) (pe_call G_draw (hr.mono (by decide)) rfl g_draw F_draw.kp b_draw .nil pass0 (pa_cons (pv 0) (pa_cons (pe_int) (pa_nil)))))
      (pss_one (ps_expr (pe_bm PySem.F.plainAttrs_list PySem.F.slot_list_append PySem.F.type_list_append mt_append (pv 1) (pa_cons (pe_tup (pa_cons (pv 3) (pa_cons (pe_op op_add (pe_op op_add (pv 3) (pe_int)) (pe_call G_draw (hr.mono (by decide)) rfl g_draw F_draw.kp b_draw .nil pass0 (pa_cons (pv 0) (pa_cons (pe_int) (pa_nil))))) (pa_nil)))) (pa_nil)))))))
      (pss_cons (ps_set (i := 4) nd rfl (Or.inl rfl) (pe_call G_least_served (hr.mono (by decide)) rfl g_least_served F_least_served.kp b_least_served .nil pass0 (pa_cons (pv 1) (pa_nil))))
      (pss_cons (ps_set (i := 6) nd rfl (Or.inr rfl) (pe_lc (own := [("_law_some", 5)]) (g := gName 5) (tt := tB (tCall (spAllS K) [] E0 (tCons (tVar 1) (tCons (tVar 5) (tNil))))) (te := tVar 5) (by rfl) nd (pi_list (pe_call G_place_lists (hr.mono (by decide)) rfl g_place_lists F_place_lists.kp b_place_lists .nil pass0 (pa_cons (pe_int) (pa_cons (pv 4) (pa_nil)))))
          (blkOk_by (own := [("_law_some", 5)]) (N := N_syncs_right) (sc := defScope s_syncs_right) (by decide +kernel)) (fun _ _ _ _ _ => pg_name (i := 5) nd rfl (Or.inl rfl)) (fun _ _ _ _ _ => pts_one (pt_val (pe_call G_all_served (hr.mono (by decide)) rfl g_all_served F_all_served.kp b_all_served .nil pass0 (pa_cons (pv 1) (pa_cons (pv 5) (pa_nil))))))
          (fun _ _ _ _ _ => pv 5)))
      (pss_cons (ps_par (i := 7) (j := 8) rfl nd rfl rfl (by decide) rfl rfl (pa_cons (pe_lc (own := [("_law_at", 12)]) (g := gName 12) (tt := tYes) (te := tCB (rMax K) (tCons (tLc (iList K (tVar 6)) (gName 5) (tYes) (tOp (rIxL K) (tVar 5) (tVar 12)) [5]) (tNil))) (by rfl) nd (pi_range1 (by rfl) Z.range (pa_cons (pv 4) (pa_nil)))
          (blkOk_by (own := [("_law_at", 12)]) (N := N_syncs_right) (sc := defScope s_syncs_right) (by decide +kernel)) (fun _ _ _ _ _ => pg_name (i := 12) nd rfl (Or.inr rfl)) (fun _ _ _ _ _ => pts_nil)
          (fun _ _ _ _ _ => pe_callB (cr_max rfl) (by rfl) Z.max (by decide +kernel) (pa_cons (pe_lc (own := [("_law_some", 5)]) (g := gName 5) (tt := tYes) (te := tOp (rIxL K) (tVar 5) (tVar 12)) (by rfl) nd (pi_list (pv 6))
          (blkOk_by (own := [("_law_some", 5)]) (N := N_syncs_right) (sc := ({ kind := .function, names := [(".0", .local), ("_law_at", .cell), ("max", .globalImplicit), ("_law_every", .cell)], isGenerator := false, isCoroutine := false } : Scope)) (by decide +kernel)) (fun _ _ _ _ _ => pg_name (i := 5) nd rfl (Or.inl rfl)) (fun _ _ _ _ _ => pts_nil)
          (fun _ _ _ _ _ => pe_ix ix_list (pv 5) (pv 12) (fun _ _ => rfl))) (pa_nil)))) (pa_cons (pe_callTy call_list_ofR (by rfl) Z.tlist (by decide +kernel) (pa_cons (pv 1) (pa_nil))) (pa_nil))) rfl)
      (pss_cons (ps_set (i := 9) nd rfl (Or.inl rfl) (pe_call G_syncs (hr.mono (by decide)) rfl g_syncs F_syncs.kp b_syncs .nil pass0 (pa_cons (pv 8) (pa_nil))))
      (pss_cons (ps_if (pt_not (pt_val (pe_call (GA_exact 9) (hr.mono (by decide)) rfl g_exact F_exact.kp b_exact .nil pass0 (pa_cons (pe_lst (pa_cons (pv 9) (pa_cons (pv 8) (pa_nil)))) (pa_cons (pe_lst (pa_cons (pv 7) (pa_cons (pv 1) (pa_nil)))) (pa_nil)))))) (pss_one (ps_ret (pe_bl))) (pss_nil))
      (pss_cons (ps_for PassesOwn.never rfl (pi_list (pe_lst (pa_cons (pv 7) (pa_cons (pe_lst (pa_nil)) (pa_cons (pe_callB (cr_sorted) (by rfl) Z.sorted (by decide +kernel) (pa_cons (pe_slice sl_list (pe_call G_shuffled (hr.mono (by decide)) rfl g_shuffled F_shuffled.kp b_shuffled .nil pass0 (pa_cons (pv 0) (pa_cons (pe_listRg rfl (by rfl) Z.tlist (prg_1 (by rfl) Z.range (pe_int))) (pa_nil)))) (po_none) (po_some (pe_int))) (pa_nil))) (pa_cons (pe_listRg rfl (by rfl) Z.tlist (prg_1 (by rfl) Z.range (pe_int))) (pa_nil))))))) (pg_name (i := 10) nd rfl (Or.inl rfl))
        (pss_cons (ps_set (i := 11) nd rfl (Or.inl rfl) (pe_call G_served (hr.mono (by decide)) rfl g_served F_served.kp b_served .nil pass0 (pa_cons (pv 8) (pa_cons (pe_callTy call_list_ofR (by rfl) Z.tlist (by decide +kernel) (pa_cons (pv 10) (pa_nil))) (pa_nil)))))
      (pss_cons (ps_if (pt_not (pt_val (pe_call (GA_exact 9) (hr.mono (by decide)) rfl g_exact F_exact.kp b_exact .nil pass0 (pa_cons (pe_lst (pa_cons (pv 11) (pa_cons (pv 8) (pa_nil)))) (pa_cons (pe_lst (pa_cons (pe_call G_own_served (hr.mono (by decide)) rfl g_own_served F_own_served.kp b_own_served .nil pass0 (pa_cons (pv 1) (pa_cons (pv 10) (pa_nil)))) (pa_cons (pv 1) (pa_nil)))) (pa_nil)))))) (pss_one (ps_ret (pe_bl))) (pss_nil))
      (pss_one (ps_for PassesOwn.never rfl (pi_list (pv 11)) (pg_name (i := 5) nd rfl (Or.inl rfl))
        (pss_one (ps_expr (pe_bm PySem.F.plainAttrs_list PySem.F.slot_list_append PySem.F.type_list_append mt_append (pv 5) (pa_cons (pe_non) (pa_nil))))))))))
      (pss_cons (ps_expr (pe_bm PySem.F.plainAttrs_list PySem.F.slot_list_append PySem.F.type_list_append mt_append (pv 9) (pa_cons (pe_non) (pa_nil))))
      (pss_one (ps_ret (pe_call (GA_exact 9) (hr.mono (by decide)) rfl g_exact F_exact.kp b_exact .nil pass0 (pa_cons (pe_call G_syncs (hr.mono (by decide)) rfl g_syncs F_syncs.kp b_syncs .nil pass0 (pa_cons (pv 1) (pa_nil))) (pa_cons (pv 7) (pa_nil))))))))))))))), ?_⟩
    have pul : ∀ {G : Hp} {M : Nat}, Purse G pu M → ∃ xs, G pu = some (.lst xs) := fun h => by
      obtain ⟨A0, B0, c0, i0, eP, _⟩ := h
      exact ⟨_, eP⟩
    refine ⟨(by show 0 ≤ sizeLine; omega), fun q hq => ?_⟩
    have nq : q ≠ pu := fresh_ne hP hq
    have s1 := Same.updf (o := .lst []) hq
    have hq1 : (upd H q (.lst [])) q = some (.lst []) := upd_same
    have P1 := hP.same s1
    have T1 := tabs_same s1 hT
    obtain ⟨G1, eG⟩ : ∃ X, X = upd H q (.lst []) := ⟨_, rfl⟩
    rw [← eG] at s1 hq1 P1 T1 ⊢
    clear eG
    refine ⟨_, rfl, pu, 6, N, rfl, by decide, log_small (by decide) (by decide), P1, by rw [m6]; omega, by rw [m6]; omega, fun r G2 r0 r1 b2 P2 => ?_⟩
    rw [m6] at P2
    obtain ⟨r, rfl⟩ : ∃ z : Nat, r = (z : Int) := ⟨r.toNat, by omega⟩
    refine ⟨(r : Int), rfl, by omega, by omega, ?_⟩
    rw [Int.toNat_natCast]
    have T2 := tabs_but b2 (pul P1) T1
    refine for_range (lo := 0) (n := r) (fun i σ G => (∀ c o, c ≠ pu → c ≠ q → G2 c = some o → G c = some o) ∧ Purse G pu (N + 1 + 2 * i) ∧ Tabs (TbK K) G ∧ ∃ (ws : List (Nat × Nat)) (v2 v3 : Option V), WtAt K G q ws ∧ ws.length = i ∧ (∀ w ∈ ws, w.1 < w.2 ∧ w.2 ≤ 10) ∧ σ = [some (.ref pu), some (.ref q), v2, v3, none, none, none, none, none, none, none, none, none])
      ⟨fun c o _ _ e => e, P2, T2, [], none, none, LsT.nil (b2 _ _ nq hq1), rfl, (fun w h => nomatch h), rfl⟩ ?_ ?_
    · rintro i σ G hi ⟨bG, PG, TG, ws, v2, v3, hW, lw, hw, rfl⟩
      have hi : i < r := hi
      refine ⟨_, rfl, pu, 6, _, rfl, by decide, log_small (by decide) (by decide), PG, by rw [m6]; omega, by rw [m6]; omega, fun x Ga x0 x1 ba Pa => ?_⟩
      rw [m6] at Pa
      obtain ⟨x, rfl⟩ : ∃ z : Nat, x = (z : Int) := ⟨x.toNat, by omega⟩
      have Wa := hW.but ba nq (pul PG)
      obtain ⟨ta, qa, lta, _⟩ := id Wa.ex
      refine ⟨_, rfl, Or.inl ⟨rfl, _, SqL.of qa⟩, _, rfl, _, rfl, _, _, rfl, rfl, ?_⟩
      refine ⟨_, rfl, pu, 4, _, rfl, by decide, log_small (by decide) (by decide), Pa, by rw [m4]; omega, by rw [m4]; omega, fun y Gb y0 y1 bb Pb => ?_⟩
      rw [m4] at Pb
      obtain ⟨y, rfl⟩ : ∃ z : Nat, y = (z : Int) := ⟨y.toNat, by omega⟩
      have Wb := Wa.but bb nq (pul Pa)
      refine ⟨_, _, rfl, rfl, (by show 2 ≤ sizeLine; omega), fun T hT' => ?_⟩
      have e1 : ((x : Int) + 1) + (y : Int) = ((x + 1 + y : Nat) : Int) := by omega
      have sT := Same.updf (o := .tup (wv (x, x + 1 + y))) hT'
      have eo : (HO.tup [V.int (x : Int), V.int (((x : Int) + 1) + (y : Int))]) = .tup (wv (x, x + 1 + y)) := by
        rw [e1]
        rfl
      obtain ⟨ys, u1, u2, u3⟩ := (Wb.same sT).app (t := T) (x := (x, x + 1 + y)) (SqT.of upd_same)
      have Pt := Pb.same sT
      have Tt := tabs_same sT (tabs_but bb (pul Pa) (tabs_but ba (pul PG) TG))
      have bt : But pu G (upd Gb T (.tup (wv (x, x + 1 + y)))) := (ba.trans bb).trans (But.of sT)
      show ∃ l xs y', _ ∧ _ ∧ (upd Gb T (.tup [V.int (x : Int), V.int (((x : Int) + 1) + (y : Int))])) l = some (.lst xs) ∧ _
      rw [eo]
      obtain ⟨Gc, eG⟩ : ∃ X, X = upd Gb T (.tup (wv (x, x + 1 + y))) := ⟨_, rfl⟩
      rw [← eG] at u1 u3 Pt Tt bt ⊢
      refine ⟨q, _, _, rfl, rfl, u1, by omega, ?_⟩
      refine ⟨fun c o n1 n2 e => by rw [upd_ne n2]; exact bt _ _ n1 (bG _ _ n1 n2 e), ?_, tabs_but But.upd' ⟨_, u1⟩ Tt, ws ++ [(x, x + 1 + y)], _, _, u3, by rw [List.length_append, lw]; rfl, fun w' hw' => ?_, rfl⟩
      · exact (Pt.same' (upd_ne nq.symm)).mono (by omega)
      · rcases List.mem_append.mp hw' with m | m
        · exact hw w' m
        · rw [List.mem_singleton.mp m]
          show x < x + 1 + y ∧ x + 1 + y ≤ 10
          omega
    · rintro σ G3 ⟨bG, P3, T3, ws, v2, v3, hW, lw, hw, rfl⟩
      have hl : ∀ w ∈ ws, w.1 < w.2 := fun w h => (hw w h).1
      have r5 : r ≤ 5 := by omega
      have bH3 : But pu H G3 := fun c o n e => bG _ _ n (ne_of_none e hq) (b2 _ _ n (s1 _ _ e))
      clear bG T2 P2 b2 T1 P1 hq1 s1
      obtain ⟨m, em⟩ : ∃ m, m = (ends ws).length := ⟨_, rfl⟩
      have m5 : m ≤ 5 := by
        have := ends_len (ws := ws)
        omega
      have pl : PlOk 11 (ends ws) := ends_pl fun w h => ⟨(hw w h).1, by have := (hw w h).2; omega⟩
      refine via_nx ?_
      refine ⟨_, rfl, q, ws, rfl, hW, hw, by omega, fun G4 s4 => ?_⟩
      rw [← em]
      refine via_nx ?_
      refine norm (σ' := [some (.ref pu), some (.ref q), v2, v3, some (.int (m : Nat)), none, none, none, none, none, none, none, none]) rfl ?_
      refine ⟨_, rfl, 11, m, rfl, by decide, by omega, fun qp ys PS G5 s5 nqp hqp py hm lPS => ⟨qp, rfl, ⟨_, SqL.of hqp⟩, fun D6 hD6 => ?_⟩⟩
      have s35 := s4.trans s5
      refine lls_sel (K := K) (served ws) (by omega) hqp py hD6 ?_ ?_
      · intro x t Ga Qy Qn hx sa ht ky_ kn
        have lx := ((hm x).mp hx).2
        refine ⟨rfl, _, rfl, _, rfl, q, t, ws, x, rfl, hW.same (s35.trans sa), by omega, ht, by omega, fun Gb sb => ⟨_, rfl, ?_⟩⟩
        cases qs : served ws x with
        | true => exact iteT ⟨_, rfl, ky_ _ sb qs⟩
        | false => exact iteF (kn _ sb qs)
      · intro G6 zs s6 hzs pz
        have s36 := s35.trans s6
        have memP : ∀ x, x ∈ PS.filter (served ws) ↔ (PlOk 11 x ∧ x.length = m) ∧ served ws x = true := fun x => by rw [List.mem_filter, hm]
        have lF := List.length_filter_le (served ws) PS
        obtain ⟨EV, eEV⟩ : ∃ EV, EV = PS.filter (served ws) := ⟨_, rfl⟩
        rw [← eEV] at pz memP lF
        clear hqp py hm hD6 eEV
        refine via_nx ?_
        refine norm (σ' := [some (.ref pu), some (.ref q), v2, v3, some (.int (m : Nat)), none, some (.ref D6), none, none, none, none, none, none]) rfl ?_
        refine ⟨_, rfl, (m : Int), rfl, by omega, by omega, fun D7 hD7 => ?_⟩
        rw [Int.toNat_natCast]
        refine lc_sel (walk_range (lo := 0) (n := m)) (fun i => some (.int (((ends ws).getD i 0 : Nat) : Int))) (by omega) hD7 (fun _ _ => trivial) ?_ ?_
        · rintro i x Gz Ga Qy Qn hi sx ⟨rfl, rfl⟩ ky_ kn
          dsimp only
          rw [Int.zero_add]
          refine ⟨rfl, _, rfl, D6, rfl, ⟨_, SqL.of (sx _ _ hzs)⟩, fun D8 hD8 => ?_⟩
          refine lls_ints (K := K) (fun P => ((P.getD i 0 : Nat) : Int)) (by omega) (sx _ _ hzs) (lsAt_mono sx pz) hD8 ?_ ?_
          · intro x t Gb Qy2 Qn2 hx sb ht ky2
            have lx := ((memP x).mp hx).1.2
            have ex : (numsV x)[i]? = some (.int ((x.getD i 0 : Nat) : Int)) := by
              unfold numsV
              rw [List.getElem?_map, List.getD_eq_getElem?_getD, List.getElem?_eq_getElem (by omega)]
              rfl
            exact ⟨rfl, _, rfl, _, rfl, t, _, _, _, rfl, rfl, SqL.of ht, atI_nat ex, ky2 _ (Same.refl _)⟩
          · intro Gb sb hB
            have mE : ends ws ∈ EV := (memP _).mpr ⟨⟨pl, em.symm⟩, ends_serve hl⟩
            refine ⟨D8, _, rfl, SqL.of hB, (by rw [List.length_map]; exact List.length_pos_of_mem mE), fun mx hmx hmax => ?_⟩
            obtain ⟨x, hx, rfl⟩ := List.mem_map.mp hmx
            have g1 := hmax _ (List.mem_map.mpr ⟨ends ws, mE, rfl⟩)
            obtain ⟨⟨x1, x2⟩, x3⟩ := (memP x).mp hx
            have g2 := (ends_least hl x1.asc x3).2 (by omega) i (x.getD i 0) ((ends ws).getD i 0) (by rw [List.getD_eq_getElem?_getD, List.getElem?_eq_getElem (by omega)]; rfl) (by rw [List.getD_eq_getElem?_getD, List.getElem?_eq_getElem (by omega)]; rfl)
            have ee : ((x.getD i 0 : Nat) : Int) = (((ends ws).getD i 0 : Nat) : Int) := by omega
            rw [ee]
            exact ky_ _ _ sb rfl
        · intro G7 s7 hR7
          have hE : G7 D7 = some (.lst (numsV (ends ws))) := by
            rw [hR7, List.filterMap_eq_map', em]
            refine congrArg (fun l => some (HO.lst l)) ?_
            unfold numsV
            refine List.ext_getElem? fun i => ?_
            rw [List.getElem?_map, List.getElem?_map]
            by_cases c : i < (ends ws).length
            · rw [List.getElem?_range c, List.getElem?_eq_getElem c]
              show some (V.int (((ends ws).getD i 0 : Nat) : Int)) = _
              rw [List.getD_eq_getElem?_getD, List.getElem?_eq_getElem c]
              rfl
            · rw [List.getElem?_eq_none (by rw [List.length_range]; omega), List.getElem?_eq_none (by omega)]
              rfl
          have s37 := s36.trans s7
          have W7 := hW.same s37
          obtain ⟨tq, hq7, ltq, _⟩ := id W7.ex
          refine ⟨_, rfl, q, _, rfl, .inl (SqL.of hq7), fun l1 hl1 => ⟨_, _, rfl, ?_⟩⟩
          have x1 := Same.updf (o := .lst (tq.map V.ref)) hl1
          have n1q : q ≠ l1 := ne_of_none hq7 hl1
          have f1 := upd_same (H := G7) (a := l1) (o := .lst (tq.map V.ref))
          have hE1 := x1 _ _ hE
          have s38 := s37.trans x1
          obtain ⟨G8, eG⟩ : ∃ X, X = upd G7 l1 (.lst (tq.map V.ref)) := ⟨_, rfl⟩
          rw [← eG] at f1 hE1 s38 ⊢
          have W81 : WtAt K G8 l1 ws := W7.copy hq7 (by rw [eG]; exact x1) f1
          have W8 := hW.same s38
          have P8 := P3.same s38
          have T8 := tabs_same s38 T3
          have nD7 : D7 ≠ pu := by
            obtain ⟨xs, e⟩ := pul (P3.same s36)
            exact (ne_of_none e hD7).symm
          have nl1 : l1 ≠ pu := by
            obtain ⟨xs, e⟩ := pul (P3.same s37)
            exact (ne_of_none e hl1).symm
          have bH8 : But pu H G8 := bH3.trans (But.of s38)
          clear eG x1 hl1 hq7 W7 s37 hE hR7 hD7 s36 s35 hW P3 T3 s7 hzs pz memP s6 s5 s4 bH3
          refine via_nx ?_
          refine norm (σ' := [some (.ref pu), some (.ref q), v2, v3, some (.int (m : Nat)), none, some (.ref D6), some (.ref D7), some (.ref l1), none, none, none, none]) rfl ?_
          refine ⟨_, rfl, l1, ws, rfl, ⟨W81, hl, by omega⟩, T8, fun q9 G9 e9 T9 n9 h9 => ?_⟩
          have W9 := W8.ext e9
          have W91 := W81.ext e9
          have hE9 := e9 _ _ hE1 (fun ps z => by cases z)
          have n9a : ∀ {a : Addr} {xs : List V}, G8 a = some (.lst xs) → a ≠ q9 := fun e => n9.ne e
          have P9 : Purse G9 pu (N + 1 + 2 * r) := by
            obtain ⟨A0, B0, c0, i0, eP, rr⟩ := P8.at_
            exact ⟨A0, B0, c0, i0, e9 _ _ eP (fun ps z => by cases z), rr⟩
          have n9pu : q9 ≠ pu := by
            obtain ⟨xs, e⟩ := pul P8
            exact (n9a e).symm
          refine via_nx ?_
          refine norm (σ' := [some (.ref pu), some (.ref q), v2, v3, some (.int (m : Nat)), none, some (.ref D6), some (.ref D7), some (.ref l1), some (.ref q9), none, none, none]) rfl ?_
          have tde : ∀ (G : Hp) (x1 x2 z : Addr), G x1 = some (.lst (numsV (ends ws))) → WtAt K G x2 ws → G z = some (.lst [.ref x1, .ref x2]) → TD K G 9 (.ref z) (.list [.list ((ends ws).map fun x : Nat => PyData.int (x : Int)), .list (ws.map pd)]) := fun G x1 x2 z e1 e2 e3 =>
            TD.lst e3 rfl (Nat.le_of_ble_eq_true rfl) (td_cons (nums_td 7 e1 (by omega)) (td_cons (wts_td 6 e2 (by omega)) td_nil))
          refine ⟨_, rfl, _, rfl, (by show 2 ≤ sizeLine; omega), fun a1 ha1 => ?_⟩
          have x1 := Same.updf (o := .lst [V.ref q9, V.ref l1]) ha1
          refine ⟨_, rfl, _, rfl, (by show 2 ≤ sizeLine; omega), fun a2 ha2 => ?_⟩
          have x2 := Same.updf (o := .lst [V.ref D7, V.ref q]) ha2
          have x12 := x1.trans x2
          refine ⟨.ref a1, .ref a2, _, rfl, tde _ q9 l1 a1 (x12 _ _ h9) (W91.same x12) (x2 _ _ (upd_same (a := a1) (o := .lst [V.ref q9, V.ref l1]))), tde _ D7 q a2 (x12 _ _ hE9) (W9.same x12) upd_same, fun Ga sa => ⟨_, rfl, iteF ?_⟩⟩
          have x1a := x12.trans sa
          have Wa := W9.same x1a
          have Wa1 := W91.same x1a
          have hEa := x1a _ _ hE9
          have ha9 := x1a _ _ h9
          have Pa := P9.same x1a
          have Ta := tabs_same x1a T9
          have eHa : ExtN G8 Ga := e9.trans (ExtN.of x1a)
          clear x1 x2 x12 sa ha1 ha2 x1a W9 W91 hE9 h9 P9 T9
          refine via_nx ?_
          have nq8 : q ≠ q9 := by
            obtain ⟨tt, e, _⟩ := W8.ex
            exact n9a e
          have nl18 : l1 ≠ q9 := n9a f1
          have nD78 : D7 ≠ q9 := n9a hE1
          refine ⟨_, rfl, (by show 0 ≤ sizeLine; omega), fun e0 he0 => ?_⟩
          have x1 := Same.updf (o := .lst []) he0
          have ne0 : e0 ≠ pu := fresh_ne Pa he0
          refine ⟨_, rfl, _, rfl, RgOk.of_le (by decide) (by decide) (by decide) (by decide), fun R hR' => ?_⟩
          rw [show rgV 0 11 = numsV (List.range 11) from rgV_nat 11]
          have nR : R ≠ pu := fresh_ne (Pa.same x1) hR'
          have x2 := Same.updf (o := .lst (numsV (List.range 11))) hR'
          have x12 := x1.trans x2
          refine ⟨pu, R, _, List.range 11, rfl, Pa.same x12, by omega, nR, upd_same, by decide, fun q1 L1 Gb b1 Pb n1 e1 p1 => ?_⟩
          have nq1 : q1 ≠ pu := fresh_ne (Pa.same x12) n1
          refine ⟨_, rfl, q1, _, rfl, SqL.of e1, fun c3 hc3 => ?_⟩
          have et : cutV (numsV L1) none (some 4) = (((L1.take 4).map fun x : Nat => (x : Int)).map V.int) := by
            rw [← numsV_ints]
            unfold numsV
            rw [List.map_take]
            exact cut_pre _ 4
          rw [et]
          have lt4 : (L1.take 4).length ≤ 4 := by
            rw [List.length_take]
            omega
          refine ⟨c3, (L1.take 4).map fun x : Nat => (x : Int), rfl, SqL.of upd_same, by rw [List.length_map]; omega, fun ns' c4 pm srt hc4 => ?_⟩
          obtain ⟨M, rfl, pp⟩ := nums_of_perm pm
          have hPl : PlOk 11 M := plok_of p1 (List.take_sublist 4 L1) pp srt
          have x3 := Same.updf (o := .lst (((L1.take 4).map fun x : Nat => (x : Int)).map V.int)) hc3
          have x4 := Same.updf (o := .lst ((M.map fun x : Nat => (x : Int)).map V.int)) hc4
          have g4 := upd_same (H := upd Gb c3 (.lst (((L1.take 4).map fun x : Nat => (x : Int)).map V.int))) (a := c4) (o := .lst ((M.map fun x : Nat => (x : Int)).map V.int))
          refine ⟨_, rfl, RgOk.of_le (by decide) (by decide) (by decide) (by decide), fun R2 hR2 => ?_⟩
          rw [show rgV 0 11 = numsV (List.range 11) from rgV_nat 11]
          have x5 := Same.updf (o := .lst (numsV (List.range 11))) hR2
          refine ⟨(by show 4 ≤ sizeLine; omega), fun lm hlm => ?_⟩
          have x6 := Same.updf (o := .lst [V.ref D7, V.ref e0, V.ref c4, V.ref R2]) hlm
          have x36 := (x3.trans x4).trans (x5.trans x6)
          have g4 := (x5.trans x6) _ _ g4
          have g4 := g4.trans (congrArg (fun l => some (HO.lst l)) (numsV_ints M).symm)
          have g5 := x6 _ _ (upd_same (a := R2) (o := .lst (numsV (List.range 11))))
          have g6 := upd_same (H := upd (upd (upd Gb c3 (.lst (((L1.take 4).map fun x : Nat => (x : Int)).map V.int))) c4 (.lst ((M.map fun x : Nat => (x : Int)).map V.int))) R2 (.lst (numsV (List.range 11)))) (a := lm) (o := .lst [V.ref D7, V.ref e0, V.ref c4, V.ref R2])
          have bac : But pu Ga (upd (upd (upd (upd Gb c3 (.lst (((L1.take 4).map fun x : Nat => (x : Int)).map V.int))) c4 (.lst ((M.map fun x : Nat => (x : Int)).map V.int))) R2 (.lst (numsV (List.range 11)))) lm (.lst [V.ref D7, V.ref e0, V.ref c4, V.ref R2])) := (But.of x12).trans (b1.trans (But.of x36))
          have g1 := bac _ _ nD7 hEa
          have g2 : (upd (upd (upd (upd Gb c3 (.lst (((L1.take 4).map fun x : Nat => (x : Int)).map V.int))) c4 (.lst ((M.map fun x : Nat => (x : Int)).map V.int))) R2 (.lst (numsV (List.range 11)))) lm (.lst [V.ref D7, V.ref e0, V.ref c4, V.ref R2])) e0 = some (.lst []) := x36 _ _ (b1 _ _ ne0 (x2 _ _ upd_same))
          have g9 := bac _ _ n9pu ha9
          have Wc := Wa.but bac nq (pul Pa)
          have Wc1 := Wa1.but bac nl1 (pul Pa)
          have Pc := Pb.same x36
          have Tc := tabs_but bac (pul Pa) Ta
          obtain ⟨Gc, eG⟩ : ∃ X, X = upd (upd (upd (upd Gb c3 (.lst (((L1.take 4).map fun x : Nat => (x : Int)).map V.int))) c4 (.lst ((M.map fun x : Nat => (x : Int)).map V.int))) R2 (.lst (numsV (List.range 11)))) lm (.lst [V.ref D7, V.ref e0, V.ref c4, V.ref R2]) := ⟨_, rfl⟩
          rw [← eG] at g1 g2 g4 g5 g6 g9 Wc Wc1 Pc Tc bac ⊢
          clear eG x36 x6 x5 x4 x3 hlm hR2 hc4 hc3 et e1 b1 Pb n1 x12 x2 x1 hR' he0 Ta Pa ha9 hEa Wa Wa1
          refine ⟨lm, rfl, ⟨_, SqL.of g6⟩, ?_⟩
          refine for_list (xs := [V.ref D7, V.ref e0, V.ref c4, V.ref R2]) (fun i σ G => Same Gc G ∧ ∃ v5 v10 v11, σ = [some (.ref pu), some (.ref q), v2, v3, some (.int (m : Nat)), v5, some (.ref D6), some (.ref D7), some (.ref l1), some (.ref q9), v10, v11, none])
            ⟨Same.refl _, none, none, none, rfl⟩ (fun i σ G _ hh => SqL.of (hh.1 _ _ g6)) ?_ ?_
          · rintro i y σ G hy ⟨sG, v5, v10, v11, rfl⟩
            obtain ⟨ai, ms, rfl, hms0, hpm⟩ : ∃ ai ms, y = V.ref ai ∧ Gc ai = some (.lst (numsV ms)) ∧ PlOk 11 ms := by
              match i with
              | 0 => cases hy; exact ⟨_, _, rfl, g1, pl⟩
              | 1 => cases hy; exact ⟨_, [], rfl, g2, ⟨.nil, fun p h => nomatch h⟩⟩
              | 2 => cases hy; exact ⟨_, _, rfl, g4, hPl⟩
              | 3 => cases hy; exact ⟨_, _, rfl, g5, ⟨List.pairwise_lt_range, fun p h => List.mem_range.mp h⟩⟩
              | i + 4 => simp at hy
            have lms := hpm.len
            have hms := sG _ _ hms0
            refine ⟨_, rfl, _, rfl, ai, _, rfl, .inl (SqL.of hms), fun l2 hl2 => ?_⟩
            have x1 := Same.updf (o := .lst (numsV ms)) hl2
            have sx1 := sG.trans x1
            refine ⟨l1, l2, ws, ms, rfl, ⟨Wc1.same sx1, hl, by omega⟩, upd_same, by omega, hpm.asc, fun q11 G1 s1 n11 hL => ?_⟩
            obtain ⟨Gs, eGs⟩ : ∃ X, X = upd G l2 (.lst (numsV ms)) := ⟨_, rfl⟩
            rw [← eGs] at sx1 s1 n11 hL
            clear eGs x1
            have s1c := sx1.trans s1
            refine via_nx ?_
            refine ⟨_, rfl, _, rfl, (by show 2 ≤ sizeLine; omega), fun b1 hb1 => ?_⟩
            have x2 := Same.updf (o := .lst [V.ref q11, V.ref l1]) hb1
            have s2c := s1c.trans x2
            refine ⟨_, rfl, _, rfl, q, ai, ws, ms, rfl, Wc.same s2c, by omega, s2c _ _ hms0, by omega, fun q12 G2 s2 n12 hL2 => ?_⟩
            refine ⟨_, rfl, (by show 2 ≤ sizeLine; omega), fun b2 hb2 => ?_⟩
            have x3 := Same.updf (o := .lst [V.ref q12, V.ref q]) hb2
            have x23 := x2.trans (s2.trans x3)
            have eo : (List.range ms.length).map (ownAt ws ms) = (List.range ms.length).map (servedBy ws ms) := List.map_congr_left fun i hi => own_served (List.mem_range.mp hi)
            rw [eo] at hL2
            have sbl : ∀ l ∈ (List.range ms.length).map (servedBy ws ms), l.length ≤ 5 := fun l hl' => by
              obtain ⟨i, _, rfl⟩ := List.mem_map.mp hl'
              have := List.length_filter_le (fun k => decide (firstAt ms (ws.getD k (0, 0)) = [i])) (List.range ws.length)
              rw [List.length_range] at this
              unfold servedBy
              omega
            have lL : ((List.range ms.length).map (servedBy ws ms)).length ≤ 11 := by
              rw [List.length_map, List.length_range]
              exact lms
            refine ⟨.ref b1, .ref b2, .list [.list (((List.range ms.length).map (servedBy ws ms)).map fun l => .list (l.map fun x : Nat => PyData.int (x : Int))), .list (ws.map pd)], rfl,
              TD.lst ((s2.trans x3) _ _ (upd_same (a := b1) (o := .lst [V.ref q11, V.ref l1]))) rfl (Nat.le_of_ble_eq_true rfl) (td_cons (lls_td 6 (hL.same x23) (by omega) (fun l h => by have := sbl l h; omega)) (td_cons (wts_td 6 (Wc1.same (s1c.trans x23)) (by omega)) td_nil)),
              TD.lst upd_same rfl (Nat.le_of_ble_eq_true rfl) (td_cons (lls_td 6 (hL2.same x3) (by omega) (fun l h => by have := sbl l h; omega)) (td_cons (wts_td 6 (Wc.same (s1c.trans x23)) (by omega)) td_nil)), fun G3 s3 => ⟨_, rfl, iteF ?_⟩⟩
            have s13 := x23.trans s3
            obtain ⟨ys, hys, pys⟩ := hL.same s13
            have ly := paired_len pys
            have sc3 := s1c.trans s13
            clear x2 x3 x23 hb1 hb2 hL hL2 s2c s13 s3 s2
            refine via_nx ?_
            refine ⟨_, rfl, q11, rfl, ⟨_, SqL.of hys⟩, ?_⟩
            have tin : ∀ T, V.ref T ∈ ys → T ≠ q11 ∧ Gs T = none ∧ ∃ l, G3 T = some (.lst l) ∧ l.length ≤ 5 := fun T hm => by
              obtain ⟨i, hi, e⟩ := List.getElem_of_mem hm
              obtain ⟨l, g1, T', e', nT, hT'⟩ := paired_get2 pys (show ys[i]? = some (V.ref T) by rw [List.getElem?_eq_getElem hi, e])
              obtain rfl := V.ref.inj e'
              refine ⟨fun z => ?_, nT, _, hT', by unfold numsV; rw [List.length_map]; exact sbl l (List.mem_of_getElem? g1)⟩
              rw [z, hys] at hT'
              have hT' := HO.lst.inj (Option.some.inj hT')
              rw [hT'] at hm
              obtain ⟨x, _, z⟩ := List.mem_map.mp hm
              cases z
            refine for_list (xs := ys) (fun j σ G' => (∀ c o, V.ref c ∉ ys → G3 c = some o → G' c = some o) ∧ (∀ T, V.ref T ∈ ys → ∃ l, G' T = some (.lst l) ∧ l.length ≤ 5 + j) ∧ ∃ v5, σ = [some (.ref pu), some (.ref q), v2, v3, some (.int (m : Nat)), v5, some (.ref D6), some (.ref D7), some (.ref l1), some (.ref q9), some (.ref ai), some (.ref q11), none])
              ⟨fun c o _ e => e, fun T hm => (tin T hm).2.2, v5, rfl⟩ (fun j σ G' _ hh => SqL.of (hh.1 _ _ (fun z => (tin _ z).1 rfl) hys)) ?_ ?_
            · rintro j y σ G' hy ⟨bJ, tJ, v5', rfl⟩
              have hj : j < ys.length := (List.getElem?_eq_some_iff.mp hy).1
              obtain ⟨l, g1', T, rfl, nT, hT'⟩ := paired_get2 pys hy
              have mT := List.mem_of_getElem? hy
              obtain ⟨lx, h1, h2⟩ := tJ T mT
              refine ⟨_, rfl, Or.inl ⟨rfl, _, SqL.of h1⟩, T, _, _, rfl, rfl, h1, by omega, ?_⟩
              refine ⟨fun c o nc e => by rw [upd_ne (fun z : c = T => nc (by rw [z]; exact mT))]; exact bJ c o nc e, fun T2 m2 => ?_, _, rfl⟩
              by_cases z : T2 = T
              · rw [z, upd_same]
                exact ⟨_, rfl, by rw [List.length_append]; show _ + 1 ≤ _; omega⟩
              · rw [upd_ne z]
                obtain ⟨l', k1, k2⟩ := tJ T2 m2
                exact ⟨l', k1, by omega⟩
            · rintro σ G' ⟨bJ, tJ, v5', rfl⟩
              exact ⟨fun c o e => bJ c o (fun z => by have := (tin c z).2.1; rw [sx1 _ _ e] at this; cases this) (sc3 _ _ e), _, _, _, rfl⟩
          · rintro σ Gd ⟨sd, v5, v10, v11, rfl⟩
            refine via_nx ?_
            have hd9 := sd _ _ g9
            have hdE := sd _ _ g1
            refine ⟨_, rfl, Or.inl ⟨rfl, _, SqL.of hd9⟩, q9, _, _, rfl, rfl, hd9, (by unfold numsV; rw [List.length_map]; omega), ?_⟩
            have b9 : But q9 Gd (upd Gd q9 (.lst (numsV (ends ws) ++ [V.non]))) := But.upd'
            have We := (Wc.same sd).but b9 nq8 ⟨_, hd9⟩
            have hEe := b9 _ _ nD78 hdE
            have Te := tabs_but b9 ⟨_, hd9⟩ (tabs_same sd Tc)
            obtain ⟨Ge, eG⟩ : ∃ X, X = upd Gd q9 (.lst (numsV (ends ws) ++ [V.non])) := ⟨_, rfl⟩
            rw [← eG] at b9 We hEe Te ⊢
            clear eG
            refine via_nx ?_
            refine ⟨_, rfl, q, ws, rfl, ⟨We, hl, by omega⟩, Te, fun q13 Gf ef Tf n13 h13 => ?_⟩
            have hEf := ef _ _ hEe (fun ps z => by cases z)
            refine ⟨_, rfl, .ref q13, .ref D7, _, rfl, nums_td 8 h13 (by omega), nums_td 8 hEf (by omega), fun Gg sg => ?_⟩
            have tail : ∀ c o, c ≠ q9 → Gc c = some o → (∀ ps, o ≠ .tbl ps) → Gg c = some o := fun c o n e nt => sg _ _ (ef _ _ (b9 _ _ n (sd _ _ e)) nt)
            refine k _ (fun c o n e nt => ?_) ?_ (tabs_same sg Tf)
            · have e8 := bH8 c o n e
              refine tail c o (fun z => ?_) (bac _ _ n (eHa _ _ e8 nt)) nt
              rw [z] at e8
              obtain ⟨ps, z2⟩ := n9 _ e8
              exact nt ps z2
            · obtain ⟨A0, B0, c0, i0, eP, rr⟩ := Pc.at_
              exact Purse.mono ⟨A0, B0, c0, i0, tail _ _ n9pu.symm eP (fun ps z => by cases z), rr⟩ (by omega)
end
end K18
set_option Elab.async false
set_option linter.all false
set_option maxRecDepth 100000
set_option maxHeartbeats 8000000
/-! The law. -/
namespace K18
open PySem PySem.Spec PyProof.Rows L2 KB LamX
def due3 : List (Nat × Nat) := [(10, 999999), (5, 12), (999990, 999999)]
theorem due3_sort : byEnd due3 = [(5, 12), (10, 999999), (999990, 999999)] := by
  unfold byEnd due3
  simp [List.mergeSort, List.MergeSort.Internal.splitInTwo, List.merge]
theorem due3_ends : ends due3 = [12, 999999] := by
  unfold ends apart
  rw [due3_sort]
  rfl
theorem due3_served : (List.range 2).map (servedBy due3 [12, 999999]) = [[0, 1], [2]] := by decide +kernel
theorem alone1 : aloneL [.bar] [] = [0] := by decide +kernel
theorem gone2 : goneL [.bar, .bar] [] (bars [.bar, .bar]).length = [0, 1] := by decide +kernel
theorem bare1 : bareL [.bar] = [] := by decide +kernel
def spLaw (K : PySem.W.Frag) : Sp := fun vs H Q _ => ∃ (a : Addr) (ns : List Int), vs = [.ref a] ∧ SqL K H a (ns.map V.int) ∧ Tabs (TbK K) H ∧ ∀ H', Q (.bl true) H'
section
variable {P : Program} {w : World} {K : PySem.W.Frag} {mg : Str → Option Value} {base : Heap}
abbrev s_law : Stmt := top 59
abbrev N_law : List Str := ["_law_script", "_law_purse_here", "_law_most", "_law_run_here", "_law_waits", "_law_bars", "_law_due", "_law_event_here"]
theorem sc_law : FnScope N_law ["_law_script"] (defScope s_law) := ⟨rfl, rfl, rfl, by decide +kernel, rfl, by decide +kernel, by decide +kernel⟩
theorem ok_law {f : Addr} {fd : FuncData} (F : FnP K "law" s_law f fd) (Z : FreeS mg)
    {f_purse : Addr} {d_purse : FuncData} (g_purse : mg "_law_purse" = some (.ref f_purse)) (F_purse : FnP K "_law_purse" s_purse f_purse d_purse) (G_purse : FnOk P w K mg base CX0 1 f_purse d_purse ["_law_script", "_law_at"] (spPurse K))
    {f_exact : Addr} {d_exact : FuncData} (g_exact : mg "_law_exact" = some (.ref f_exact)) (F_exact : FnP K "_law_exact" s_exact f_exact d_exact) (GA_exact : ∀ n : Nat, FnOk P w K mg base CX0 (n + 1) f_exact d_exact ["_law_mine", "_law_theirs"] (spExactD K n))
    {f_run : Addr} {d_run : FuncData} (g_run : mg "_law_run" = some (.ref f_run)) (F_run : FnP K "_law_run" s_run f_run d_run) (G_run : FnOk P w K mg base CX0 4 f_run d_run ["_law_purse_here", "_law_most"] (spRun K))
    {f_some_waits : Addr} {d_some_waits : FuncData} (g_some_waits : mg "_law_some_waits" = some (.ref f_some_waits)) (F_some_waits : FnP K "_law_some_waits" s_some_waits f_some_waits d_some_waits) (G_some_waits : FnOk P w K mg base CX0 3 f_some_waits d_some_waits ["_law_purse_here", "_law_run_here", "_law_few"] (spSomeW K))
    {f_left_right : Addr} {d_left_right : FuncData} (g_left_right : mg "_law_left_right" = some (.ref f_left_right)) (F_left_right : FnP K "_law_left_right" s_left_right f_left_right d_left_right) (G_left_right : FnOk P w K mg base CX0 11 f_left_right d_left_right ["_law_run_here", "_law_waits"] (spLeftR K))
    {f_needless : Addr} {d_needless : FuncData} (g_needless : mg "needless" = some (.ref f_needless)) (F_needless : FnP K "needless" s_needless f_needless d_needless) (G_needless : FnOk P w K mg base CX0 7 f_needless d_needless ["run", "waits"] (spNeedless K))
    {f_spared : Addr} {d_spared : FuncData} (g_spared : mg "spared" = some (.ref f_spared)) (F_spared : FnP K "spared" s_spared f_spared d_spared) (G_spared : FnOk P w K mg base CX0 7 f_spared d_spared ["run", "waits"] (spSpared K))
    {f_bare : Addr} {d_bare : FuncData} (g_bare : mg "bare" = some (.ref f_bare)) (F_bare : FnP K "bare" s_bare f_bare d_bare) (G_bare : FnOk P w K mg base CX0 6 f_bare d_bare ["run"] (spBare K))
    {f_draw : Addr} {d_draw : FuncData} (g_draw : mg "_law_draw" = some (.ref f_draw)) (F_draw : FnP K "_law_draw" s_draw f_draw d_draw) (G_draw : FnOk P w K mg base CX0 2 f_draw d_draw ["_law_purse_here", "_law_many"] spDraw)
    {f_put_right : Addr} {d_put_right : FuncData} (g_put_right : mg "_law_put_right" = some (.ref f_put_right)) (F_put_right : FnP K "_law_put_right" s_put_right f_put_right d_put_right) (G_put_right : FnOk P w K mg base CX0 11 f_put_right d_put_right ["_law_purse_here", "_law_run_here", "_law_waits"] (spPutR K))
    {f_syncs_right : Addr} {d_syncs_right : FuncData} (g_syncs_right : mg "_law_syncs_right" = some (.ref f_syncs_right)) (F_syncs_right : FnP K "_law_syncs_right" s_syncs_right f_syncs_right d_syncs_right) (G_syncs_right : FnOk P w K mg base CX0 11 f_syncs_right d_syncs_right ["_law_purse_here"] (spSyncsR K))
    {f_syncs : Addr} {d_syncs : FuncData} (g_syncs : mg "syncs" = some (.ref f_syncs)) (F_syncs : FnP K "syncs" s_syncs f_syncs d_syncs) (G_syncs : FnOk P w K mg base CX0 6 f_syncs d_syncs ["due"] (spSyncs K))
    {f_served : Addr} {d_served : FuncData} (g_served : mg "served" = some (.ref f_served)) (F_served : FnP K "served" s_served f_served d_served) (G_served : FnOk P w K mg base CX0 6 f_served d_served ["due", "moments"] (spServed K)) :
    FnOk P w K mg base CX0 12 f fd ["_law_script"] (spLaw K) := by
  have b_purse : Binds K d_purse ["_law_script", "_law_at"] [] := F_purse.bindsN fun _ _ _ _ _ _ us hl => match us, hl with | [_, _], _ => rfl
  have b_exact : Binds K d_exact ["_law_mine", "_law_theirs"] [] := F_exact.bindsN fun _ _ _ _ _ _ us hl => match us, hl with | [_, _], _ => rfl
  have b_run : Binds K d_run ["_law_purse_here", "_law_most"] [] := F_run.bindsN fun _ _ _ _ _ _ us hl => match us, hl with | [_, _], _ => rfl
  have b_some_waits : Binds K d_some_waits ["_law_purse_here", "_law_run_here", "_law_few"] [] := F_some_waits.bindsN fun _ _ _ _ _ _ us hl => match us, hl with | [_, _, _], _ => rfl
  have b_left_right : Binds K d_left_right ["_law_run_here", "_law_waits"] [] := F_left_right.bindsN fun _ _ _ _ _ _ us hl => match us, hl with | [_, _], _ => rfl
  have b_needless : Binds K d_needless ["run", "waits"] [] := F_needless.bindsN fun _ _ _ _ _ _ us hl => match us, hl with | [_, _], _ => rfl
  have b_spared : Binds K d_spared ["run", "waits"] [] := F_spared.bindsN fun _ _ _ _ _ _ us hl => match us, hl with | [_, _], _ => rfl
  have b_bare : Binds K d_bare ["run"] [] := F_bare.bindsN fun _ _ _ _ _ _ us hl => match us, hl with | [_], _ => rfl
  have b_draw : Binds K d_draw ["_law_purse_here", "_law_many"] [] := F_draw.bindsN fun _ _ _ _ _ _ us hl => match us, hl with | [_, _], _ => rfl
  have b_put_right : Binds K d_put_right ["_law_purse_here", "_law_run_here", "_law_waits"] [] := F_put_right.bindsN fun _ _ _ _ _ _ us hl => match us, hl with | [_, _, _], _ => rfl
  have b_syncs_right : Binds K d_syncs_right ["_law_purse_here"] [] := F_syncs_right.bindsN fun _ _ _ _ _ _ us hl => match us, hl with | [_], _ => rfl
  have b_syncs : Binds K d_syncs ["due"] [] := F_syncs.bindsN fun _ _ _ _ _ _ us hl => match us, hl with | [_], _ => rfl
  have b_served : Binds K d_served ["due", "moments"] [] := F_served.bindsN fun _ _ _ _ _ _ us hl => match us, hl with | [_, _], _ => rfl
  refine F.ok sc_law (fun vs H Q E h => ?_) (fun cdv A outer s H vs Q E hr h => ?_)
  · obtain ⟨a, ns, rfl, _⟩ := h
    rfl
  · obtain ⟨a, ns, rfl, hS, hT, k⟩ := h
    have sl : (10000 : Nat) ≤ sizeLine := by decide
    have nd := sc_law.nd
    refine ⟨_, PSs.nox (pss_cons (ps_set (i := 1) nd rfl (Or.inl rfl) (pe_call G_purse (hr.mono (by decide)) rfl g_purse F_purse.kp b_purse .nil pass0 (pa_cons (pv 0) (pa_cons (pe_int) (pa_nil)))))
      (pss_cons (ps_for PassesOwn.never rfl (pi_tup (pe_tup (pa_cons (pe_int) (pa_cons (pe_int) (pa_cons (pe_int) (pa_nil)))))) (pg_name (i := 2) nd rfl (Or.inl rfl))
        (pss_cons (ps_set (i := 3) nd rfl (Or.inl rfl) (pe_call G_run (hr.mono (by decide)) rfl g_run F_run.kp b_run .nil pass0 (pa_cons (pv 1) (pa_cons (pv 2) (pa_nil)))))
      (pss_cons (ps_set (i := 4) nd rfl (Or.inl rfl) (pe_call G_some_waits (hr.mono (by decide)) rfl g_some_waits F_some_waits.kp b_some_waits .nil pass0 (pa_cons (pv 1) (pa_cons (pv 3) (pa_cons (pe_op op_add (pe_int) (pe_call G_draw (hr.mono (by decide)) rfl g_draw F_draw.kp b_draw .nil pass0 (pa_cons (pv 1) (pa_cons (pe_int) (pa_nil))))) (pa_nil))))))
      (pss_cons (ps_if (PW.pt (pw_or (pt_not (pt_val (pe_call G_put_right (hr.mono (by decide)) rfl g_put_right F_put_right.kp b_put_right .nil pass0 (pa_cons (pv 1) (pa_cons (pv 3) (pa_cons (pv 4) (pa_nil))))))) (pw_or (pt_not (pt_val (pe_call G_left_right (hr.mono (by decide)) rfl g_left_right F_left_right.kp b_left_right .nil pass0 (pa_cons (pv 3) (pa_cons (pv 4) (pa_nil)))))) (pw_or1 (pt_not (pt_val (pe_call G_syncs_right (hr.mono (by decide)) rfl g_syncs_right F_syncs_right.kp b_syncs_right .nil pass0 (pa_cons (pv 1) (pa_nil))))))))) (pss_one (ps_ret (pe_bl))) (pss_nil))
      (pss_cons (ps_set (i := 5) nd rfl (Or.inl rfl) (pe_op op_cat (pe_lc (own := [("_law_event_here", 7)]) (g := gName 7) (tt := tTest (tOp rNe (tOp (rIxT K) (tVar 7) (tC (.int 0))) (tC (.str "tell")))) (te := tVar 7) (by rfl) nd (pi_list (pv 3))
          (blkOk_by (own := [("_law_event_here", 7)]) (N := N_law) (sc := defScope s_law) (by decide +kernel)) (fun _ _ _ _ _ => pg_name (i := 7) nd rfl (Or.inl rfl)) (fun _ _ _ _ _ => pts_one (pt_cmpR op_ne (pe_ix ix_tup (pv 7) (pe_int) (fun _ _ => rfl)) (pe_str) (nomark _)))
          (fun _ _ _ _ _ => pv 7)) (pe_lst (pa_cons (pe_tup (pa_cons (pe_str) (pa_nil))) (pa_cons (pe_tup (pa_cons (pe_str) (pa_nil))) (pa_cons (pe_tup (pa_cons (pe_str) (pa_nil))) (pa_nil)))))))
      (pss_one (ps_if (pt_not (pt_val (pe_call G_left_right (hr.mono (by decide)) rfl g_left_right F_left_right.kp b_left_right .nil pass0 (pa_cons (pv 5) (pa_cons (pe_call G_some_waits (hr.mono (by decide)) rfl g_some_waits F_some_waits.kp b_some_waits .nil pass0 (pa_cons (pv 1) (pa_cons (pv 5) (pa_cons (pe_int) (pa_nil))))) (pa_nil)))))) (pss_one (ps_ret (pe_bl))) (pss_nil))))))))
      (pss_cons (ps_set (i := 6) nd rfl (Or.inl rfl) (pe_lst (pa_cons (pe_tup (pa_cons (pe_int) (pa_cons (pe_int) (pa_nil)))) (pa_cons (pe_tup (pa_cons (pe_int) (pa_cons (pe_int) (pa_nil)))) (pa_cons (pe_tup (pa_cons (pe_int) (pa_cons (pe_int) (pa_nil)))) (pa_nil))))))
      (pss_cons (ps_if (pt_not (pt_val (pe_call (GA_exact 9) (hr.mono (by decide)) rfl g_exact F_exact.kp b_exact .nil pass0 (pa_cons (pe_lst (pa_cons (pe_call G_syncs (hr.mono (by decide)) rfl g_syncs F_syncs.kp b_syncs .nil pass0 (pa_cons (pv 6) (pa_nil))) (pa_cons (pe_call G_served (hr.mono (by decide)) rfl g_served F_served.kp b_served .nil pass0 (pa_cons (pv 6) (pa_cons (pe_lst (pa_cons (pe_int) (pa_cons (pe_int) (pa_nil)))) (pa_nil)))) (pa_nil)))) (pa_cons (pe_lst (pa_cons (pe_lst (pa_cons (pe_int) (pa_cons (pe_int) (pa_nil)))) (pa_cons (pe_lst (pa_cons (pe_lst (pa_cons (pe_int) (pa_cons (pe_int) (pa_nil)))) (pa_cons (pe_lst (pa_cons (pe_int) (pa_nil))) (pa_nil)))) (pa_nil)))) (pa_nil)))))) (pss_one (ps_ret (pe_bl))) (pss_nil))
      (pss_one (ps_ret (pe_call (GA_exact 9) (hr.mono (by decide)) rfl g_exact F_exact.kp b_exact .nil pass0 (pa_cons (pe_lst (pa_cons (pe_call G_needless (hr.mono (by decide)) rfl g_needless F_needless.kp b_needless .nil pass0 (pa_cons (pe_lst (pa_cons (pe_tup (pa_cons (pe_str) (pa_nil))) (pa_nil))) (pa_cons (pe_lst (pa_nil)) (pa_nil)))) (pa_cons (pe_call G_spared (hr.mono (by decide)) rfl g_spared F_spared.kp b_spared .nil pass0 (pa_cons (pe_lst (pa_cons (pe_tup (pa_cons (pe_str) (pa_nil))) (pa_cons (pe_tup (pa_cons (pe_str) (pa_nil))) (pa_nil)))) (pa_cons (pe_lst (pa_nil)) (pa_nil)))) (pa_cons (pe_call G_bare (hr.mono (by decide)) rfl g_bare F_bare.kp b_bare .nil pass0 (pa_cons (pe_lst (pa_cons (pe_tup (pa_cons (pe_str) (pa_nil))) (pa_nil))) (pa_nil))) (pa_nil))))) (pa_cons (pe_lst (pa_cons (pe_lst (pa_cons (pe_int) (pa_nil))) (pa_cons (pe_lst (pa_cons (pe_int) (pa_cons (pe_int) (pa_nil)))) (pa_cons (pe_lst (pa_nil)) (pa_nil))))) (pa_nil)))))))))), ?_⟩
    refine ⟨_, rfl, a, ns, 0, rfl, hS, fun pu H1 s1 hpu P1 => ?_⟩
    have T1 := tabs_same s1 hT
    refine ⟨(by show 3 ≤ sizeLine; omega), fun Tm hTm => ⟨Tm, rfl, ⟨_, SqT.of upd_same⟩, ?_⟩⟩
    have sTm := Same.updf (o := .tup [V.int 9, V.int 7, V.int 8]) hTm
    have nTm : Tm ≠ pu := fresh_ne P1 hTm
    refine for_it (n := 3) (walk_tup (K := K) (a := Tm) (xs := [V.int 9, V.int 7, V.int 8])) (fun i σ G => (∃ M, Purse G pu M ∧ M ≤ 10000 * i) ∧ Tabs (TbK K) G ∧ G Tm = some (.tup [V.int 9, V.int 7, V.int 8]) ∧ ∃ v2 v3 v4 v5, σ = [some (.ref a), some (.ref pu), v2, v3, v4, v5, none, none])
      ⟨⟨_, P1.same sTm, by omega⟩, tabs_same sTm T1, upd_same, none, none, none, none, rfl⟩ (fun i σ G _ hh => SqT.of hh.2.2.1) ?_ ?_
    · rintro i x σ G' G hi ⟨⟨M, PG, lM⟩, TG, hTm, v2, v3, v4, v5, rfl⟩ ⟨rfl, hx⟩
      obtain ⟨mo, rfl, hmo⟩ : ∃ mo : Nat, x = .int (mo : Int) ∧ 1 ≤ mo ∧ mo ≤ 9 := by
        match i with
        | 0 => cases hx; exact ⟨9, rfl, by decide⟩
        | 1 => cases hx; exact ⟨7, rfl, by decide⟩
        | 2 => cases hx; exact ⟨8, rfl, by decide⟩
        | i + 3 => simp at hx
      have hi : i < 3 := hi
      have m2 : mixes 2 = 1 := mixes_one (by decide) (by decide)
      refine ⟨_, rfl, _, rfl, pu, mo, M, rfl, PG, by omega, by omega, by omega, fun q es G1 b1 P1 nq0 hR le => ?_⟩
      have pul : ∀ {G : Hp} {M : Nat}, Purse G pu M → ∃ xs, G pu = some (.lst xs) := fun h => by
        obtain ⟨A0, B0, c0, i0, eP, _⟩ := h
        exact ⟨_, eP⟩
      have nq : q ≠ pu := fresh_ne PG nq0
      have T1 := tabs_but b1 (pul PG) TG
      have h1 := b1 _ _ nTm hTm
      refine via_nx ?_
      refine ⟨_, rfl, _, rfl, _, rfl, pu, 2, _, rfl, by decide, log_small (by decide) (by decide), P1, by rw [m2]; omega, by rw [m2]; omega, fun r G2 r0 r1 b2 P2 => ?_⟩
      rw [m2] at P2
      obtain ⟨r, rfl⟩ : ∃ z : Nat, r = (z : Int) := ⟨r.toNat, by omega⟩
      have hR2 := hR.same (but_off b2)
      have T2 := tabs_but b2 (pul P1) T1
      have h2 := b2 _ _ nTm h1
      refine ⟨_, _, rfl, rfl, pu, q, es, 2 + r, _, rfl, P2, by omega, by omega, by omega, hR2.same (off_le _ _), by omega, fun q2 ws G3 b3 P3 nq2 hW => ?_⟩
      have n2 : q2 ≠ pu := fresh_ne P2 nq2
      have hR3 := hR2.same (but_off b3)
      have T3 := tabs_but b3 (pul P2) T2
      have h3 := b3 _ _ nTm h2
      refine via_nx ?_
      refine norm (σ' := [some (.ref a), some (.ref pu), some (.int (mo : Nat)), some (.ref q), some (.ref q2), v5, none, none]) rfl ?_
      refine ⟨_, rfl, _, rfl, _, rfl, pu, q, q2, es, ws, _, rfl, P3, by omega, nq, n2, hR3, by omega, hW, T3, fun G4 b4 P4 T4 => ⟨_, rfl, iteF ?_⟩⟩
      have hR4 := hR3.ext (butN_off b4)
      have hW4 := hW.ext (butN_off b4)
      have h4 := b4 _ _ nTm h3 (fun ps z => by cases z)
      refine ⟨_, rfl, _, rfl, q, q2, es, ws, rfl, hR4.same (off_le _ _), hW4.same (off_le _ _), fun G5 s5 => ⟨_, rfl, iteF ?_⟩⟩
      have hR5 := hR4.same (off_same pu s5)
      refine ⟨_, rfl, pu, _, rfl, P4.same s5, by omega, tabs_same s5 T4, fun G6 b6 P6 T6 => ⟨_, rfl, iteF ?_⟩⟩
      have hR6 := hR5.ext (butN_off b6)
      have h6 := b6 _ _ nTm (s5 _ _ h4) (fun ps z => by cases z)
      clear hR hR2 hR3 hR4 hR5 hW hW4 T1 T2 T3 T4 h1 h2 h3 h4 b1 b2 b3 b4 b6 s5 P1 P2 P3 P4 hTm TG
      refine via_nx ?_
      have hR7 := hR6.same (off_le G6 pu)
      obtain ⟨tq, hq, ltq, htq⟩ := hR7.at_.got
      refine ⟨_, rfl, q, rfl, ⟨_, SqL.of hq⟩, fun D hD => ?_⟩
      have l100 := hR7.len
      have nD : D ≠ pu := fresh_ne P6 hD
      refine ls_rel (xs := es) (vv := Ev.v) (fun e => decide (e ≠ Ev.tell)) (fun e y G => ∃ t, y = .ref t ∧ SqT K G t e.v) (fun e y G G' s ⟨t, h1, h2⟩ => ⟨t, h1, SqT_up s h2⟩) (by omega) hR7.at_ hD ?_ ?_
      · rintro e t Ga Qy Qn hm sa hacc he heo ky_ kn
        cases e with
        | wr c => exact ⟨rfl, _, rfl, t, _, 0, _, rfl, rfl, he, rfl, rfl, _, rfl, iteT ⟨_, rfl, ky_ _ _ rfl (Same.refl _) ⟨t, rfl, heo⟩⟩⟩
        | bar => exact ⟨rfl, _, rfl, t, _, 0, _, rfl, rfl, he, rfl, rfl, _, rfl, iteT ⟨_, rfl, ky_ _ _ rfl (Same.refl _) ⟨t, rfl, heo⟩⟩⟩
        | tell => exact ⟨rfl, _, rfl, t, _, 0, _, rfl, rfl, he, rfl, rfl, _, rfl, iteF (kn _ rfl (Same.refl _))⟩
      · intro G8 ys s8 hys py
        obtain ⟨es1, ees⟩ : ∃ x, x = es.filter fun e => decide (e ≠ Ev.tell) := ⟨_, rfl⟩
        have les := List.length_filter_le (fun e => decide (e ≠ Ev.tell)) es
        rw [← ees] at les py
        have hB : RunAt K G8 D es1 := LsT.of_paired hys (paired_mono (fun x y ⟨t, e, h⟩ => ⟨t, e, SqT_up (off_le _ _) h⟩) py)
        obtain ⟨tb, hb, pb⟩ := hB.pd
        have ltb := paired_len pb
        refine ⟨(by show 1 ≤ sizeLine; omega), fun t1 ht1 => ⟨(by show 1 ≤ sizeLine; omega), fun t2 ht2 => ⟨(by show 1 ≤ sizeLine; omega), fun t3 ht3 => ⟨(by show 3 ≤ sizeLine; omega), fun b3 hb3 => ?_⟩⟩⟩⟩
        have x1 := Same.updf (o := .tup [V.str "barrier"]) ht1
        have x2 := Same.updf (o := .tup [V.str "barrier"]) ht2
        have x3 := Same.updf (o := .tup [V.str "tell"]) ht3
        have x4 := Same.updf (o := .lst [V.ref t1, V.ref t2, V.ref t3]) hb3
        have f1 := ((x2.trans x3).trans x4) _ _ (upd_same (a := t1) (o := .tup [V.str "barrier"]))
        have f2 := (x3.trans x4) _ _ (upd_same (H := upd G8 t1 (.tup [V.str "barrier"])) (a := t2) (o := .tup [V.str "barrier"]))
        have f3 := x4 _ _ (upd_same (H := upd (upd G8 t1 (.tup [V.str "barrier"])) t2 (.tup [V.str "barrier"])) (a := t3) (o := .tup [V.str "tell"]))
        have f4 := upd_same (H := upd (upd (upd G8 t1 (.tup [V.str "barrier"])) t2 (.tup [V.str "barrier"])) t3 (.tup [V.str "tell"])) (a := b3) (o := .lst [V.ref t1, V.ref t2, V.ref t3])
        have x14 := (x1.trans x2).trans (x3.trans x4)
        refine ⟨D, b3, _, _, rfl, rfl, x14 _ _ hys, f4, ?_, fun q5 hq5 => ?_⟩
        · have := List.length_map (f := V.ref) (as := tb)
          rw [hys] at hb
          have e := HO.lst.inj (Option.some.inj hb)
          rw [e, this]
          show _ + 3 ≤ _
          omega
        have x5 := Same.updf (o := .lst (ys ++ [V.ref t1, V.ref t2, V.ref t3])) hq5
        have x15 := x14.trans x5
        have ey : ys = tb.map V.ref := by
          rw [hys] at hb
          exact HO.lst.inj (Option.some.inj hb)
        have hBars : RunAt K (upd (upd (upd (upd (upd G8 t1 (.tup [V.str "barrier"])) t2 (.tup [V.str "barrier"])) t3 (.tup [V.str "tell"])) b3 (.lst [V.ref t1, V.ref t2, V.ref t3])) q5 (.lst (ys ++ [V.ref t1, V.ref t2, V.ref t3]))) q5 (es1 ++ [.bar, .bar, .tell]) := by
          refine LsT.of_pd (ts := tb ++ [t1, t2, t3]) (by rw [upd_same, ey, List.map_append]; rfl) (paired_app' (paired_mono' (fun _ _ h => SqT_up x15 h) pb) ?_)
          exact .cons (SqT.of (x5 _ _ f1)) (.cons (SqT.of (x5 _ _ f2)) (.cons (SqT.of (x5 _ _ f3)) .nil))
        have s6 := s8.trans x15
        have P9 := P6.same s6
        have nq5 : q5 ≠ pu := fresh_ne (P6.same (s8.trans x14)) hq5
        have T9 := tabs_same s6 T6
        have h9 := s6 _ _ h6
        obtain ⟨G9, eG⟩ : ∃ X, X = upd (upd (upd (upd (upd G8 t1 (.tup [V.str "barrier"])) t2 (.tup [V.str "barrier"])) t3 (.tup [V.str "tell"])) b3 (.lst [V.ref t1, V.ref t2, V.ref t3])) q5 (.lst (ys ++ [V.ref t1, V.ref t2, V.ref t3])) := ⟨_, rfl⟩
        rw [← eG] at hBars P9 T9 h9 ⊢
        clear eG x15 x5 x14 x4 x3 x2 x1 f1 f2 f3 f4 hq5 hb3 ht3 ht2 ht1 s6 hB hb pb hys py ey
        have hRB : RunOk K G9 q5 (es1 ++ [.bar, .bar, .tell]) := ⟨hBars, by simp, by rw [List.length_append]; show _ + 3 ≤ _; omega⟩
        have l12 : (es1 ++ [Ev.bar, .bar, .tell]).length ≤ 12 := by rw [List.length_append]; show _ + 3 ≤ _; omega
        refine via_nx ?_
        refine ⟨_, rfl, _, rfl, _, rfl, pu, q5, _, 3, _, rfl, P9, by omega, by decide, by decide, hRB, by omega, fun q6 ws' Ga ba Pa nq6 hWa => ?_⟩
        have hRo : RunOk K (off G9 pu) q5 (es1 ++ [.bar, .bar, .tell]) := ⟨hRB.at_.offp nq5 P9, hRB.ne, hRB.len⟩
        refine ⟨q5, q6, _, ws', rfl, (hRo.same (but_off ba)).same (off_le _ _), hWa.same (off_le _ _), fun Gb sb => ⟨_, rfl, iteF ?_⟩⟩
        exact ⟨⟨_, Pa.same sb, by omega⟩, tabs_same sb (tabs_but ba (pul P9) T9), sb _ _ (ba _ _ nTm h9), _, _, _, _, rfl⟩
    · rintro σ G ⟨⟨M, PG, lM⟩, TG, _, v2, v3, v4, v5, rfl⟩
      refine via_nx ?_
      refine ⟨(by show 2 ≤ sizeLine; omega), fun t1 ht1 => ⟨(by show 2 ≤ sizeLine; omega), fun t2 ht2 => ⟨(by show 2 ≤ sizeLine; omega), fun t3 ht3 => ⟨(by show 3 ≤ sizeLine; omega), fun qd hqd => ?_⟩⟩⟩⟩
      have x1 := Same.updf (o := .tup [V.int 10, V.int 999999]) ht1
      have x2 := Same.updf (o := .tup [V.int 5, V.int 12]) ht2
      have x3 := Same.updf (o := .tup [V.int 999990, V.int 999999]) ht3
      have x4 := Same.updf (o := .lst [V.ref t1, V.ref t2, V.ref t3]) hqd
      have f1 := ((x2.trans x3).trans x4) _ _ (upd_same (a := t1) (o := .tup [V.int 10, V.int 999999]))
      have f2 := (x3.trans x4) _ _ (upd_same (H := upd G t1 (.tup [V.int 10, V.int 999999])) (a := t2) (o := .tup [V.int 5, V.int 12]))
      have f3 := x4 _ _ (upd_same (H := upd (upd G t1 (.tup [V.int 10, V.int 999999])) t2 (.tup [V.int 5, V.int 12])) (a := t3) (o := .tup [V.int 999990, V.int 999999]))
      have f4 := upd_same (H := upd (upd (upd G t1 (.tup [V.int 10, V.int 999999])) t2 (.tup [V.int 5, V.int 12])) t3 (.tup [V.int 999990, V.int 999999])) (a := qd) (o := .lst [V.ref t1, V.ref t2, V.ref t3])
      have T4 := tabs_same ((x1.trans x2).trans (x3.trans x4)) TG
      obtain ⟨G4, eG⟩ : ∃ X, X = upd (upd (upd (upd G t1 (.tup [V.int 10, V.int 999999])) t2 (.tup [V.int 5, V.int 12])) t3 (.tup [V.int 999990, V.int 999999])) qd (.lst [V.ref t1, V.ref t2, V.ref t3]) := ⟨_, rfl⟩
      rw [← eG] at f1 f2 f3 f4 T4 ⊢
      clear eG x1 x2 x3 x4 ht1 ht2 ht3 hqd
      have hD : DueOk K G4 qd due3 := ⟨LsT.of_pd (ts := [t1, t2, t3]) f4 (.cons (SqT.of f1) (.cons (SqT.of f2) (.cons (SqT.of f3) .nil))), by decide, by decide⟩
      refine norm (σ' := [some (.ref a), some (.ref pu), v2, v3, v4, v5, some (.ref qd), none]) rfl ?_
      refine ⟨_, rfl, qd, due3, rfl, hD, T4, fun q1 G5 e5 T5 n1 h1 => ?_⟩
      rw [due3_ends] at h1
      refine ⟨_, rfl, (by show 2 ≤ sizeLine; omega), fun l1 hl1 => ?_⟩
      have y1 := Same.updf (o := .lst [V.int 12, V.int 999999]) hl1
      refine ⟨qd, l1, due3, [12, 999999], rfl, (hD.ext e5).same y1, upd_same, by decide, by decide, fun q2 G6 s6 n2 h2 => ?_⟩
      rw [show (List.range [12, 999999].length).map (servedBy due3 [12, 999999]) = [[0, 1], [2]] from due3_served] at h2
      refine ⟨(by show 2 ≤ sizeLine; omega), fun a1 ha1 => ?_⟩
      have y2 := Same.updf (o := .lst [V.ref q1, V.ref q2]) ha1
      refine ⟨(by show 2 ≤ sizeLine; omega), fun b1 hb1 => ⟨(by show 2 ≤ sizeLine; omega), fun b2 hb2 => ⟨(by show 1 ≤ sizeLine; omega), fun b3 hb3 => ⟨(by show 2 ≤ sizeLine; omega), fun b4 hb4 => ⟨(by show 2 ≤ sizeLine; omega), fun b5 hb5 => ?_⟩⟩⟩⟩⟩
      have z1 := Same.updf (o := .lst [V.int 12, V.int 999999]) hb1
      have z2 := Same.updf (o := .lst [V.int 0, V.int 1]) hb2
      have z3 := Same.updf (o := .lst [V.int 2]) hb3
      have z4 := Same.updf (o := .lst [V.ref b2, V.ref b3]) hb4
      have z5 := Same.updf (o := .lst [V.ref b1, V.ref b4]) hb5
      have z45 := z4.trans z5
      have z35 := z3.trans z45
      have z25 := z2.trans z35
      have z15 := z1.trans z25
      have w1 := z25 _ _ (upd_same (a := b1) (o := .lst [V.int 12, V.int 999999]))
      have w2 := z35 _ _ (upd_same (a := b2) (o := .lst [V.int 0, V.int 1]))
      have w3 := z45 _ _ (upd_same (a := b3) (o := .lst [V.int 2]))
      have w4 := z5 _ _ (upd_same (a := b4) (o := .lst [V.ref b2, V.ref b3]))
      have w5 := z15 _ _ (upd_same (a := a1) (o := .lst [V.ref q1, V.ref q2]))
      have h1' := (s6.trans (y2.trans z15)) _ _ (y1 _ _ h1)
      have h2' := h2.same (y2.trans z15)
      refine ⟨.ref a1, .ref b5, .list [.list [.int 12, .int 999999], .list [.list [.int 0, .int 1], .list [.int 2]]], rfl,
        TD.lst w5 rfl (Nat.le_of_ble_eq_true rfl) (td_cons (nums_td (l := [12, 999999]) 7 h1' (by decide)) (td_cons (lls_td (L := [[0, 1], [2]]) 6 h2' (by decide) (by decide)) td_nil)),
        TD.lst upd_same rfl (Nat.le_of_ble_eq_true rfl) (td_cons (nums_td (l := [12, 999999]) 7 w1 (by decide)) (td_cons (TD.lst (n := 7) w4 rfl (Nat.le_of_ble_eq_true rfl) (td_cons (nums_td (l := [0, 1]) 6 w2 (by decide)) (td_cons (nums_td (l := [2]) 6 w3 (by decide)) td_nil))) td_nil)), fun G7 s7 => ⟨_, rfl, iteF ?_⟩⟩
      clear w1 w2 w3 w4 w5 z1 z2 z3 z4 z5 z45 z35 z25 z15 h1' h2' hb1 hb2 hb3 hb4 hb5 ha1 hl1 h1 h2 y2 y1 s6 s7 hD f1 f2 f3 f4
      refine via_nx ?_
      refine ⟨(by show 1 ≤ sizeLine; omega), fun t1 ht1 => ⟨(by show 1 ≤ sizeLine; omega), fun l1 hl1 => ⟨(by show 0 ≤ sizeLine; omega), fun e1 he1 => ?_⟩⟩⟩
      have x1 := Same.updf (o := .tup [V.str "barrier"]) ht1
      have x2 := Same.updf (o := .lst [V.ref t1]) hl1
      have x3 := Same.updf (o := .lst []) he1
      have R1 : RunOk K (upd (upd (upd G7 t1 (.tup [V.str "barrier"])) l1 (.lst [V.ref t1])) e1 (.lst [])) l1 [.bar] := ⟨LsT.of_pd (ts := [t1]) (x3 _ _ upd_same) (.cons (SqT.of ((x2.trans x3) _ _ upd_same)) .nil), by decide, by decide⟩
      refine ⟨l1, e1, [.bar], [], rfl, R1, ⟨LsT.nil upd_same, ⟨(fun w h => nomatch h), .nil⟩, by decide⟩, fun q1 G8 s8 n8 h8 => ?_⟩
      rw [alone1] at h8
      refine ⟨(by show 1 ≤ sizeLine; omega), fun t2 ht2 => ⟨(by show 1 ≤ sizeLine; omega), fun t3 ht3 => ⟨(by show 2 ≤ sizeLine; omega), fun l2 hl2 => ⟨(by show 0 ≤ sizeLine; omega), fun e2 he2 => ?_⟩⟩⟩⟩
      have y1 := Same.updf (o := .tup [V.str "barrier"]) ht2
      have y2 := Same.updf (o := .tup [V.str "barrier"]) ht3
      have y3 := Same.updf (o := .lst [V.ref t2, V.ref t3]) hl2
      have y4 := Same.updf (o := .lst []) he2
      have R2 : RunOk K (upd (upd (upd (upd G8 t2 (.tup [V.str "barrier"])) t3 (.tup [V.str "barrier"])) l2 (.lst [V.ref t2, V.ref t3])) e2 (.lst [])) l2 [.bar, .bar] := ⟨LsT.of_pd (ts := [t2, t3]) (y4 _ _ upd_same) (.cons (SqT.of ((y2.trans (y3.trans y4)) _ _ upd_same)) (.cons (SqT.of ((y3.trans y4) _ _ upd_same)) .nil)), by decide, by decide⟩
      refine ⟨l2, e2, [.bar, .bar], [], rfl, R2, ⟨LsT.nil upd_same, ⟨(fun w h => nomatch h), .nil⟩, by decide⟩, fun q2 G9 s9 n9 h9 => ?_⟩
      rw [gone2] at h9
      refine ⟨(by show 1 ≤ sizeLine; omega), fun t4 ht4 => ⟨(by show 1 ≤ sizeLine; omega), fun l3 hl3 => ?_⟩⟩
      have u1 := Same.updf (o := .tup [V.str "barrier"]) ht4
      have u2 := Same.updf (o := .lst [V.ref t4]) hl3
      have R3 : RunOk K (upd (upd G9 t4 (.tup [V.str "barrier"])) l3 (.lst [V.ref t4])) l3 [.bar] := ⟨LsT.of_pd (ts := [t4]) upd_same (.cons (SqT.of (u2 _ _ upd_same)) .nil), by decide, by decide⟩
      refine ⟨l3, [.bar], rfl, R3, fun q3 Ga sa na ha => ?_⟩
      rw [bare1] at ha
      obtain ⟨ta, ha1, lta, _⟩ := ha.ex
      obtain rfl : ta = [] := List.length_eq_zero_iff.mp lta
      have ha1 : Ga q3 = some (.lst (numsV [])) := ha1
      refine ⟨(by show 3 ≤ sizeLine; omega), fun a1 hA1 => ?_⟩
      have v1 := Same.updf (o := .lst [V.ref q1, V.ref q2, V.ref q3]) hA1
      refine ⟨(by show 1 ≤ sizeLine; omega), fun b1 hb1 => ⟨(by show 2 ≤ sizeLine; omega), fun b2 hb2 => ⟨(by show 0 ≤ sizeLine; omega), fun b3 hb3 => ⟨(by show 3 ≤ sizeLine; omega), fun b4 hb4 => ?_⟩⟩⟩⟩
      have z1 := Same.updf (o := .lst [V.int 0]) hb1
      have z2 := Same.updf (o := .lst [V.int 0, V.int 1]) hb2
      have z3 := Same.updf (o := .lst []) hb3
      have z4 := Same.updf (o := .lst [V.ref b1, V.ref b2, V.ref b3]) hb4
      have z34 := z3.trans z4
      have z24 := z2.trans z34
      have z14 := z1.trans z24
      have g1 := ((y1.trans (y2.trans (y3.trans y4))).trans (s9.trans ((u1.trans u2).trans (sa.trans (v1.trans z14))))) _ _ h8
      have g2 := ((u1.trans u2).trans (sa.trans (v1.trans z14))) _ _ h9
      have g3 := (v1.trans z14) _ _ ha1
      have g4 := z14 _ _ (upd_same (a := a1) (o := .lst [V.ref q1, V.ref q2, V.ref q3]))
      have w1 := z24 _ _ (upd_same (a := b1) (o := .lst [V.int 0]))
      have w2 := z34 _ _ (upd_same (a := b2) (o := .lst [V.int 0, V.int 1]))
      have w3 := z4 _ _ (upd_same (a := b3) (o := .lst []))
      refine ⟨.ref a1, .ref b4, .list [.list [.int 0], .list [.int 0, .int 1], .list []], rfl,
        TD.lst g4 rfl (Nat.le_of_ble_eq_true rfl) (td_cons (nums_td (l := [0]) 7 g1 (by decide)) (td_cons (nums_td (l := [0, 1]) 7 g2 (by decide)) (td_cons (nums_td (l := []) 7 g3 (by decide)) td_nil))),
        TD.lst upd_same rfl (Nat.le_of_ble_eq_true rfl) (td_cons (nums_td (l := [0]) 7 w1 (by decide)) (td_cons (nums_td (l := [0, 1]) 7 w2 (by decide)) (td_cons (nums_td (l := []) 7 w3 (by decide)) td_nil))), fun Gz sz => k _⟩
end
end K18
set_option Elab.async false
set_option linter.all false
set_option maxRecDepth 100000
set_option maxHeartbeats 16000000
/-! The end. -/
namespace K18
open PySem PySem.Spec PyProof.Rows L2 KB
section
variable {P : Program} {w : World} {K : PySem.W.Frag} {h : Heap} {mg : Str → Option Value} {base : Heap}
theorem facM (c : He.SaysD fa fn K) {f : He.Fa} (hf : f ∈ fa) : f.ok K = true := by
  have c1 := (He.ba (show ((fa.all fun f => f.ok K) && fn.all fun d => d.ok K) = true from congrArg (fun z : He.AlD => z.1) c)).1
  exact List.all_eq_true.mp c1 f hf
theorem facts {f : Addr} (X : K.In h) (G : h.Ns mainGlobals mg) (hfa : mg ("law" : Str) = some (.ref f)) (c : He.SaysD fa fn K) (ex : exB K = true) :
    ∃ fd : FuncData, (∀ (s : Shared) (v : Value), BindsTo s fd ⟨[v], []⟩ [("_law_script", v)]) ∧ ∀ base : Heap, K.In base → base.Ns mainGlobals mg → LamX.TabB base mg (cA K) (tA K) → FnOk P w K mg base CX0 12 f fd ["_law_script"] (spLaw K) := by
  obtain ⟨d_is_whole_number, F_is_whole_number⟩ := c.def_ 0 (d := dT 5 "is_whole_number") rfl
  obtain ⟨d_is_count, F_is_count⟩ := c.def_ 1 (d := dT 6 "is_count") rfl
  obtain ⟨d_is_count_below, F_is_count_below⟩ := c.def_ 2 (d := dT 7 "is_count_below") rfl
  obtain ⟨d_is_tuple_of, F_is_tuple_of⟩ := c.def_ 3 (d := dT 8 "is_tuple_of") rfl
  obtain ⟨d_ascends, F_ascends⟩ := c.def_ 4 (d := dT 9 "ascends") rfl
  obtain ⟨d_are_ascending_counts, F_are_ascending_counts⟩ := c.def_ 5 (d := dT 10 "are_ascending_counts") rfl
  obtain ⟨d_are_ascending_below, F_are_ascending_below⟩ := c.def_ 6 (d := dT 11 "are_ascending_below") rfl
  obtain ⟨d_is_event, F_is_event⟩ := c.def_ 7 (d := dT 13 "is_event") rfl
  obtain ⟨d_are_events, F_are_events⟩ := c.def_ 8 (d := dT 14 "are_events") rfl
  obtain ⟨d_need_run, F_need_run⟩ := c.def_ 9 (d := dT 15 "need_run") rfl
  obtain ⟨d_is_wait_of, F_is_wait_of⟩ := c.def_ 10 (d := dT 16 "is_wait_of") rfl
  obtain ⟨d_are_waits_of, F_are_waits_of⟩ := c.def_ 11 (d := dT 17 "are_waits_of") rfl
  obtain ⟨d_need_waits, F_need_waits⟩ := c.def_ 12 (d := dT 18 "need_waits") rfl
  obtain ⟨d_barriers_ahead, F_barriers_ahead⟩ := c.def_ 13 (d := dT 19 "barriers_ahead") rfl
  obtain ⟨d_kept_waits, F_kept_waits⟩ := c.def_ 14 (d := dT 20 "kept_waits") rfl
  obtain ⟨d_broken_waits, F_broken_waits⟩ := c.def_ 15 (d := dT 21 "broken_waits") rfl
  obtain ⟨d_apart_of, F_apart_of⟩ := c.def_ 16 (d := dT 22 "apart_of") rfl
  obtain ⟨d_ends_of, F_ends_of⟩ := c.def_ 17 (d := dT 23 "ends_of") rfl
  obtain ⟨d_broken, F_broken⟩ := c.def_ 18 (d := dT 25 "broken") rfl
  obtain ⟨d_need_places, F_need_places⟩ := c.def_ 19 (d := dT 26 "need_places") rfl
  obtain ⟨d_with_these, F_with_these⟩ := c.def_ 20 (d := dT 27 "with_these") rfl
  obtain ⟨d_barriers_for, F_barriers_for⟩ := c.def_ 21 (d := dT 28 "barriers_for") rfl
  obtain ⟨d_with_barriers, F_with_barriers⟩ := c.def_ 22 (d := dT 29 "with_barriers") rfl
  obtain ⟨d_waits_then, F_waits_then⟩ := c.def_ 23 (d := dT 30 "waits_then") rfl
  obtain ⟨d_bare, F_bare⟩ := c.def_ 24 (d := dT 31 "bare") rfl
  obtain ⟨d_places_of_barriers, F_places_of_barriers⟩ := c.def_ 25 (d := dT 32 "places_of_barriers") rfl
  obtain ⟨d_needless, F_needless⟩ := c.def_ 26 (d := dT 33 "needless") rfl
  obtain ⟨d_spared, F_spared⟩ := c.def_ 27 (d := dT 34 "spared") rfl
  obtain ⟨d_is_due, F_is_due⟩ := c.def_ 28 (d := dT 35 "is_due") rfl
  obtain ⟨d_need_due, F_need_due⟩ := c.def_ 29 (d := dT 36 "need_due") rfl
  obtain ⟨d_syncs, F_syncs⟩ := c.def_ 30 (d := dT 37 "syncs") rfl
  obtain ⟨d_served, F_served⟩ := c.def_ 31 (d := dT 38 "served") rfl
  obtain ⟨d_places_between, F_places_between⟩ := c.def_ 32 (d := dT 39 "places_between") rfl
  obtain ⟨d_purse, F_purse⟩ := c.def_ 33 (d := dT 41 "_law_purse") rfl
  obtain ⟨d_mixed, F_mixed⟩ := c.def_ 34 (d := dT 42 "_law_mixed") rfl
  obtain ⟨d_draw, F_draw⟩ := c.def_ 35 (d := dT 43 "_law_draw") rfl
  obtain ⟨d_shuffled, F_shuffled⟩ := c.def_ 36 (d := dT 44 "_law_shuffled") rfl
  obtain ⟨d_exact, F_exact⟩ := c.def_ 37 (d := dT 45 "_law_exact") rfl
  obtain ⟨d_event, F_event⟩ := c.def_ 38 (d := dT 46 "_law_event") rfl
  obtain ⟨d_run, F_run⟩ := c.def_ 39 (d := dT 47 "_law_run") rfl
  obtain ⟨d_pairs_of, F_pairs_of⟩ := c.def_ 40 (d := dT 48 "_law_pairs_of") rfl
  obtain ⟨d_some_waits, F_some_waits⟩ := c.def_ 41 (d := dT 49 "_law_some_waits") rfl
  obtain ⟨d_place_lists, F_place_lists⟩ := c.def_ 42 (d := dT 50 "_law_place_lists") rfl
  obtain ⟨d_with, F_with⟩ := c.def_ 43 (d := dT 51 "_law_with") rfl
  obtain ⟨d_are_kept, F_are_kept⟩ := c.def_ 44 (d := dT 52 "_law_are_kept") rfl
  obtain ⟨d_put_right, F_put_right⟩ := c.def_ 45 (d := dT 53 "_law_put_right") rfl
  obtain ⟨d_left_right, F_left_right⟩ := c.def_ 46 (d := dT 54 "_law_left_right") rfl
  obtain ⟨d_own_served, F_own_served⟩ := c.def_ 47 (d := dT 55 "_law_own_served") rfl
  obtain ⟨d_least_served, F_least_served⟩ := c.def_ 48 (d := dT 56 "_law_least_served") rfl
  obtain ⟨d_syncs_right, F_syncs_right⟩ := c.def_ 49 (d := dT 57 "_law_syncs_right") rfl
  obtain ⟨d_all_served, F_all_served⟩ := c.def_ 50 (d := dT 58 "_law_all_served") rfl
  obtain ⟨d_law, F_law⟩ := c.def_ 51 (d := dT 59 "law") rfl
  have el : ∀ {α : Type} {l : List α} {i : Nat} {a : α}, l[i]? = some a → a ∈ l := fun h => List.mem_of_getElem? h
  have gl : ∀ {x : Str}, He.Fa.glo x ∈ fa0 → mg x = some (.ref (He.ga K x)) := fun {x} hx => He.glo_ok X G (facM c (List.mem_append_left _ hx))
  have fr : ∀ {x : Str}, He.Fa.free x ∈ fa1 → mg x = none := fun {x} hx => He.free_ok X G (facM c (List.mem_append_right _ (List.mem_append_left _ hx)))
  have f2 : ∀ {y : He.Fa}, y ∈ fa2 → y.ok K = true := fun {y} hx => facM c (List.mem_append_right _ (List.mem_append_right _ hx))
  have Z : FreeS mg := ⟨⟨fr (el (i := 0) rfl), fr (el (i := 1) rfl), fr (el (i := 2) rfl), fr (el (i := 3) rfl), fr (el (i := 4) rfl), fr (el (i := 5) rfl), fr (el (i := 6) rfl), fr (el (i := 7) rfl), fr (el (i := 8) rfl), fr (el (i := 9) rfl), fr (el (i := 10) rfl), fr (el (i := 11) rfl), fr (el (i := 12) rfl), fr (el (i := 13) rfl), fr (el (i := 14) rfl), fr (el (i := 15) rfl), fr (el (i := 16) rfl), fr (el (i := 17) rfl)⟩, fr (el (i := 18) rfl), fr (el (i := 19) rfl)⟩
  have g_is_whole_number := gl (x := "is_whole_number") (el (i := 0) rfl)
  have g_is_count := gl (x := "is_count") (el (i := 1) rfl)
  have g_is_count_below := gl (x := "is_count_below") (el (i := 2) rfl)
  have g_is_tuple_of := gl (x := "is_tuple_of") (el (i := 3) rfl)
  have g_ascends := gl (x := "ascends") (el (i := 4) rfl)
  have g_are_ascending_counts := gl (x := "are_ascending_counts") (el (i := 5) rfl)
  have g_are_ascending_below := gl (x := "are_ascending_below") (el (i := 6) rfl)
  have g_is_event := gl (x := "is_event") (el (i := 7) rfl)
  have g_are_events := gl (x := "are_events") (el (i := 8) rfl)
  have g_need_run := gl (x := "need_run") (el (i := 9) rfl)
  have g_is_wait_of := gl (x := "is_wait_of") (el (i := 10) rfl)
  have g_are_waits_of := gl (x := "are_waits_of") (el (i := 11) rfl)
  have g_need_waits := gl (x := "need_waits") (el (i := 12) rfl)
  have g_barriers_ahead := gl (x := "barriers_ahead") (el (i := 13) rfl)
  have g_kept_waits := gl (x := "kept_waits") (el (i := 14) rfl)
  have g_broken_waits := gl (x := "broken_waits") (el (i := 15) rfl)
  have g_apart_of := gl (x := "apart_of") (el (i := 16) rfl)
  have g_ends_of := gl (x := "ends_of") (el (i := 17) rfl)
  have g_broken := gl (x := "broken") (el (i := 18) rfl)
  have g_need_places := gl (x := "need_places") (el (i := 19) rfl)
  have g_with_these := gl (x := "with_these") (el (i := 20) rfl)
  have g_barriers_for := gl (x := "barriers_for") (el (i := 21) rfl)
  have g_with_barriers := gl (x := "with_barriers") (el (i := 22) rfl)
  have g_waits_then := gl (x := "waits_then") (el (i := 23) rfl)
  have g_bare := gl (x := "bare") (el (i := 24) rfl)
  have g_places_of_barriers := gl (x := "places_of_barriers") (el (i := 25) rfl)
  have g_needless := gl (x := "needless") (el (i := 26) rfl)
  have g_spared := gl (x := "spared") (el (i := 27) rfl)
  have g_is_due := gl (x := "is_due") (el (i := 28) rfl)
  have g_need_due := gl (x := "need_due") (el (i := 29) rfl)
  have g_syncs := gl (x := "syncs") (el (i := 30) rfl)
  have g_served := gl (x := "served") (el (i := 31) rfl)
  have g_places_between := gl (x := "places_between") (el (i := 32) rfl)
  have g_purse := gl (x := "_law_purse") (el (i := 33) rfl)
  have g_mixed := gl (x := "_law_mixed") (el (i := 34) rfl)
  have g_draw := gl (x := "_law_draw") (el (i := 35) rfl)
  have g_shuffled := gl (x := "_law_shuffled") (el (i := 36) rfl)
  have g_exact := gl (x := "_law_exact") (el (i := 37) rfl)
  have g_event := gl (x := "_law_event") (el (i := 38) rfl)
  have g_run := gl (x := "_law_run") (el (i := 39) rfl)
  have g_pairs_of := gl (x := "_law_pairs_of") (el (i := 40) rfl)
  have g_some_waits := gl (x := "_law_some_waits") (el (i := 41) rfl)
  have g_place_lists := gl (x := "_law_place_lists") (el (i := 42) rfl)
  have g_with := gl (x := "_law_with") (el (i := 43) rfl)
  have g_are_kept := gl (x := "_law_are_kept") (el (i := 44) rfl)
  have g_put_right := gl (x := "_law_put_right") (el (i := 45) rfl)
  have g_left_right := gl (x := "_law_left_right") (el (i := 46) rfl)
  have g_own_served := gl (x := "_law_own_served") (el (i := 47) rfl)
  have g_least_served := gl (x := "_law_least_served") (el (i := 48) rfl)
  have g_syncs_right := gl (x := "_law_syncs_right") (el (i := 49) rfl)
  have g_all_served := gl (x := "_law_all_served") (el (i := 50) rfl)
  have g_law := gl (x := "law") (el (i := 51) rfl)
  have e12 := hfa.symm.trans g_law
  cases e12
  have bL := FunD.bindsA (ps := ["_law_script"]) F_law fun _ _ _ _ _ _ us hl => match us, hl with | [_], _ => rfl
  refine ⟨d_law, fun s v => bL s [v] rfl, fun base _ _ TB => ?_⟩
  have O_is_whole_number := ok_is_whole_number (P := P) (w := w) (base := base) F_is_whole_number Z  
  have O_is_count := ok_is_count (P := P) (w := w) (base := base) F_is_count Z g_is_whole_number F_is_whole_number O_is_whole_number 
  have O_is_count_below := ok_is_count_below (P := P) (w := w) (base := base) F_is_count_below Z g_is_count F_is_count O_is_count 
  have O_is_tuple_of := ok_is_tuple_of (P := P) (w := w) (base := base) F_is_tuple_of Z  
  have O_ascends := ok_ascends (P := P) (w := w) (base := base) F_ascends Z  
  have O_are_ascending_counts := ok_are_ascending_counts (P := P) (w := w) (base := base) F_are_ascending_counts Z g_ascends F_ascends O_ascends g_is_count F_is_count O_is_count 
  have O_are_ascending_below := ok_are_ascending_below (P := P) (w := w) (base := base) F_are_ascending_below Z g_are_ascending_counts F_are_ascending_counts O_are_ascending_counts 
  have O_is_event := ok_is_event (P := P) (w := w) (base := base) F_is_event Z g_is_tuple_of F_is_tuple_of O_is_tuple_of g_is_count F_is_count O_is_count 
  have O_are_events := ok_are_events (P := P) (w := w) (base := base) F_are_events Z g_is_event F_is_event O_is_event 
  have O_need_run := ok_need_run (P := P) (w := w) (base := base) F_need_run Z g_are_events F_are_events O_are_events 
  have O_is_wait_of := ok_is_wait_of (P := P) (w := w) (base := base) F_is_wait_of Z g_is_tuple_of F_is_tuple_of O_is_tuple_of g_is_count_below F_is_count_below O_is_count_below 
  have O_are_waits_of := ok_are_waits_of (P := P) (w := w) (base := base) F_are_waits_of Z g_ascends F_ascends O_ascends g_is_wait_of F_is_wait_of O_is_wait_of 
  have O_need_waits := ok_need_waits (P := P) (w := w) (base := base) F_need_waits Z g_are_waits_of F_are_waits_of O_are_waits_of 
  have O_barriers_ahead := ok_barriers_ahead (P := P) (w := w) (base := base) F_barriers_ahead Z  
  have O_kept_waits := ok_kept_waits (P := P) (w := w) (base := base) F_kept_waits Z g_barriers_ahead F_barriers_ahead O_barriers_ahead 
  have O_broken_waits := ok_broken_waits (P := P) (w := w) (base := base) F_broken_waits Z g_barriers_ahead F_barriers_ahead O_barriers_ahead 
  have O_apart_of := ok_apart_of (P := P) (w := w) (base := base) F_apart_of Z TB
  have O_ends_of := ok_ends_of (P := P) (w := w) (base := base) F_ends_of Z g_apart_of F_apart_of O_apart_of 
  have O_broken := ok_broken (P := P) (w := w) (base := base) F_broken Z g_need_run F_need_run O_need_run g_need_waits F_need_waits O_need_waits g_broken_waits F_broken_waits O_broken_waits 
  have O_need_places := ok_need_places (P := P) (w := w) (base := base) F_need_places Z g_are_ascending_below F_are_ascending_below O_are_ascending_below 
  have O_with_these := ok_with_these (P := P) (w := w) (base := base) F_with_these Z  
  have O_barriers_for := ok_barriers_for (P := P) (w := w) (base := base) F_barriers_for Z g_need_run F_need_run O_need_run g_need_waits F_need_waits O_need_waits g_ends_of F_ends_of O_ends_of g_broken_waits F_broken_waits O_broken_waits 
  have O_with_barriers := ok_with_barriers (P := P) (w := w) (base := base) F_with_barriers Z g_need_run F_need_run O_need_run g_need_places F_need_places O_need_places g_with_these F_with_these O_with_these 
  have O_waits_then := ok_waits_then (P := P) (w := w) (base := base) F_waits_then Z g_need_run F_need_run O_need_run g_need_waits F_need_waits O_need_waits g_need_places F_need_places O_need_places g_with_these F_with_these O_with_these 
  have O_bare := ok_bare (P := P) (w := w) (base := base) F_bare Z g_need_run F_need_run O_need_run 
  have O_places_of_barriers := ok_places_of_barriers (P := P) (w := w) (base := base) F_places_of_barriers Z  
  have O_needless := ok_needless (P := P) (w := w) (base := base) F_needless Z g_need_run F_need_run O_need_run g_need_waits F_need_waits O_need_waits g_barriers_ahead F_barriers_ahead O_barriers_ahead g_places_of_barriers F_places_of_barriers O_places_of_barriers 
  have O_spared := ok_spared (P := P) (w := w) (base := base) F_spared Z g_need_run F_need_run O_need_run g_need_waits F_need_waits O_need_waits g_kept_waits F_kept_waits O_kept_waits g_places_of_barriers F_places_of_barriers O_places_of_barriers 
  have O_is_due := ok_is_due (P := P) (w := w) (base := base) F_is_due Z g_is_tuple_of F_is_tuple_of O_is_tuple_of g_is_count F_is_count O_is_count g_is_count_below F_is_count_below O_is_count_below 
  have O_need_due := ok_need_due (P := P) (w := w) (base := base) F_need_due Z g_is_due F_is_due O_is_due 
  have O_syncs := ok_syncs (P := P) (w := w) (base := base) F_syncs Z g_need_due F_need_due O_need_due g_ends_of F_ends_of O_ends_of 
  have O_places_between := ok_places_between (P := P) (w := w) (base := base) F_places_between Z  
  have O_served := ok_served (P := P) (w := w) (base := base) F_served Z g_need_due F_need_due O_need_due g_are_ascending_counts F_are_ascending_counts O_are_ascending_counts g_places_between F_places_between O_places_between 
  have O_purse := ok_purse (P := P) (w := w) (base := base) F_purse Z.toFree
  have O_draw := ok_draw (P := P) (w := w) (base := base) F_draw Z.toFree F_mixed g_mixed
  have O_shuffled := ok_shuffled (P := P) (w := w) (base := base) F_shuffled Z g_draw F_draw O_draw 
  have O_exact := ok_exact (P := P) (w := w) (base := base) F_exact Z g_exact
  have O_event := ok_event (P := P) (w := w) (base := base) F_event Z g_draw F_draw O_draw 
  have O_run := ok_run (P := P) (w := w) (base := base) F_run Z g_draw F_draw O_draw g_event F_event O_event 
  have O_pairs_of := ok_pairs_of (P := P) (w := w) (base := base) F_pairs_of Z  
  have O_some_waits := ok_some_waits (P := P) (w := w) (base := base) F_some_waits Z g_pairs_of F_pairs_of O_pairs_of g_draw F_draw O_draw 
  have O_place_lists := ok_place_lists (P := P) (w := w) (base := base) F_place_lists Z  
  have O_with := ok_with (P := P) (w := w) (base := base) F_with Z  
  have O_are_kept := ok_are_kept (P := P) (w := w) (base := base) F_are_kept Z  
  have O_put_right := ok_put_right (P := P) (w := w) (base := base) F_put_right Z g_waits_then F_waits_then O_waits_then g_barriers_for F_barriers_for O_barriers_for g_exact F_exact O_exact g_with_barriers F_with_barriers O_with_barriers g_with F_with O_with g_broken F_broken O_broken g_shuffled F_shuffled O_shuffled g_draw F_draw O_draw 
  have O_left_right := ok_left_right (P := P) (w := w) (base := base) F_left_right Z g_exact F_exact O_exact g_are_kept F_are_kept O_are_kept g_needless F_needless O_needless g_spared F_spared O_spared g_bare F_bare O_bare 
  have O_own_served := ok_own_served (P := P) (w := w) (base := base) F_own_served Z  
  have O_all_served := ok_all_served (P := P) (w := w) (base := base) F_all_served Z  
  have O_least_served := ok_least_served (P := P) (w := w) (base := base) F_least_served Z g_all_served F_all_served O_all_served g_place_lists F_place_lists O_place_lists 
  have O_syncs_right := ok_syncs_right (P := P) (w := w) (base := base) F_syncs_right Z g_least_served F_least_served O_least_served g_syncs F_syncs O_syncs g_exact F_exact O_exact g_draw F_draw O_draw g_served F_served O_served g_place_lists F_place_lists O_place_lists g_all_served F_all_served O_all_served g_shuffled F_shuffled O_shuffled g_own_served F_own_served O_own_served 
  exact ok_law F_law Z g_purse F_purse O_purse g_exact F_exact O_exact g_run F_run O_run g_some_waits F_some_waits O_some_waits g_left_right F_left_right O_left_right g_needless F_needless O_needless g_spared F_spared O_spared g_bare F_bare O_bare g_draw F_draw O_draw g_put_right F_put_right O_put_right g_syncs_right F_syncs_right O_syncs_right g_syncs F_syncs O_syncs g_served F_served O_served 
end
end K18
open PySem PySem.W PySem.Calls PyProof.Rows
theorem PySem.Challenge.cw_weavestore_k18_whole_barriers_put_in_and_holds : PySem.Challenge.rw_weavestore_k18_whole_barriers_put_in_and.Holds := by
  w_on; o_law
  refine HandSHeadRun.head_any (r := OpenLaw.row PySem.Challenge.rw_weavestore_k18_whole_barriers_put_in_and) (q := view (OpenLaw.row PySem.Challenge.rw_weavestore_k18_whole_barriers_put_in_and).prog [59]) (H := K18.hk) (ob := K18.ob) (M := 20000) (loose := K18.names) (d := HandSHeadRun.topDef (OpenLaw.row PySem.Challenge.rw_weavestore_k18_whole_barriers_put_in_and).prog 59) (kwd := []) K18.ob_eq
    (by kernel_rfl) (fun s => by kernel_rfl) K18.run (by kernel_rfl) (by kernel_rfl) (by kernel_rfl) (by rfl) (by first | assumption | decide +kernel) (by decide +kernel) ⟨rfl, rfl, rfl, rfl, rfl, by decide +kernel⟩ ?hw ?hc
  case hw => w_witness2
  case hc =>
    refine LamX.walk_ofTsE (l := PySem.Challenge.rw_weavestore_k18_whole_barriers_put_in_and) (n := 63) (k := 12) (x := "_law_script") (CX := fun _ => L2.CX0) rfl (by decide) (by kernel_rfl) ⟨rfl, by decide, by decide⟩ ?F (fun _ _ _ _ _ h => h)
    intro w mg fa h Y G hmg0
    obtain ⟨K, KX, cx⟩ := Y
    have c := cx.t.d
    have ex := cx.more
    have hmg : mg ("law" : PySem.Str) = some (.ref fa) := by
      have e : (HandSHeadRun.topDef (OpenLaw.row PySem.Challenge.rw_weavestore_k18_whole_barriers_put_in_and).prog 59).name = ("law" : PySem.Str) := by kernel_rfl
      rw [← e]
      exact hmg0
    obtain ⟨fd, hb, hF⟩ := K18.facts (P := (PySem.Challenge.rw_weavestore_k18_whole_barriers_put_in_and).prog) (w := w) KX G hmg c ex
    have mem : (("apart_of", none) : He.Defn) ∈ K18.tf := List.mem_singleton.mpr rfl
    refine ⟨K, KX, fd, [(K18.cA K, K18.tA K)], K18.spLaw K, fun p hp => ?_, fun p hp => ?_, fun p hp => ?_, hb, fun H a ns hl _ hH hS => ⟨a, ns, rfl, hS, fun p hp => ?_, fun _ => rfl⟩, fun base hK hN hT => hF base hK hN (hT _ (List.mem_singleton.mpr rfl))⟩
    · rw [List.mem_singleton.mp hp]
      exact cx.empty _ mem
    · rw [List.mem_singleton.mp hp]
      exact cx.out _ mem
    · rw [List.mem_singleton.mp hp]
      exact PySem.W.codeHd_of_K KX (cx.hd _ mem)
    · rw [List.mem_singleton.mp hp]
      exact LamX.TabS.nil (hH (K18.cA K, K18.tA K) (List.mem_singleton.mpr rfl))
