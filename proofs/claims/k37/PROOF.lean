import PyProof.Rows.All
import Wide.All
import OpenK.AllK
import Wide.FinOn
import KE.KStateDown
import KE.KIsAll
import HandS.Words
import HandS.Head0
import HandS.Head1
import HandS.Head2
import HandS.HeadHook1
import HandS.HeadHook2
import PySem.Challenge.RW_weavestore_k37_whole_lives_of_rings
import HandS.ForMost
import HandS.Wide
import HandS.WideBits
import HandS.Ends
import HandS.HeadEnd
import HandS.Exc
import HandS.Defaults
import HandS.Walk
import HandS.IsInst
import HandS.Style
import HandS.Zip
import HandS.Conv
import HandS.Deep
import HandS.SortKw
import PyProof.MinMaxWalk
import PyProof.WalkInts
set_option Elab.async false
set_option linter.all false
set_option maxRecDepth 100000
set_option maxHeartbeats 0
/-! What is read of the heap that the module's top leaves, and the run of it. -/
namespace K37
open PySem PySem.Spec PyProof.Rows L2
def top (i : Nat) : Stmt := PySem.Challenge.pw_weavestore_k37_whole_lives_of_rings.main.body.getD i (.Pass ⟨0, 0, 0, 0⟩)
def exB (K : PySem.W.Frag) : Bool := He.tupB K "LINE" [.str "line"] && He.tupB K "ROOT" [.str "root"]
def dT (i : Nat) (x : Str) : He.DefD := ⟨(x, none), x, x, defArgs (top i), defBody (top i), defScope (top i), [], []⟩
def fn0 : List He.DefD := [dT 6 "is_whole_number", dT 7 "is_count", dT 8 "is_count_below", dT 9 "is_count_from_one", dT 10 "is_tuple_of", dT 12 "need_count_from_one", dT 16 "is_stand", dT 17 "is_event", dT 18 "is_life", dT 19 "need_life", dT 20 "need_life_and_places", dT 21 "need_moment", dT 22 "numbers_given_up", dT 23 "line_places", dT 24 "given_up"]
def fn1 : List He.DefD := [dT 25 "still_needed", dT 26 "wanted", dT 27 "fits", dT 28 "first_full", dT 29 "least_places", dT 31 "_law_purse", dT 32 "_law_mixed", dT 33 "_law_draw", dT 34 "_law_exact", dT 35 "_law_life", dT 36 "_law_ring_walk", dT 37 "_law_gone", dT 38 "_law_life_right", dT 39 "law"]
def fn : List He.DefD := fn0 ++ (fn1)
def gn0 : List Str := ["is_whole_number", "is_count", "is_count_below", "is_count_from_one", "is_tuple_of", "need_count_from_one", "is_stand", "is_event", "is_life", "need_life", "need_life_and_places", "need_moment", "numbers_given_up", "line_places", "given_up"]
def gn1 : List Str := ["still_needed", "wanted", "fits", "first_full", "least_places", "_law_purse", "_law_mixed", "_law_draw", "_law_exact", "_law_life", "_law_ring_walk", "_law_gone", "_law_life_right", "law"]
def gn : List Str := gn0 ++ (gn1)
def fa0 : List He.Fa := gn.map He.Fa.glo
def fa1 : List He.Fa := [.free "sum", .free "int", .free "max", .free "min", .free "len", .free "range", .free "isinstance", .free "all", .free "any", .free "zip", .free "divmod", .free "reversed", .free "enumerate", .free "set", .free "list", .free "tuple", .free "dict", .free "bool"]
def fa2 : List He.Fa := [.glo "LINE", .glo "ROOT"]
def fa : List He.Fa := fa0 ++ (fa1 ++ fa2)
def names0 : List Str := ["StoreError", "InvalidRun", "InvalidMoment", "InvalidCount", "is_whole_number", "is_count", "is_count_below", "is_count_from_one", "is_tuple_of", "need_count_from_one", "LINE", "ROOT", "is_stand", "is_event", "is_life"]
def names1 : List Str := ["need_life", "need_life_and_places", "need_moment", "numbers_given_up", "line_places", "given_up", "still_needed", "wanted", "fits", "first_full", "least_places", "_law_purse", "_law_mixed", "_law_draw", "_law_exact"]
def names2 : List Str := ["_law_life", "_law_ring_walk", "_law_gone", "_law_life_right"]
def names : List Str := names0 ++ (names1 ++ (names2))
abbrev R : PySem.W.OpenRow := PySem.W.OpenLaw.row PySem.Challenge.rw_weavestore_k37_whole_lives_of_rings
abbrev qv : Program := PySem.W.view R.prog [39]
abbrev AlX : Type := He.AlD × Bool
def obX (K : PySem.W.Frag) : AlX := (He.obsD fa fn K, exB K)
/-- what an object of these names, one step on -/
def tgt (g : Addr → Option Obj) (a : Addr) : List Addr := match g a with
  | some o => (match o.data with
    | .cls cd => [cd.ns]
    | .func fd => He.refV fd.code ++ He.refV fd.defaults
    | .dict es _ => es.toList.flatMap fun e => He.refV e.val
    | _ => [])
  | none => []
def as1 (g : Addr → Option Obj) : List Addr := tgt g mainGlobals
def as2 (g : Addr → Option Obj) : List Addr := (as1 g).flatMap (tgt g)
def as3 (g : Addr → Option Obj) : List Addr := (as2 g).flatMap (tgt g)
def as4 (g : Addr → Option Obj) : List Addr := (as3 g).flatMap (tgt g)
def obG (g : Addr → Option Obj) : AlX := obX (He.frG g (sysModules :: mainGlobals :: (as1 g ++ (as2 g ++ (as3 g ++ as4 g)))))
def hk : PySem.W.Hook where
  α := AlX
  obs := fun s => obG s.heap.get?
  val := fun _ => (He.valD fn, true)
  says := fun _ h => ∃ K : PySem.W.Frag, K.In h ∧ He.SaysD fa fn K ∧ exB K = true
  of := fun _ _ e => ⟨_, He.frG_in, congrArg (fun z : AlX => z.1) e, congrArg (fun z : AlX => z.2) e⟩
  keeps := fun _ _ _ ⟨K, hK, c⟩ k => ⟨K, PySem.W.Frag.In.keeps hK k, c⟩
def ob (s : PySem.W.SharedT) : AlX := obG (HandSHeadRun.getT s)
theorem ob_eq (s : PySem.W.SharedT) : ob s = hk.obs s.abs := by
  have e : HandSHeadRun.getT s = s.abs.heap.get? := funext (HandSHeadRun.getT_eq s)
  show obG (HandSHeadRun.getT s) = obG s.abs.heap.get?
  rw [e]
theorem run (w : World) : HandSHeadRun.RunEq R qv hk ob 20000 names w := by
  intro os
  kernel_rfl
end K37
set_option Elab.async false
set_option linter.all false
set_option maxRecDepth 100000
set_option maxHeartbeats 4000000
/-! What does not speak of a law: purses, what is left as it was, walks. -/
namespace L2
open PySem PySem.Spec PyProof.Rows
theorem Same.updf {H : Hp} {p : Addr} {o : HO} (h : H p = none) : Same H (L2.upd H p o) := fun b o' e => by
  rw [upd_ne (ne_of_none e h)]
  exact e
/-- a comprehension whose turns change nothing that stands: what it gives at each turn, if anything -/
theorem lc_sel {J : It} {n : Nat} {G : Hp → Prop} {Y : Nat → Hp → V → Hp → Prop} (w : Walk J n G Y) {g : TG} {tt : TT} {te : TE} {vs : List Nat} {σ : St} {H1 : Hp} {D : Addr} {Qd : Hp → Prop} (f : Nat → Option V) (hn : n ≤ 100000) (hD : H1 D = none)
    (hG : ∀ H, Same H1 H → G H)
    (hs : ∀ i x H H' (Qy : V → Hp → Prop) (Qn : Hp → Prop), i < n → Same H1 H → Y i H x H' → (∀ y H4, Same H H4 → f i = some y → Qy y H4) → (∀ H4, Same H H4 → f i = none → Qn H4) →
      g x (wipe σ vs) H' fun σ2 H2 => wipe σ2 vs = wipe σ vs ∧ tt σ2 H2 fun b H3 => if b = true then te σ2 H3 Qy else Qn H3)
    (hd : ∀ H, Same H1 H → H D = some (.lst ((List.range n).filterMap f)) → Qd H) :
    ∃ W : Nat → Nat → Hp → Prop, (∃ m, W 0 m (upd H1 D (.lst []))) ∧ ∀ i m H, W i m H →
      (J.stop i H ∧ Qd H) ∨ (J.go i H ∧ ∃ Nx : Hp → Prop, (∀ H', Nx H' → ∃ m', m' < m ∧ W (i + 1) m' H') ∧ ∀ x H', J.yld i H x H' → g x (wipe σ vs) H' fun σ2 H2 => wipe σ2 vs = wipe σ vs ∧ tt σ2 H2 fun b H3 =>
        if b = true then te σ2 H3 fun y H4 => ∃ acc, H4 D = some (.lst acc) ∧ acc.length < sizeLine ∧ Nx (upd H4 D (.lst (acc ++ [y]))) else Nx H3) := by
  refine lc_it w (fun i H => Same H1 H ∧ H D = some (.lst ((List.range i).filterMap f))) ⟨Same.updf hD, upd_same⟩ (fun i H _ h => hG H h.1) (fun i x H H' hi hP hy => ?_) (fun H h => hd H h.1 h.2)
  refine hs i x H H' _ _ hi hP.1 hy (fun y H4 s4 e => ?_) (fun H4 s4 e => ?_)
  · refine ⟨_, s4 _ _ hP.2, ?_, fun b o eb => ?_, ?_⟩
    · have l1 : ((List.range i).filterMap f).length ≤ i := by
        have := List.length_filterMap_le f (List.range i)
        rw [List.length_range] at this
        exact this
      have l2 : (100000 : Nat) < sizeLine := by decide
      omega
    · rw [upd_ne (ne_of_none eb hD)]
      exact s4 _ _ (hP.1 _ _ eb)
    · rw [upd_same, List.range_succ, List.filterMap_append, List.filterMap_cons, e]
      rfl
  · refine ⟨hP.1.trans s4, ?_⟩
    rw [List.range_succ, List.filterMap_append, List.filterMap_cons, e, List.filterMap_nil, List.append_nil]
    exact s4 _ _ hP.2
/-- a pair's two names: the tuple is new -/
theorem pair_st {i j : Nat} {xs ys : Nat → Option V} {t : Nat} {σ : St} {H H' : Hp} {v : V} {Q : St → Hp → Prop} (y : YPair xs ys t H v H') {K : PySem.W.Frag}
    (k : ∀ x z, xs t = some x → ys t = some z → Same H H' → ∃ T, v = .ref T ∧ SqT K H' T [x, z] ∧ Q ((σ.set i (some x)).set j (some z)) H') :
    ∃ x z T, v = .ref T ∧ SqT K H' T [x, z] ∧ Q ((σ.set i (some x)).set j (some z)) H' := by
  obtain ⟨T, x, z, h1, h2, h3, h4, h5⟩ := y
  obtain ⟨T', e1, e2, e3⟩ := k x z h4 h5 (by rw [h3]; exact Same.updf h2)
  exact ⟨x, z, T', e1, e2, e3⟩
end L2
namespace KB
open PySem PySem.Spec PyProof.Rows L2
/-- built-in names that the module leaves free -/
structure Free (mg : Str → Option Value) : Prop where
  sum : mg "sum" = none
  int : mg "int" = none
  max : mg "max" = none
  min : mg "min" = none
  len : mg "len" = none
  range : mg "range" = none
  isi : mg "isinstance" = none
  all : mg "all" = none
  any : mg "any" = none
  zip : mg "zip" = none
  divmod : mg "divmod" = none
  reversed : mg "reversed" = none
  enumerate : mg "enumerate" = none
  tset : mg "set" = none
  tlist : mg "list" = none
  ttuple : mg "tuple" = none
  tdict : mg "dict" = none
  tbool : mg "bool" = none
theorem op_powL {X : Cx} : OpR X (binaryOp .Pow) (rI (fun i n => 0 ≤ n ∧ (Builtin.Int.intBits i : Int) * n ≤ 2 ^ 27) fun i j => .int (i ^ j.toNat)) :=
  opI fun _ _ _ _ _ _ _ hc q => pow_int hc.1 hc.2 q
/-- a purse: what is left of a great number, the seed, how often it was mixed, the place -/
structure Purse (H : Hp) (p : Addr) (N : Nat) : Prop where
  at_ : ∃ A B c i : Int, H p = some (.lst [.int A, .int B, .int c, .int i]) ∧ (0 ≤ B ∧ B < 2147483648) ∧ 0 ≤ A ∧ 0 ≤ c ∧ c ≤ (N : Int)
theorem Purse.mono {H : Hp} {p : Addr} {N M : Nat} (h : Purse H p N) (l : N ≤ M) : Purse H p M := by
  obtain ⟨A, B, c, i, e, hB, h1, h2, h3⟩ := h
  exact ⟨A, B, c, i, e, hB, h1, h2, by omega⟩
theorem Purse.same {H H' : Hp} {p : Addr} {N : Nat} (k : Same H H') (h : Purse H p N) : Purse H' p N := by
  obtain ⟨A, B, c, i, e, r⟩ := h
  exact ⟨A, B, c, i, k _ _ e, r⟩
/-- all but p stands as it did -/
def But (p : Addr) (H H' : Hp) : Prop := ∀ b o, b ≠ p → H b = some o → H' b = some o
theorem But.refl (p : Addr) (H : Hp) : But p H H := fun _ _ _ e => e
theorem But.trans {p : Addr} {H H1 H2 : Hp} (a : But p H H1) (b : But p H1 H2) : But p H H2 := fun x o n e => b x o n (a x o n e)
theorem But.of {p : Addr} {H H' : Hp} (k : Same H H') : But p H H' := fun b o _ e => k b o e
theorem But.upd {p : Addr} {H : Hp} {o : HO} : But p H (L2.upd H p o) := fun b o' n e => by
  rw [upd_ne n]
  exact e
theorem Same.upd {H : Hp} {p : Addr} {o : HO} (h : H p = none) : Same H (L2.upd H p o) := fun b o' e => by
  rw [upd_ne (ne_of_none e h)]
  exact e
theorem cut_map (ns : List Int) (lo hi : Option Int) : cutV (ns.map V.int) lo hi = ((ns.drop (HT.sIx (ns.map V.int).length 0 lo)).take (HT.sIx (ns.map V.int).length (ns.map V.int).length hi - HT.sIx (ns.map V.int).length 0 lo)).map V.int := by
  unfold cutV
  rw [List.map_take, List.map_drop]
def spPurse (K : PySem.W.Frag) : Sp := fun vs H Q _ => ∃ (a : Addr) (ns : List Int) (i : Int), vs = [.ref a, .int i] ∧ SqL K H a (ns.map V.int) ∧
  ∀ p H', Same H H' → H p = none → Purse H' p 0 → Q (.ref p) H'
/-- any rest there is -/
def spMixed : Sp := fun vs H Q _ => ∃ B c i : Int, vs = [.int B, .int c, .int i] ∧ (0 ≤ c ∧ c ≤ 2 ^ 60) ∧ ∀ r : Int, 0 ≤ r → r < 2147483587 → Q (.int r) H
/-- how often a draw of one of m mixes -/
def mixes (m : Int) : Nat := (1 + (Builtin.Int.intBits m : Int) / 28).toNat
def spDraw : Sp := fun vs H Q _ => ∃ (p : Addr) (m : Int) (N : Nat), vs = [.ref p, .int m] ∧ 1 ≤ m ∧ m.natAbs.log2 < 9000 ∧ Purse H p N ∧ N + mixes m ≤ 2 ^ 50 ∧ mixes m ≤ 2 ^ 50 ∧
  ∀ (r : Int) (H' : Hp), 0 ≤ r → r < m → But p H H' → Purse H' p (N + mixes m) → Q (.int r) H'
theorem mixes_one {m : Int} (h0 : 1 ≤ m) (h : m < 2 ^ 27) : mixes m = 1 := by
  have e : Builtin.Int.intBits m ≤ 27 := PyProof.Rows.intBits_le (by omega)
  unfold mixes
  omega
theorem log_small {m : Int} (h0 : 1 ≤ m) (h : m < 2 ^ 27) : m.natAbs.log2 < 9000 := by
  have e : m.natAbs < 2 ^ 27 := by omega
  have := PySem.Flt.log2_lt_of (by decide) e
  omega
theorem But.seq {K : PySem.W.Frag} {p a : Addr} {H H' : Hp} {xs : List V} (k : But p H H') (n : a ≠ p) (h : SqL K H a xs) : SqL K H' a xs := by
  rcases h with (h | ⟨o, h⟩) | h
  · exact .inl (.inl (k _ _ n h))
  · exact .inl (.inr ⟨o, k _ _ n h⟩)
  · exact .inr h
/-- purses(script, 1): the list of one purse -/
def spPurses (K : PySem.W.Frag) : Sp := fun vs H Q _ => ∃ (a : Addr) (ns : List Int), vs = [.ref a, .int 1] ∧ SqL K H a (ns.map V.int) ∧
  ∀ q p H', Same H H' → H p = none → H q = none → p ≠ q → H' q = some (.lst [.ref p]) → Purse H' p 0 → Q (.ref q) H'
def spOne (K : PySem.W.Frag) : Sp := fun vs H Q _ => ∃ (p q : Addr) (xs : List V) (N : Nat), vs = [.ref p, .ref q] ∧ q ≠ p ∧ SqL K H q xs ∧ 1 ≤ xs.length ∧ xs.length ≤ 1000000 ∧ Purse H p N ∧ N ≤ 2 ^ 40 ∧
  ∀ x H', x ∈ xs → But p H H' → Purse H' p (N + 1) → Q x H'

theorem none_back {H H' : Hp} {q : Addr} (k : Same H H') (h : H' q = none) : H q = none := by
  cases e : H q with
  | none => rfl
  | some o =>
    have := k _ _ e
    rw [h] at this
    cases this
theorem mixes_le {m : Int} (h0 : 1 ≤ m) (h : m < 2 ^ 62) : mixes m ≤ 3 := by
  have e : Builtin.Int.intBits m ≤ 62 := PyProof.Rows.intBits_le (by omega)
  unfold mixes
  omega
theorem via_nx {f b c : L2.St → Hp → Prop} {r : VK} {σ : L2.St} {H : Hp} (h : f σ H) : (Ends.mk f r b c).nx σ H := h
theorem via_seq {t u : TS} {D : Ends} {σ : L2.St} {H : Hp} (h : t { D with nx := u D } σ H) : tSeq t u D σ H := h
theorem via_asg {te : TE} {g : TG} {D : Ends} {σ : L2.St} {H : Hp} (h : te σ H fun x H1 => g x σ H1 D.nx) : tAsg te g D σ H := h
theorem fresh_ne {X : Hp} {pu b : Addr} {M : Nat} (h : Purse X pu M) (hb : X b = none) : b ≠ pu := fun e => by
  obtain ⟨A0, B, c, i, e2, _⟩ := h
  rw [e, e2] at hb
  cases hb
theorem But.none {pu b : Addr} {X Y : Hp} (k : But pu X Y) (ne : b ≠ pu) (h : Y b = none) : X b = none := by
  cases e : X b with
  | none => rfl
  | some o =>
    have := k _ _ ne e
    rw [h] at this
    cases this
theorem Purse.same' {H H' : Hp} {p : Addr} {N : Nat} (k : H' p = H p) (h : Purse H p N) : Purse H' p N := by
  obtain ⟨A, B, c, i, e, r⟩ := h
  exact ⟨A, B, c, i, k.trans e, r⟩

/-- a statement that is never come to -/
theorem ps_dead {X : Cx} {st : Stmt} : PS X st (fun _ _ _ => False) := ⟨fun _ _ _ _ _ _ h => h.elim⟩
end KB
set_option Elab.async false
set_option linter.all false
set_option maxRecDepth 100000
set_option maxHeartbeats 4000000
/-! Data on the tracked heap; what is counted; the greatest of a list that may be empty. -/
namespace L2
open PySem PySem.Spec PyProof.Rows
open RZ
theorem walk_zipT {K : PySem.W.Frag} {a b : Addr} {xs ys : List V} {n : Nat} (hn : n = min xs.length ys.length) : Walk (ItzT K a b) n (fun H => SqT K H a xs ∧ SqT K H b ys) (YPair (fun i => xs[i]?) (fun i => ys[i]?)) where
  goes := fun i _ hi q => ⟨xs, ys, xs[i]'(by omega), ys[i]'(by omega), q.1, q.2, List.getElem?_eq_getElem _, List.getElem?_eq_getElem _⟩
  stops := fun _ q => ⟨xs, ys, q.1, q.2, by omega⟩
  yields := fun i H v H' _ q y => by
    obtain ⟨T, x, z, e1, e2, e3, e4, e5⟩ := y
    exact ⟨T, x, z, e1, e2, e3, e4 _ q.1, e5 _ q.2⟩
section
variable {X : Cx}
/-- how often a datum stands in a list of data -/
def rCountD (K : PySem.W.Frag) : V → List V → Hp → VK → Prop := fun x zs H Q => ∃ (a : Addr) (y : V) (d : PyData) (ds : List PyData), x = V.ref a ∧ zs = [y] ∧ Dp K H (V.ref a) (.list ds) ∧ Dp K H y d ∧ SeqAt.shaped (.list ds) = true ∧ SeqAt.shaped d = true ∧
  Q (.int ((ds.countP fun z => PyData.eqv z d : Nat) : Int)) H
theorem mt_countD (hu : X.A.units + 65 < cLine) : MtR X "list.count" (rCountD X.K) := by
  intro pins s σ H x zs v us Q I rx rz h
  obtain ⟨a, y, d, ds, rfl, rfl, hL, hY, sL, sY, q⟩ := h
  obtain ⟨w, rfl, rw'⟩ := rz.one
  cases rx
  obtain ⟨bs, rY⟩ := Dp.reads I d y w hY rw'
  have cL : PyData.canLayAll0 ds = true := SeqAt.canLay_of_shaped sL
  cases hL with
  | lst hs hA =>
    obtain ⟨its, rv, ⟨⟨c0, d0, dat, sl0⟩, k0, hob, hcl, _, hda⟩, _⟩ := I.list hs
    dsimp only at hcl hda
    subst hcl hda
    obtain ⟨as, rA⟩ := Dp.readsAll I ds _ its hA rv
    have em : its.map (SeqAt.readOf s.heap) = ds := SeqAt.readsAll_map ds its as cL rA
    refine call_meets PySem.F.slot_list_count ⟨_, hob, rfl⟩ PySem.F.entry_list_count (PySem.F.args_list_count_2 _ _)
      (SeqAt.list_countAt a its.toArray k0 d0 sl0 w fun u => PyData.eqv (SeqAt.readOf s.heap u) d) ⟨hob, ?_, ?_⟩
    · exact SeqAt.items_eqAt (vs := its.toArray) (show ReadsAll s.heap its.toArray.toList ds as from rA) rY cL (SeqAt.canLay_of_shaped sY) (room_in_shaped sY hu)
    · refine ⟨.int (its.toArray.toList.countP fun u => PyData.eqv (SeqAt.readOf s.heap u) d : Nat), H, I.tok _, ⟨_, rfl⟩, ?_⟩
      have e : ((its.toArray.toList.countP fun u => PyData.eqv (SeqAt.readOf s.heap u) d : Nat) : Int) = ((ds.countP fun z => PyData.eqv z d : Nat) : Int) := by
        rw [← em, List.countP_map]
        rfl
      rw [e]
      exact q
end
end L2
namespace KB
open PySem PySem.Spec PyProof.Rows L2
/-- a value that is no object -/
inductive FlatD : V → PyData → Prop
  | non : FlatD .non .none
  | bl (b : Bool) : FlatD (.bl b) (.bool b)
  | int (i : Int) : FlatD (.int i) (.int i)
  | str (x : Str) : FlatD (.str x) (.str x)
/-- a value that stands for a datum: lists and tuples, each tracked, nested at most so deep -/
def Tr (H : Hp) : Nat → V → PyData → Prop
  | 0, x, d => FlatD x d
  | n + 1, x, d => FlatD x d ∨ ∃ (a : Addr) (xs : List V) (ds : List PyData), x = .ref a ∧ xs.length = ds.length ∧ ds.length ≤ 1000 ∧ ((H a = some (.lst xs) ∧ d = .list ds) ∨ (H a = some (.tup xs) ∧ d = .tuple ds)) ∧
      ∀ (i : Nat) (u : V) (e : PyData), xs[i]? = some u → ds[i]? = some e → Tr H n u e
theorem Tr.same {H H' : Hp} (k : Same H H') : ∀ {n : Nat} {x : V} {d : PyData}, Tr H n x d → Tr H' n x d
  | 0, _, _, h => h
  | n + 1, _, _, h => by
    rcases h with h | ⟨a, xs, ds, e1, e2, e3, e4, e5⟩
    · exact .inl h
    · exact .inr ⟨a, xs, ds, e1, e2, e3, e4.elim (fun z => .inl ⟨k _ _ z.1, z.2⟩) (fun z => .inr ⟨k _ _ z.1, z.2⟩), fun i u e h1 h2 => Tr.same k (e5 i u e h1 h2)⟩
theorem Tr.up {H : Hp} : ∀ {n : Nat} {x : V} {d : PyData}, Tr H n x d → Tr H (n + 1) x d
  | 0, _, _, h => .inl h
  | n + 1, _, _, h => by
    rcases h with h | ⟨a, xs, ds, e1, e2, e3, e4, e5⟩
    · exact .inl h
    · exact .inr ⟨a, xs, ds, e1, e2, e3, e4, fun i u e h1 h2 => Tr.up (e5 i u e h1 h2)⟩
theorem Tr.flat {H : Hp} {n : Nat} {x : V} {d : PyData} (h : FlatD x d) : Tr H n x d := by
  cases n with
  | zero => exact h
  | succ n => exact .inl h
theorem Tr.lst {H : Hp} {n : Nat} {a : Addr} {xs : List V} {ds : List PyData} (h : H a = some (.lst xs)) (l : xs.length = ds.length) (s : ds.length ≤ 1000) (k : ∀ (i : Nat) (u : V) (e : PyData), xs[i]? = some u → ds[i]? = some e → Tr H n u e) : Tr H (n + 1) (.ref a) (.list ds) :=
  .inr ⟨a, xs, ds, rfl, l, s, .inl ⟨h, rfl⟩, k⟩
theorem Tr.tup {H : Hp} {n : Nat} {a : Addr} {xs : List V} {ds : List PyData} (h : H a = some (.tup xs)) (l : xs.length = ds.length) (s : ds.length ≤ 1000) (k : ∀ (i : Nat) (u : V) (e : PyData), xs[i]? = some u → ds[i]? = some e → Tr H n u e) : Tr H (n + 1) (.ref a) (.tuple ds) :=
  .inr ⟨a, xs, ds, rfl, l, s, .inr ⟨h, rfl⟩, k⟩
/-- item by item -/
theorem tr_cons {H : Hp} {n : Nat} {x : V} {xs : List V} {d : PyData} {ds : List PyData} (h : Tr H n x d) (k : ∀ (i : Nat) (u : V) (e : PyData), xs[i]? = some u → ds[i]? = some e → Tr H n u e) : ∀ (i : Nat) (u : V) (e : PyData), (x :: xs)[i]? = some u → (d :: ds)[i]? = some e → Tr H n u e
  | 0, _, _, h1, h2 => by
    obtain rfl := Option.some.inj h1
    obtain rfl := Option.some.inj h2
    exact h
  | i + 1, u, e, h1, h2 => k i u e h1 h2
theorem tr_nil {H : Hp} {n : Nat} : ∀ (i : Nat) (u : V) (e : PyData), ([] : List V)[i]? = some u → ([] : List PyData)[i]? = some e → Tr H n u e := fun i u e h1 h2 => by simp at h1
theorem tr_snoc {H : Hp} {n : Nat} {x : V} {xs : List V} {d : PyData} {ds : List PyData} (l : xs.length = ds.length) (k : ∀ (i : Nat) (u : V) (e : PyData), xs[i]? = some u → ds[i]? = some e → Tr H n u e) (h : Tr H n x d) :
    ∀ (i : Nat) (u : V) (e : PyData), (xs ++ [x])[i]? = some u → (ds ++ [d])[i]? = some e → Tr H n u e := fun i u e h1 h2 => by
  by_cases hi : i < xs.length
  · rw [List.getElem?_append_left hi] at h1
    rw [List.getElem?_append_left (by omega)] at h2
    exact k i u e h1 h2
  · rw [List.getElem?_append_right (by omega)] at h1
    rw [List.getElem?_append_right (by omega)] at h2
    cases hj : i - xs.length with
    | zero =>
      rw [hj] at h1
      rw [show i - ds.length = 0 by omega] at h2
      obtain rfl := Option.some.inj h1
      obtain rfl := Option.some.inj h2
      exact h
    | succ j =>
      rw [hj] at h1
      simp at h1
theorem FlatD.dp {K : PySem.W.Frag} {H : Hp} {x : V} {d : PyData} (h : FlatD x d) : Dp K H x d := by
  cases h
  · exact .non
  · exact .bl _
  · exact .int _
  · exact .str _
theorem dpAll_of {K : PySem.W.Frag} {H : Hp} : ∀ {xs : List V} {ds : List PyData}, xs.length = ds.length → (∀ (i : Nat) (u : V) (e : PyData), xs[i]? = some u → ds[i]? = some e → Dp K H u e) → DpAll K H xs ds
  | [], [], _, _ => .nil
  | [], _ :: _, h, _ => by simp at h
  | _ :: _, [], h, _ => by simp at h
  | x :: xs, d :: ds, h, k => .cons (k 0 x d rfl rfl) (dpAll_of (by simpa using h) fun i u e h1 h2 => k (i + 1) u e h1 h2)
theorem Tr.dp {K : PySem.W.Frag} {H : Hp} : ∀ {n : Nat} {x : V} {d : PyData}, Tr H n x d → Dp K H x d
  | 0, _, _, h => FlatD.dp h
  | n + 1, _, _, h => by
    rcases h with h | ⟨a, xs, ds, rfl, e2, e3, e4, e5⟩
    · exact FlatD.dp h
    · rcases e4 with ⟨h, rfl⟩ | ⟨h, rfl⟩
      · exact .lst (SqL.of h) (dpAll_of e2 fun i u e h1 h2 => (e5 i u e h1 h2).dp)
      · exact .tup (SqT.of h) (dpAll_of e2 fun i u e h1 h2 => (e5 i u e h1 h2).dp)
/-- alike: both stand for one datum -/
def spExact (n : Nat) : Sp := fun vs H Q _ => ∃ (x y : V) (d : PyData), vs = [x, y] ∧ Tr H n x d ∧ Tr H n y d ∧ ∀ H', Same H H' → Q (.bl true) H'
theorem FlatD.ty {K : PySem.W.Frag} {H : Hp} {x : V} {d : PyData} (h : FlatD x d) : ∃ t, TyX K H x (.type t) ∧ kitB t "list" = some false ∧ kitB t "tuple" = some false ∧ kitB t "dict" = some false ∧ ∃ i b, kitB t "int" = some i ∧ kitB t "bool" = some b := by
  cases h with
  | non => exact ⟨"NoneType", .base .non, by decide +kernel, by decide +kernel, by decide +kernel, false, false, by decide +kernel, by decide +kernel⟩
  | bl b => exact ⟨"bool", .base (.bl b), by decide +kernel, by decide +kernel, by decide +kernel, true, true, by decide +kernel, by decide +kernel⟩
  | int i => exact ⟨"int", .base (.int i), by decide +kernel, by decide +kernel, by decide +kernel, true, false, by decide +kernel, by decide +kernel⟩
  | str z => exact ⟨"str", .base (.str z), by decide +kernel, by decide +kernel, by decide +kernel, false, false, by decide +kernel, by decide +kernel⟩
theorem FlatD.scal {x : V} {d : PyData} (h : FlatD x d) : scal x x = true := by
  cases h <;> rfl
theorem FlatD.eq {x y : V} {d : PyData} (h : FlatD x d) (h' : FlatD y d) : x = y := by
  cases h <;> cases h' <;> rfl
theorem FlatD.noL {x : V} {ds : List PyData} (h : FlatD x (.list ds)) : False := nomatch h
theorem FlatD.noT {x : V} {ds : List PyData} (h : FlatD x (.tuple ds)) : False := nomatch h
/-- all of a list that is true at each place -/
theorem all_bits {K : PySem.W.Frag} {n : Nat} {H : Hp} {D : Addr} (hR : H D = some (.lst ((List.range n).filterMap fun _ => some (V.bl true)))) : ∃ bs : List Bool, SqL K H D (bs.map V.bl) ∧ bs.all id = true := by
  refine ⟨List.replicate n true, ?_, ?_⟩
  · have e : ((List.range n).filterMap fun _ => some (V.bl true)) = (List.replicate n true).map V.bl := by
      rw [List.filterMap_eq_map', List.map_const', List.length_range, List.map_replicate]
    rw [e] at hR
    exact SqL.of hR
  · rw [List.all_eq_true]
    intro b hb
    exact (List.eq_of_mem_replicate hb)
end KB
set_option Elab.async false
set_option linter.all false
set_option maxRecDepth 100000
set_option maxHeartbeats 4000000
/-! max(xs, default=d), xs a list of ints. -/
namespace KB
open PySem PySem.Spec PyProof.Rows L2
def kwD (dv : Value) : List (Str × Value) := [(Str.ofString "default", dv)]
abbrev mxC (J S : Addr) (dv : Value) : Code := .builtin "max.loop" ⟨[.ref J, .none, .ref S], kwD dv⟩
section
variable {prog : Program} {w : World} {A : Around} {R : Result → Shared → Prop} {J S : Addr} {fq wq : List Addr} {N : Nat} {Iv : Nat → Value → Prop} {Sv : Nat → Heap → Prop} {dv : Value}
theorem mx_name : (toString "max" ++ toString ".loop" : String) = "max.loop" := by decide
/-- what is promised of the end -/
def MxEnd (R : Result → Shared → Prop) (S : Addr) (wq : List Addr) (G : Value → Prop) (s : Shared) : Prop :=
  ∀ (v : Value) (h' : Heap) (tk : Nat), G v → (∀ (b : Addr) (o : Obj), b ∉ wq → b ≠ S → s.heap.get? b = some o → h'.get? b = some o) → R (.ok (.ret v)) { s with heap := h', toks := tk }
theorem MxEnd.on {G : Value → Prop} {s : Shared} {h1 : Heap} {t1 : Nat} (m : MxEnd R S wq G s) (k : ∀ (b : Addr) (o : Obj), b ∉ wq → b ≠ S → s.heap.get? b = some o → h1.get? b = some o) : MxEnd R S wq G { s with heap := h1, toks := t1 } :=
  fun v h' tk g kk => m v h' tk g fun b o n1 n2 e => kk b o n1 n2 (k b o n1 n2 e)
theorem mx_turns (Wk : Walks prog w A.in1 J fq wq N Iv Sv) (bt : Nat → Nat → Bool) (C : CmpOf prog w A.in1 .Gt Iv bt) (nS : S ∉ fq) (d : Nat) : ∀ (i : Nat) (s : Shared) (u : Value) (cap : Nat), N = (i + 1) + d → Sv (i + 1) s.heap → Iv (argBest bt i) u →
    s.heap.get? S = some { cls := .type "list", dict := none, data := .seq #[u, u] cap, slots := #[] } → MxEnd R S wq (Iv (argBest bt (N - 1))) s → codeAny (model prog w) A (mxC J S dv) R s := by
  have nw : S ∉ wq := fun m => nS (Wk.sub _ m)
  induction d with
  | zero =>
    intro i s u cap hN hSt hI hS hE
    have eN : i + 1 = N := by omega
    refine codeAny_builtin PySem.F.entry_max_loop ?_
    rw [Around.under_plainId PySem.F.plain_max_loop _]
    show wpAny _ A.in1 (seqItems? (.ref S) >>= _) _ _ s
    refine wpAny_bind (wpAny_seqItems hS rfl ?_)
    show wpAny _ A.in1 (tryCatch (pyNext (.ref J)) _ >>= _) _ _ s
    refine wpAny_bind (wpAny_tryCatch (Wk.done s _ _ (by rw [← eN]; exact hSt) fun h1 t1 k1 => ?_))
    have hS1 := k1 S _ nw hS
    show wpAny _ A.in1 (updateSeq S (fun _ => #[]) >>= _) _ _ _
    refine wpAny_bind (wpAny_updateSeq hS1 rfl (wpAny_bind (wpAny_letGo (wpAny_pure ?_))))
    refine hE u _ t1 (by rw [← eN]; exact hI) fun b o n1 n2 e => ?_
    exact (Heap.get?_update_other _ _ (Ne.symm n2)).trans (k1 b o n1 e)
  | succ d ih =>
    intro i s u cap hN hSt hI hS hE
    have hi : i + 1 < N := by omega
    refine codeAny_builtin PySem.F.entry_max_loop ?_
    rw [Around.under_plainId PySem.F.plain_max_loop _]
    show wpAny _ A.in1 (seqItems? (.ref S) >>= _) _ _ s
    refine wpAny_bind (wpAny_seqItems hS rfl ?_)
    show wpAny _ A.in1 (tryCatch (pyNext (.ref J)) _ >>= _) _ _ s
    refine wpAny_bind (wpAny_tryCatch (Wk.item (i + 1) s _ _ hi hSt fun v h1 t1 hv hSt1 k1 => ?_))
    have hS1 := k1 S _ nw hS
    show wpAny _ A.in1 (tryCatch (holding [v, v] (richCompare .Gt v u >>= _)) _ >>= _) _ _ _
    refine wpAny_bind (wpAny_tryCatch (wpAny_holding (wpAny_bind (C (i + 1) (argBest bt i) v u _ _ _ hv hI ?_))))
    refine wpAny_bind (wpAny_holding (wpAny_truthy_bool (wpAny_bind (wpAny_letGo (wpAny_pure ?_)))))
    cases q : bt (i + 1) (argBest bt i) with
    | true =>
      have eB : argBest bt (i + 1) = i + 1 := by simp only [argBest, q, if_true]
      simp only [if_true]
      refine wpAny_bind (wpAny_updateSeq hS1 rfl (wpAny_bind (wpAny_letGo ?_)))
      rw [mx_name]
      refine wpAny_pure ⟨plainId_quiet PySem.F.plain_max_loop _, ih (i + 1) _ v _ (by omega) (Wk.frame _ _ _ hSt1 fun b hb o e => ?_) (by rw [eB]; exact hv) (Heap.get?_update_self _ hS1 rfl) (hE.on fun b o n1 n2 e => ?_)⟩
      · exact (Heap.get?_update_other _ _ (fun z : S = b => nS (z ▸ hb))).trans e
      · exact (Heap.get?_update_other _ _ (Ne.symm n2)).trans (k1 b o n1 e)
    | false =>
      have eB : argBest bt (i + 1) = argBest bt i := by simp only [argBest, q, Bool.false_eq_true, if_false]
      simp only [Bool.false_eq_true, if_false]
      refine wpAny_bind (wpAny_letGo ?_)
      rw [mx_name]
      exact wpAny_pure ⟨plainId_quiet PySem.F.plain_max_loop _, ih (i + 1) _ u cap (by omega) hSt1 (by rw [eB]; exact hI) hS1 (hE.on fun b o n1 n2 e => k1 b o n1 e)⟩
/-- from the first turn on -/
theorem mx_first (Wk : Walks prog w A.in1 J fq wq N Iv Sv) (bt : Nat → Nat → Bool) (C : CmpOf prog w A.in1 .Gt Iv bt) (nS : S ∉ fq) {s : Shared} {cap : Nat} (hSt : Sv 0 s.heap)
    (hS : s.heap.get? S = some { cls := .type "list", dict := none, data := .seq #[] cap, slots := #[] }) (h0 : N = 0 → MxEnd R S wq (fun v => v = dv) s) (h1 : 0 < N → MxEnd R S wq (Iv (argBest bt (N - 1))) s) : codeAny (model prog w) A (mxC J S dv) R s := by
  have nw : S ∉ wq := fun m => nS (Wk.sub _ m)
  refine codeAny_builtin PySem.F.entry_max_loop ?_
  rw [Around.under_plainId PySem.F.plain_max_loop _]
  show wpAny _ A.in1 (seqItems? (.ref S) >>= _) _ _ s
  refine wpAny_bind (wpAny_seqItems hS rfl ?_)
  show wpAny _ A.in1 (tryCatch (pyNext (.ref J)) _ >>= _) _ _ s
  rcases Nat.eq_zero_or_pos N with e | hN
  · refine wpAny_bind (wpAny_tryCatch (Wk.done s _ _ (by rw [e]; exact hSt) fun h' tk k' => ?_))
    show wpAny _ A.in1 (rule (toString "max" ++ toString ".default") >>= fun _ => ret dv) _ _ _
    refine wpAny_bind (wpAny_rule ?_)
    exact wpAny_pure (h0 e dv h' tk rfl fun b o n1 n2 ee => k' b o n1 ee)
  · refine wpAny_bind (wpAny_tryCatch (Wk.item 0 s _ _ hN hSt fun v h' tk hv hSt1 k' => ?_))
    have hS1 := k' S _ nw hS
    show wpAny _ A.in1 (updateSeq S (fun _ => #[v, v]) >>= _) _ _ _
    refine wpAny_bind (wpAny_updateSeq hS1 rfl ?_)
    rw [mx_name]
    refine wpAny_pure ⟨plainId_quiet PySem.F.plain_max_loop _, mx_turns Wk bt C nS (N - 1) 0 _ v _ (by omega) (Wk.frame _ _ _ hSt1 fun b hb o e => ?_) hv (Heap.get?_update_self _ hS1 rfl) ((h1 hN).on fun b o n1 n2 e => ?_)⟩
    · exact (Heap.get?_update_other _ _ (fun z : S = b => nS (z ▸ hb))).trans e
    · exact (Heap.get?_update_other _ _ (Ne.symm n2)).trans (k' b o n1 e)
end
section
variable {prog : Program} {w : World} {A : Around} {E : Value → Shared → Prop} {s : Shared} {l : Addr}
theorem mx_args (a v : Value) : argsOk "max" ⟨[a], kwD v⟩ := by unfold argsOk kwD; kernel_rfl
theorem max_dflt {xs : Array (Int × Tok)} {dv : Value} {Q : Value → Shared → Prop} (hh : A.handled = none) (hl : s.heap.IsList l (intItems xs))
    (k0 : xs.size = 0 → ∀ h' tk, (∀ b o, s.heap.get? b = some o → h'.get? b = some o) → Q dv { s with heap := h', toks := tk })
    (k1 : 0 < xs.size → ∀ v h' tk, (intItems xs)[argBest (fun i j => decide (numAt xs i > numAt xs j)) (xs.size - 1)]? = some v → (∀ b o, s.heap.get? b = some o → h'.get? b = some o) → Q v { s with heap := h', toks := tk }) :
    wpAny (model prog w) A (call (.builtin "max") [.ref l] (kwD dv)) Q E s := by
  have fin : wpAny (model prog w) A.in1 (Builtin.«max» ⟨[.ref l], kwD dv⟩) (fun z s' => match z with
      | .done f => (match (Except.ok f : Result) with | .ok (.ret v) => Q v s' | .ok _ => False | .error e => E e s')
      | .again c' => c'.quiet = true ∧ codeAny (model prog w) A c' (fun r s' => match r with | .ok (.ret v) => Q v s' | .ok _ => False | .error e => E e s') s') E s := by
    show wpAny _ A.in1 (Builtin.Builtins.bindParams "max" ["key", "default"] 0 ⟨[], kwD dv⟩ >>= _) _ _ s
    refine wpAny_bind (wpAny_of_eq (show Builtin.Builtins.bindParams "max" ["key", "default"] 0 ⟨[], kwD dv⟩ = pure [none, some dv] from rfl) ?_)
    refine wpAny_bind (wpAny_pure ?_)
    refine wpAny_bind (iter_intList hl fun s2 e hI hlt ne => ?_)
    subst e
    refine wpAny_bind (wpAny_newObj_type ?_)
    rw [mx_name]
    have nS : s.heap.objs.size + 1 ∉ [s.heap.objs.size, l] := fun m => by
      have hl' : l < s.heap.objs.size := by
        obtain ⟨_, e, _⟩ := hl
        exact Heap.lt_size e
      rcases List.mem_cons.mp m with e | m
      · exact absurd e (Nat.succ_ne_self _)
      · rw [List.mem_singleton] at m
        rw [← m] at hl'
        exact Nat.lt_irrefl _ (Nat.lt_of_succ_lt hl')
    have sz : (s.heap.push { cls := .type "list_iterator", data := .fields #[.ref l, .int 0 0] }).objs.size = s.heap.objs.size + 1 := Heap.size_push ..
    have Wk := Walks.list (prog := prog) (w := w) (A := A.in1) hh s.heap.objs.size l ne (intItems xs)
    have old : ∀ (b : Addr) (o : Obj), s.heap.get? b = some o → b ∉ [s.heap.objs.size] ∧ b ≠ s.heap.objs.size + 1 := fun b o e => by
      have := Heap.lt_size e
      refine ⟨fun m => ?_, Nat.ne_of_lt (Nat.lt_succ_of_lt this)⟩
      rw [List.mem_singleton] at m
      exact Nat.ne_of_lt this m
    refine wpAny_pure ⟨plainId_quiet PySem.F.plain_max_loop _, ?_⟩
    rw [sz]
    refine mx_first (S := s.heap.objs.size + 1) (dv := dv) Wk (fun i j => decide (numAt xs i > numAt xs j)) (CmpOf.ints_gt (numAt xs) fun _ _ => intItems_at) nS (Wk.frame _ _ _ hI fun b _ o e => Heap.get?_push_of_some _ e) (by rw [← sz]; exact Heap.get?_push_size _ rfl) (fun h0 v h' tk g k => ?_) (fun h1 v h' tk g k => ?_)
    · subst g
      exact k0 (by simpa [intItems] using h0) h' tk fun b o e => k b o (old b o e).1 (old b o e).2 (Heap.get?_push_of_some _ (Heap.get?_push_of_some _ e))
    · exact k1 (by simpa [intItems] using h1) v h' tk (by simpa [intItems] using g) fun b o e => k b o (old b o e).1 (old b o e).2 (Heap.get?_push_of_some _ (Heap.get?_push_of_some _ e))
  refine wpAny_call (codeAny_call_builtin PySem.F.plain_max PySem.F.entry_max ?_)
  simp only [checkBuiltinCall, PySem.F.kind_max]
  cases q : Manifest.signature? "max" with
  | none => exact wpAny_pure fin
  | some sig =>
    have ha := mx_args (.ref l) dv
    simp only [argsOk, q] at ha
    show wpAny _ A.in1 (Bind.checkArgs "max" sig ⟨[.ref l], kwD dv⟩) _ _ s
    rw [show Bind.checkArgs "max" sig ⟨[.ref l], kwD dv⟩ = pure () from ha]
    exact wpAny_pure fin
end
section
variable {X : Cx}
/-- max(xs, default=d) -/
def rMaxDf (K : PySem.W.Frag) : List V → List V → Hp → VK → Prop := fun vs zs H Q => ∃ (a : Addr) (ns : List Int) (d : Int), vs = [.ref a] ∧ zs = [.int d] ∧ SqL K H a (ns.map V.int) ∧ ∀ m : Int, (ns = [] → m = d) → (ns ≠ [] → m ∈ ns ∧ ∀ y ∈ ns, y ≤ m) → Q (.int m) H
theorem cr_maxDf (hc : X.calm = true) : CallRK X (.builtin "max") [Str.ofString "default"] (rMaxDf X.K) := by
  intro pins s σ H vs zs us ws Q I r rz h
  obtain ⟨a, ns, d, rfl, rfl, hs, q⟩ := h
  obtain ⟨dv, rfl, rd⟩ := rz.one
  obtain ⟨its, rv, hl, _⟩ := I.list hs
  rw [Vals.ref1 r]
  obtain ⟨xs, e⟩ := rv.ints.allInts.items
  have hn : numsOf (intItems xs).toList = ns := by
    rw [← e]
    exact rv.ints.numsOf
  rw [nums_intItems] at hn
  have hl' := hl.isList
  rw [e] at hl'
  have ln : ns.length = xs.size := by rw [← hn, List.length_map, Array.length_toList]
  refine max_dflt (I.ok.hd hc) hl' (fun h0 h' tk k => ?_) (fun h1 v h' tk hv k => ?_)
  · have e0 : ns = [] := List.eq_nil_of_length_eq_zero (by omega)
    exact ⟨.int d, H, I.kept k, rd, q d (fun _ => rfl) fun z => absurd e0 z⟩
  · obtain ⟨t, rfl⟩ := intItems_at hv
    obtain ⟨b1, b2⟩ := argBest_gt (numAt xs) (xs.size - 1)
    have ne : ns ≠ [] := fun z => by
      rw [z] at ln
      simp at ln
      omega
    refine ⟨.int _, H, I.kept k, ⟨_, rfl⟩, q _ (fun z => absurd z ne) fun _ => ⟨?_, fun y hy => ?_⟩⟩
    · rw [numAt_eq, hn]
      exact PySem.getD_mem (by omega)
    · obtain ⟨j, hj, rfl⟩ := mem_getD hy
      rw [← hn, ← numAt_eq]
      exact b2 j (by omega)
end
end KB
set_option Elab.async false
set_option linter.all false
set_option maxRecDepth 100000
set_option maxHeartbeats 4000000
namespace K37
open PySem PySem.Spec PyProof.Rows L2 KB
abbrev FnP (K : PySem.W.Frag) (x : Str) (st : Stmt) (f : Addr) (fd : FuncData) : Prop := FunD K x x (defArgs st) (defBody st) (defScope st) [] [] f fd
abbrev sPurse : Stmt := top 31
abbrev sMixed : Stmt := top 32
abbrev sDraw : Stmt := top 33
section
variable {P : Program} {w : World} {K : PySem.W.Frag} {mg : Str → Option Value} {base : Heap} {f fM : Addr} {fd fdM : FuncData}
theorem scPurse : FnScope ["_law_script", "_law_at", "_law_seed"] ["_law_script", "_law_at"] (defScope sPurse) := ⟨rfl, rfl, rfl, by decide +kernel, rfl, by decide +kernel, by decide +kernel⟩
theorem ok_purse (F : FnP K "_law_purse" sPurse f fd) (Z : Free mg) : FnOk P w K mg base CX0 1 f fd ["_law_script", "_law_at"] (spPurse K) := by
  refine F.ok scPurse (fun vs H Q E h => ?_) (fun cdv A outer s H vs Q E hr h => ?_)
  · obtain ⟨a, ns, i, rfl, _⟩ := h
    rfl
  · obtain ⟨a, ns, i, rfl, hS, k⟩ := h
    have nd := scPurse.nd
    refine ⟨_, PSs.nox (pss_cons (ps_set (i := 2) nd rfl (Or.inl rfl) (pe_callB (cr_sum rfl) (by rfl) Z.sum (by decide +kernel) (pa_cons (pe_slice sl_list (pv 0) (po_some (pv 1)) (po_some (pe_op op_add (pv 1) pe_int))) pa_nil)))
      (pss_one (ps_ret (pe_lst (pa_cons (pe_op op_mod (pe_callTy call_int1 (by rfl) Z.int (by decide +kernel) (pa_cons (pe_callB (call_max2 rfl) (by rfl) Z.max (by decide +kernel)
          (pa_cons (pe_op op_sub (pv 2) (pe_op op_pow pe_int pe_int)) (pa_cons pe_int pa_nil))) pa_nil)) (pe_op op_powL (pe_op op_pow pe_int pe_int) pe_int))
        (pa_cons (pe_op op_mod (pe_callTy call_int1 (by rfl) Z.int (by decide +kernel) (pa_cons (pv 2) pa_nil)) pe_int) (pa_cons pe_int (pa_cons (pv 1) pa_nil)))))))), ?_⟩
    refine ⟨_, rfl, _, rfl, i, rfl, ?_⟩
    refine ⟨_, rfl, _, _, rfl, rfl, ?_⟩
    refine ⟨i + 1, rfl, a, _, rfl, hS, fun q hq => ?_⟩
    rw [cut_map]
    refine ⟨q, _, rfl, SqL.of upd_same, ?_⟩
    -- the list
    refine ⟨_, rfl, _, _, rfl, rfl, ⟨by decide, by decide, by decide⟩, _, _, rfl, rfl, ?_⟩
    refine ⟨_, _, rfl, Or.inl ⟨_, rfl, ?_⟩⟩
    refine ⟨_, _, rfl, rfl, ⟨by decide, by decide, by decide⟩, ?_⟩
    refine ⟨_, _, rfl, rfl, ⟨by decide, by decide +kernel⟩, ?_⟩
    refine ⟨_, _, rfl, rfl, (by show (0 : Int) < _; decide +kernel), ?_⟩
    refine ⟨_, rfl, Or.inl ⟨_, rfl, ?_⟩⟩
    refine ⟨_, _, rfl, rfl, (by show (0 : Int) < _; decide), ?_⟩
    refine ⟨_, rfl, (by show 4 ≤ sizeLine; decide), fun p hp => ?_⟩
    refine k p _ (Same.trans (Same.upd hq) (Same.upd hp)) ?_ ⟨_, _, 0, i, upd_same, ⟨Int.emod_nonneg _ (by decide), Int.lt_trans (Int.emod_lt_of_pos _ (by decide)) (by decide)⟩, Int.emod_nonneg _ (by decide +kernel), Int.le_refl _, Int.le_refl _⟩
    rw [upd_ne (fun e => by rw [e, upd_same] at hp; cases hp)] at hp
    exact hp
theorem scMixed : FnScope ["_law_seed", "_law_spin", "_law_at", "_law_mixed_here"] ["_law_seed", "_law_spin", "_law_at"] (defScope sMixed) := ⟨rfl, rfl, rfl, by decide +kernel, rfl, by decide +kernel, by decide +kernel⟩
theorem ok_mixed (F : FnP K "_law_mixed" sMixed f fd) (Z : Free mg) : FnOk P w K mg base CX0 1 f fd ["_law_seed", "_law_spin", "_law_at"] spMixed := by
  refine F.ok scMixed (fun vs H Q E h => ?_) (fun cdv A outer s H vs Q E hr h => ?_)
  · obtain ⟨B, c, i, rfl, _⟩ := h
    rfl
  · obtain ⟨B, c, i, rfl, ⟨hc0, hc1⟩, k⟩ := h
    have nd := scMixed.nd
    refine ⟨_, PSs.nox (pss_cons (ps_set (i := 3) nd rfl (Or.inl rfl) (pe_op op_add (pe_op op_mul (pv 0) pe_int) (pe_op op_mul (pe_op op_mul pe_int (pv 1)) (pv 1))))
      (pss_cons (ps_set (i := 3) nd rfl (Or.inl rfl) (pe_op op_mod (pe_callTy call_int1 (by rfl) Z.int (by decide +kernel) (pa_cons (pe_op op_add (pe_op op_add (pv 3) (pe_op op_mul pe_int (pv 2))) (pv 1)) pa_nil)) pe_int))
      (pss_cons (ps_set (i := 3) nd rfl (Or.inl rfl) (pe_op op_mod (pe_callTy call_int1 (by rfl) Z.int (by decide +kernel) (pa_cons (pe_op op_add (pe_op op_mul (pv 3) (pv 3)) pe_int) pa_nil)) pe_int))
      (pss_one (ps_ret (pe_op op_mod (pe_callTy call_int1 (by rfl) Z.int (by decide +kernel) (pa_cons (pe_op op_mul (pv 3) pe_int) pa_nil)) pe_int)))))), ?_⟩
    have c64 : -(2 ^ 64) < c ∧ c < 2 ^ 64 := ⟨by omega, by omega⟩
    refine ⟨_, rfl, _, _, rfl, rfl, Or.inr ⟨by decide, by decide⟩, ?_⟩
    refine ⟨_, rfl, _, _, rfl, rfl, Or.inl ⟨by decide, by decide⟩, ?_⟩
    refine ⟨_, rfl, _, _, rfl, rfl, Or.inr c64, ?_⟩
    refine ⟨_, _, rfl, rfl, ?_⟩
    refine ⟨_, rfl, _, rfl, _, _, rfl, rfl, Or.inl ⟨by decide, by decide⟩, ?_⟩
    refine ⟨_, _, rfl, rfl, _, rfl, _, _, rfl, rfl, ?_⟩
    refine Or.inl ⟨_, rfl, ?_⟩
    refine ⟨_, _, rfl, rfl, (by show (0 : Int) < _; decide), ?_⟩
    generalize hm : (B * 69069 + 104729 * c * c + 7919 * i + c) % 2147483647 = m
    have h1 : 0 ≤ m := by rw [← hm]; exact Int.emod_nonneg _ (by decide)
    have h2 : m < 2147483647 := by rw [← hm]; exact Int.emod_lt_of_pos _ (by decide)
    refine ⟨_, rfl, _, rfl, _, _, rfl, rfl, Or.inl ⟨by omega, by omega⟩, ?_⟩
    refine ⟨_, _, rfl, rfl, Or.inl ⟨_, rfl, ?_⟩⟩
    refine ⟨_, _, rfl, rfl, (by show (0 : Int) < _; decide), ?_⟩
    refine ⟨_, rfl, _, _, rfl, rfl, Or.inr ⟨by decide, by decide⟩, Or.inl ⟨_, rfl, ?_⟩⟩
    refine ⟨_, _, rfl, rfl, (by show (0 : Int) < _; decide), ?_⟩
    exact k _ (Int.emod_nonneg _ (by decide)) (Int.emod_lt_of_pos _ (by decide))
theorem scDraw : FnScope ["_law_purse_here", "_law_many", "_law_drawn", "_law_found", "_law_piece"] ["_law_purse_here", "_law_many"] (defScope sDraw) := ⟨rfl, rfl, rfl, by decide +kernel, rfl, by decide +kernel, by decide +kernel⟩
theorem ok_draw (F : FnP K "_law_draw" sDraw f fd) (Z : Free mg) (FM : FnP K "_law_mixed" sMixed fM fdM) (gM : mg "_law_mixed" = some (.ref fM)) : FnOk P w K mg base CX0 2 f fd ["_law_purse_here", "_law_many"] spDraw := by
  have GM : FnOk P w K mg base CX0 1 fM fdM ["_law_seed", "_law_spin", "_law_at"] spMixed := ok_mixed FM Z
  have bM : Binds K fdM ["_law_seed", "_law_spin", "_law_at"] [] := FM.bindsN fun _ _ _ _ _ _ us hl => match us, hl with | [_, _, _], _ => rfl
  refine F.ok scDraw (fun vs H Q E h => ?_) (fun cdv A outer s H vs Q E hr h => ?_)
  · obtain ⟨p, m, N, rfl, _⟩ := h
    rfl
  · obtain ⟨p, m, N, rfl, hm1, hm2, hP, hN, hN2, k⟩ := h
    obtain ⟨A0, B, c, i, hp, hB, hA, hc, hcN⟩ := id hP
    have nd := scDraw.nd
    refine ⟨_, PSs.nox (pss_cons (ps_if (pt_cmpR op_gt (pe_ix ix_list (pv 0) pe_int (fun _ _ => rfl)) pe_int (nomark _))
        (pss_cons (ps_set (i := 2) nd rfl (Or.inl rfl) (pe_op op_mod (pe_callTy call_int1 (by rfl) Z.int (by decide +kernel) (pa_cons (pe_ix ix_list (pv 0) pe_int (fun _ _ => rfl)) pa_nil)) (pv 1)))
        (pss_cons (ps_asg (pe_op op_fdivW (pe_ix ix_list (pv 0) pe_int (fun _ _ => rfl)) (pv 1)) (pg_sub (pv 0) pe_int set_list))
        (pss_one (ps_ret (pv 2))))) pss_nil)
      (pss_cons (ps_set (i := 3) nd rfl (Or.inl rfl) pe_int)
      (pss_cons (ps_for PassesOwn.never rfl (pi_range1 rfl Z.range (pa_cons (pe_op op_add pe_int (pe_op op_fdiv (pe_bits (pv 1)) pe_int)) pa_nil)) (pg_name (i := 4) nd rfl (Or.inl rfl))
        (pss_cons (ps_asg (pe_op op_add (pe_ix ix_list (pv 0) pe_int (fun _ _ => rfl)) pe_int) (pg_sub (pv 0) pe_int set_list))
        (pss_one (ps_set (i := 3) nd rfl (Or.inl rfl) (pe_op op_add (pe_op op_mul (pv 3) pe_int) (pe_call GM hr rfl gM FM.kp bM .nil pass0
          (pa_cons (pe_ix ix_list (pv 0) pe_int (fun _ _ => rfl)) (pa_cons (pe_ix ix_list (pv 0) pe_int (fun _ _ => rfl)) (pa_cons (pe_ix ix_list (pv 0) pe_int (fun _ _ => rfl)) pa_nil)))))))))
      (pss_one (ps_ret (pe_op op_mod (pe_callTy call_int1 (by rfl) Z.int (by decide +kernel) (pa_cons (pv 3) pa_nil)) (pv 1))))))), ?_⟩
    -- if purse[0] > 0
    refine ⟨_, rfl, p, _, 0, .int A0, rfl, rfl, SqL.of hp, rfl, ?_⟩
    refine ⟨_, _, rfl, rfl, _, rfl, ?_⟩
    refine ite2 (fun hpos => ?_) (fun hneg => ?_)
    · refine ⟨_, rfl, p, _, 0, .int A0, rfl, rfl, SqL.of hp, rfl, Or.inl ⟨_, rfl, ?_⟩⟩
      refine ⟨_, rfl, _, _, rfl, rfl, (by show (0 : Int) < m; omega), ?_⟩
      refine ⟨_, rfl, p, _, 0, .int A0, rfl, rfl, SqL.of hp, rfl, ?_⟩
      refine ⟨_, rfl, _, _, rfl, rfl, ⟨by omega, hm2⟩, ?_⟩
      refine ⟨_, rfl, p, _, 0, 0, rfl, rfl, hp, rfl, ?_⟩
      refine ⟨_, rfl, ?_⟩
      refine k _ _ (Int.emod_nonneg _ (by omega)) (Int.emod_lt_of_pos _ (by omega)) But.upd ⟨A0 / m, B, c, i, upd_same, hB, Int.ediv_nonneg hA (by omega), hc, by omega⟩
    · -- found = 0; for piece in range(..)
      have hb : (0 : Int) ≤ 1 + (Builtin.Int.intBits m : Int) / 28 := by omega
      have hM : ((mixes m : Nat) : Int) = 1 + (Builtin.Int.intBits m : Int) / 28 := by
        unfold mixes
        exact Int.toNat_of_nonneg hb
      refine ⟨_, rfl, _, rfl, _, _, rfl, rfl, ⟨by decide, by decide⟩, _, _, rfl, rfl, ?_⟩
      refine ⟨1 + (Builtin.Int.intBits m : Int) / 28, rfl, by omega, by omega, ?_⟩
      refine for_range (lo := 0) (n := (1 + (Builtin.Int.intBits m : Int) / 28).toNat) (fun j σ H2 => ∃ (g : Int) (v2 v4 : Option V), σ = [some (.ref p), some (.int m), v2, some (.int g), v4] ∧ But p H H2 ∧
          ∃ c' : Int, H2 p = some (.lst [.int A0, .int B, .int c', .int i]) ∧ 0 ≤ c' ∧ c' ≤ (N : Int) + (j : Int))
        ⟨0, none, none, rfl, But.refl _ _, c, hp, hc, by omega⟩ ?_ ?_
      · rintro j σ H2 hj ⟨g, v2, v4, rfl, kb, c', hp2, h0, h1⟩
        have hj2 : (j : Int) < 2 ^ 50 := by
          have : j < mixes m := hj
          omega
        refine ⟨_, rfl, p, _, 2, .int c', rfl, rfl, SqL.of hp2, rfl, ?_⟩
        refine ⟨_, _, rfl, rfl, ?_⟩
        refine ⟨_, rfl, p, _, 2, 2, rfl, rfl, hp2, rfl, ?_⟩
        have hp3 : (L2.upd H2 p (.lst (List.set [V.int A0, .int B, .int c', .int i] 2 (.int (c' + 1))))) p = some (.lst [.int A0, .int B, .int (c' + 1), .int i]) := upd_same
        refine ⟨_, rfl, _, _, rfl, rfl, Or.inr ⟨by decide, by decide⟩, ?_⟩
        refine ⟨_, rfl, p, _, 1, .int B, rfl, rfl, SqL.of hp3, rfl, ?_⟩
        refine ⟨_, rfl, p, _, 2, .int (c' + 1), rfl, rfl, SqL.of hp3, rfl, ?_⟩
        refine ⟨_, rfl, p, _, 3, .int i, rfl, rfl, SqL.of hp3, rfl, ?_⟩
        refine ⟨B, c' + 1, i, rfl, ⟨by omega, by omega⟩, fun r hr0 hr1 => ?_⟩
        refine ⟨_, _, rfl, rfl, ?_⟩
        exact ⟨_, v2, _, rfl, But.trans kb But.upd, c' + 1, hp3, by omega, by omega⟩
      · rintro σ H2 ⟨g, v2, v4, rfl, kb, c', hp2, h0, h1⟩
        refine ⟨_, rfl, Or.inl ⟨_, rfl, ?_⟩⟩
        refine ⟨_, rfl, _, _, rfl, rfl, (by show (0 : Int) < m; omega), ?_⟩
        refine k _ _ (Int.emod_nonneg _ (by omega)) (Int.emod_lt_of_pos _ (by omega)) kb ⟨A0, B, c', i, hp2, hB, hA, h0, ?_⟩
        have : ((N + mixes m : Nat) : Int) = (N : Int) + (mixes m : Int) := by omega
        rw [this]
        exact h1
end
abbrev s_purse := sPurse
abbrev s_mixed := sMixed
abbrev s_draw := sDraw
end K37
set_option Elab.async false
set_option linter.all false
set_option maxRecDepth 100000
set_option maxHeartbeats 8000000
namespace K37
open PySem PySem.Spec PyProof.Rows L2 KB RZ
abbrev s_exact : Stmt := top 34
abbrev N_exact : List Str := ["_law_mine", "_law_theirs", "_law_alike", "_law_a", "_law_b", "_law_key"]
theorem sc_exact : FnScope N_exact ["_law_mine", "_law_theirs"] (defScope s_exact) := ⟨rfl, rfl, rfl, by decide +kernel, rfl, by decide +kernel, by decide +kernel⟩
section
variable {P : Program} {w : World} {K : PySem.W.Frag} {mg : Str → Option Value} {base : Heap} {f : Addr} {fd : FuncData}
theorem ok_exact (F : FnP K "_law_exact" s_exact f fd) (Z : Free mg) (gE : mg "_law_exact" = some (.ref f)) : ∀ n : Nat, FnOk P w K mg base CX0 (n + 1) f fd ["_law_mine", "_law_theirs"] (spExact n) := by
  have bE : Binds K fd ["_law_mine", "_law_theirs"] [] := F.bindsN fun _ _ _ _ _ _ us hl => match us, hl with | [_, _], _ => rfl
  have kitF : ∀ {t : String}, kitB t "list" = some false → kitB t "tuple" = some false → PySem.W.kitAny K (.type t) [.type "list", .type "tuple"] = some false := fun h1 h2 =>
    kitAny_cons (kit_ty h1) (fun _ => kitAny_cons (kit_ty h2) (fun _ => kitAny_nil) (fun z => nomatch z)) (fun z => nomatch z)
  have la : kitB "list" "list" = some true := by decide +kernel
  have lt : kitB "list" "tuple" = some false := by decide +kernel
  have ta : kitB "tuple" "tuple" = some true := by decide +kernel
  have tl : kitB "tuple" "list" = some false := by decide +kernel
  intro n
  induction n with
  | zero =>
    refine F.ok sc_exact (fun vs H Q E h => ?_) (fun cdv A outer s H vs Q E hr h => ?_)
    · obtain ⟨x, y, d, rfl, _⟩ := h
      rfl
    · obtain ⟨x, y, d, rfl, hx, hy, k⟩ := h
      have hx : FlatD x d := hx
      obtain rfl : y = x := FlatD.eq hy hx
      have nd := sc_exact.nd
      refine ⟨_, PSs.nox (pss_cons (ps_if (pt_val (pe_callB call_isiT (by rfl) Z.isi (by decide +kernel) (pa_cons (pv 0) (pa_cons (pe_tup (pa_cons (pe_bltn (v := .ty "list") (by rfl) Z.tlist (by decide +kernel) rfl) (pa_cons (pe_bltn (v := .ty "tuple") (by rfl) Z.ttuple (by decide +kernel) rfl) (pa_nil)))) pa_nil)))) (pss_cons ps_dead (pss_one ps_dead)) (pss_nil))
      (pss_cons (ps_if (pt_val (pe_callB call_isi (by rfl) Z.isi (by decide +kernel) (pa_cons (pv 0) (pa_cons (pe_bltn (v := .ty "dict") (by rfl) Z.tdict (by decide +kernel) rfl) pa_nil)))) (pss_cons ps_dead (pss_one ps_dead)) (pss_nil))
      (pss_cons (ps_set (i := 2) nd rfl (Or.inl rfl) (pe_cmpR op_eq (pe_callB call_isi (by rfl) Z.isi (by decide +kernel) (pa_cons (pv 0) (pa_cons (pe_bltn (v := .ty "int") (by rfl) Z.int (by decide +kernel) rfl) pa_nil))) (pe_callB call_isi (by rfl) Z.isi (by decide +kernel) (pa_cons (pv 1) (pa_cons (pe_bltn (v := .ty "int") (by rfl) Z.int (by decide +kernel) rfl) pa_nil))) (nomark _)))
      (pss_one (ps_ret (pe_and (pv 2) (pe_and (pe_cmpR op_eq (pe_callB call_isi (by rfl) Z.isi (by decide +kernel) (pa_cons (pv 0) (pa_cons (pe_bltn (v := .ty "bool") (by rfl) Z.tbool (by decide +kernel) rfl) pa_nil))) (pe_callB call_isi (by rfl) Z.isi (by decide +kernel) (pa_cons (pv 1) (pa_cons (pe_bltn (v := .ty "bool") (by rfl) Z.tbool (by decide +kernel) rfl) pa_nil))) (nomark _)) (pe_one (pe_cmpR op_eq (pv 0) (pv 1) (nomark _)))))))))), ?_⟩
      refine ⟨_, rfl, (by show 2 ≤ sizeLine; decide), fun T hT => ?_⟩
      have s1 : Same H (upd H T (.tup [.ty "list", .ty "tuple"])) := Same.updf hT
      obtain ⟨t', ty', k1', k2', k3', i', b', k4', k5'⟩ := FlatD.ty (K := K) (H := upd H T (.tup [.ty "list", .ty "tuple"])) hx
      refine ⟨y, T, [.ty "list", .ty "tuple"], .type t', [.type "list", .type "tuple"], false, rfl, upd_same, .cons (.ty _) (.cons (.ty _) .nil), ty', kitF k1' k2', false, rfl, iteF ?_⟩
      refine ⟨_, rfl, y, .ty "dict", .type t', .type "dict", false, rfl, .ty _, ty', kit_ty k3', false, rfl, iteF ?_⟩
      refine ⟨_, rfl, y, .ty "int", .type t', .type "int", i', rfl, .ty _, ty', kit_ty k4', _, rfl, y, .ty "int", .type t', .type "int", i', rfl, .ty _, ty', kit_ty k4', rfl, ?_⟩
      rw [decide_eq_true (rfl : V.bl i' = V.bl i')]
      refine ⟨_, rfl, true, rfl, iteT ?_⟩
      refine ⟨_, rfl, y, .ty "bool", .type t', .type "bool", b', rfl, .ty _, ty', kit_ty k5', _, rfl, y, .ty "bool", .type t', .type "bool", b', rfl, .ty _, ty', kit_ty k5', rfl, ?_⟩
      rw [decide_eq_true (rfl : V.bl b' = V.bl b')]
      refine ⟨true, rfl, iteT ?_⟩
      refine ⟨_, rfl, _, rfl, FlatD.scal hx, ?_⟩
      rw [decide_eq_true (rfl : y = y)]
      exact k _ s1
  | succ n ih =>
    refine F.ok sc_exact (fun vs H Q E h => ?_) (fun cdv A outer s H vs Q E hr h => ?_)
    · obtain ⟨x, y, d, rfl, _⟩ := h
      rfl
    · obtain ⟨x, y, d, rfl, hx, hy, k⟩ := h
      have nd := sc_exact.nd
      refine ⟨_, PSs.nox (pss_cons (ps_if (pt_val (pe_callB call_isiT (by rfl) Z.isi (by decide +kernel) (pa_cons (pv 0) (pa_cons (pe_tup (pa_cons (pe_bltn (v := .ty "list") (by rfl) Z.tlist (by decide +kernel) rfl) (pa_cons (pe_bltn (v := .ty "tuple") (by rfl) Z.ttuple (by decide +kernel) rfl) (pa_nil)))) pa_nil)))) (pss_cons (ps_set (i := 2) nd rfl (Or.inl rfl) (pe_and (pe_cmpR op_eq (pe_callB call_isi (by rfl) Z.isi (by decide +kernel) (pa_cons (pv 1) (pa_cons (pe_bltn (v := .ty "list") (by rfl) Z.tlist (by decide +kernel) rfl) pa_nil))) (pe_callB call_isi (by rfl) Z.isi (by decide +kernel) (pa_cons (pv 0) (pa_cons (pe_bltn (v := .ty "list") (by rfl) Z.tlist (by decide +kernel) rfl) pa_nil))) (nomark _)) (pe_one (pe_cmpR op_eq (pe_callB call_isi (by rfl) Z.isi (by decide +kernel) (pa_cons (pv 1) (pa_cons (pe_bltn (v := .ty "tuple") (by rfl) Z.ttuple (by decide +kernel) rfl) pa_nil))) (pe_callB call_isi (by rfl) Z.isi (by decide +kernel) (pa_cons (pv 0) (pa_cons (pe_bltn (v := .ty "tuple") (by rfl) Z.ttuple (by decide +kernel) rfl) pa_nil))) (nomark _)))))
      (pss_one (ps_ret (pe_and (pv 2) (pe_and (pe_cmpR op_eq (pe_callB call_len_seq (by rfl) Z.len (by decide +kernel) (pa_cons (pv 0) (pa_nil))) (pe_callB call_len_seq (by rfl) Z.len (by decide +kernel) (pa_cons (pv 1) (pa_nil))) (nomark _)) (pe_one (pe_callB (cr_all rfl) (by rfl) Z.all (by decide +kernel) (pa_cons (pe_lc (own := [("_law_a", 3), ("_law_b", 4)]) (g := gTup K 2 (gCons (gName 3) (gCons (gName 4) (gNil)))) (tt := tYes) (te := tCall (spExact n) [] E0 (tCons (tVar 3) (tCons (tVar 4) tNil))) (by rfl) nd (pi_zipA (by rfl) Z.zip (pa_cons (pv 0) (pa_cons (pv 1) pa_nil)))
          (blkOk_by (own := [("_law_a", 3), ("_law_b", 4)]) (N := N_exact) (sc := defScope s_exact) (by decide +kernel)) (fun _ _ _ _ _ => pg_tup rfl (pgs_cons (pg_name (i := 3) nd rfl (Or.inl rfl)) (pgs_cons (pg_name (i := 4) nd rfl (Or.inl rfl)) (pgs_nil)))) (fun _ _ _ _ _ => pts_nil)
          (fun _ _ _ _ _ => pe_call ih hr rfl gE F.kp bE .nil pass0 (pa_cons (pv 3) (pa_cons (pv 4) pa_nil)))) (pa_nil))))))))) (pss_nil))
      (pss_cons (ps_if (pt_val (pe_callB call_isi (by rfl) Z.isi (by decide +kernel) (pa_cons (pv 0) (pa_cons (pe_bltn (v := .ty "dict") (by rfl) Z.tdict (by decide +kernel) rfl) pa_nil)))) (pss_cons ps_dead (pss_one ps_dead)) (pss_nil))
      (pss_cons (ps_set (i := 2) nd rfl (Or.inl rfl) (pe_cmpR op_eq (pe_callB call_isi (by rfl) Z.isi (by decide +kernel) (pa_cons (pv 0) (pa_cons (pe_bltn (v := .ty "int") (by rfl) Z.int (by decide +kernel) rfl) pa_nil))) (pe_callB call_isi (by rfl) Z.isi (by decide +kernel) (pa_cons (pv 1) (pa_cons (pe_bltn (v := .ty "int") (by rfl) Z.int (by decide +kernel) rfl) pa_nil))) (nomark _)))
      (pss_one (ps_ret (pe_and (pv 2) (pe_and (pe_cmpR op_eq (pe_callB call_isi (by rfl) Z.isi (by decide +kernel) (pa_cons (pv 0) (pa_cons (pe_bltn (v := .ty "bool") (by rfl) Z.tbool (by decide +kernel) rfl) pa_nil))) (pe_callB call_isi (by rfl) Z.isi (by decide +kernel) (pa_cons (pv 1) (pa_cons (pe_bltn (v := .ty "bool") (by rfl) Z.tbool (by decide +kernel) rfl) pa_nil))) (nomark _)) (pe_one (pe_cmpR op_eq (pv 0) (pv 1) (nomark _)))))))))), ?_⟩
      rcases hx with hx | ⟨a, xs, ds, rfl, lx, l1, tx, kx⟩
      · have hy : FlatD y d := by
          rcases hy with hy | ⟨b, ys, es, rfl, ly, l2, ty, ky⟩
          · exact hy
          · rcases ty with ⟨_, rfl⟩ | ⟨_, rfl⟩
            · exact (FlatD.noL hx).elim
            · exact (FlatD.noT hx).elim
        obtain rfl : y = x := FlatD.eq hy hx
        refine ⟨_, rfl, (by show 2 ≤ sizeLine; decide), fun T hT => ?_⟩
        have s1 : Same H (upd H T (.tup [.ty "list", .ty "tuple"])) := Same.updf hT
        obtain ⟨t', ty', k1', k2', k3', i', b', k4', k5'⟩ := FlatD.ty (K := K) (H := upd H T (.tup [.ty "list", .ty "tuple"])) hx
        refine ⟨y, T, [.ty "list", .ty "tuple"], .type t', [.type "list", .type "tuple"], false, rfl, upd_same, .cons (.ty _) (.cons (.ty _) .nil), ty', kitF k1' k2', false, rfl, iteF ?_⟩
        refine ⟨_, rfl, y, .ty "dict", .type t', .type "dict", false, rfl, .ty _, ty', kit_ty k3', false, rfl, iteF ?_⟩
        refine ⟨_, rfl, y, .ty "int", .type t', .type "int", i', rfl, .ty _, ty', kit_ty k4', _, rfl, y, .ty "int", .type t', .type "int", i', rfl, .ty _, ty', kit_ty k4', rfl, ?_⟩
        rw [decide_eq_true (rfl : V.bl i' = V.bl i')]
        refine ⟨_, rfl, true, rfl, iteT ?_⟩
        refine ⟨_, rfl, y, .ty "bool", .type t', .type "bool", b', rfl, .ty _, ty', kit_ty k5', _, rfl, y, .ty "bool", .type t', .type "bool", b', rfl, .ty _, ty', kit_ty k5', rfl, ?_⟩
        rw [decide_eq_true (rfl : V.bl b' = V.bl b')]
        refine ⟨true, rfl, iteT ?_⟩
        refine ⟨_, rfl, _, rfl, FlatD.scal hx, ?_⟩
        rw [decide_eq_true (rfl : y = y)]
        exact k _ s1
      · rcases hy with hy | ⟨b, ys, es, rfl, ly, l2, ty, ky⟩
        · rcases tx with ⟨_, rfl⟩ | ⟨_, rfl⟩
          · exact (FlatD.noL hy).elim
          · exact (FlatD.noT hy).elim
        refine ⟨_, rfl, (by show 2 ≤ sizeLine; decide), fun T hT => ?_⟩
        have s1 : Same H (upd H T (.tup [.ty "list", .ty "tuple"])) := Same.updf hT
        have ll : (1000 : Nat) ≤ 100000 := by decide
        have fin : ∀ (H2 : Hp), Same H H2 → ∀ (D : Addr), H2 D = some (.lst ((List.range xs.length).filterMap fun _ => some (V.bl true))) → ∃ (a : Addr) (bs : List Bool), [V.ref D] = [V.ref a] ∧ SqL K H2 a (bs.map V.bl) ∧ Q (.bl (bs.all id)) H2 := fun H2 s2 D hR => by
          obtain ⟨bs, hB, hb'⟩ := all_bits (K := K) hR
          refine ⟨D, bs, rfl, hB, ?_⟩
          rw [hb']
          exact k H2 s2
        rcases tx with ⟨ha, rfl⟩ | ⟨ha, rfl⟩
        · rcases ty with ⟨hb, e⟩ | ⟨hb, e⟩
          · cases e
            have ha1 := s1 _ _ ha
            have hb1 := s1 _ _ hb
            refine ⟨.ref a, T, [.ty "list", .ty "tuple"], .type "list", [.type "list", .type "tuple"], true, rfl, upd_same, .cons (.ty _) (.cons (.ty _) .nil), .base (.lst ha1), kitAny_cons (kit_ty la) (fun z => nomatch z) (fun _ => rfl), true, rfl, iteT ?_⟩
            refine ⟨_, rfl, .ref b, .ty "list", .type "list", .type "list", true, rfl, .ty _, .base (.lst hb1), kit_ty la, _, rfl, .ref a, .ty "list", .type "list", .type "list", true, rfl, .ty _, .base (.lst ha1), kit_ty la, rfl, true, rfl, iteT ?_⟩
            refine ⟨_, rfl, .ref b, .ty "tuple", .type "list", .type "tuple", false, rfl, .ty _, .base (.lst hb1), kit_ty lt, _, rfl, .ref a, .ty "tuple", .type "list", .type "tuple", false, rfl, .ty _, .base (.lst ha1), kit_ty lt, rfl, ?_⟩
            refine ⟨_, rfl, true, rfl, iteT ?_⟩
            refine ⟨_, rfl, a, xs, rfl, Or.inl (SqL.of ha1), _, rfl, b, ys, rfl, Or.inl (SqL.of hb1), rfl, ?_⟩
            rw [decide_eq_true (show V.int (xs.length : Int) = V.int (ys.length : Int) by rw [lx, ly])]
            refine ⟨true, rfl, iteT ?_⟩
            refine ⟨_, rfl, _, rfl, a, b, xs, ys, rfl, Or.inl ⟨SqL.of ha1, SqL.of hb1, fun D hD => ?_⟩⟩
            refine lc_sel (n := xs.length) (walk_zip (K := K) (a := a) (b := b) (xs := xs) (ys := ys) (by omega)) (fun _ => some (.bl true)) (by omega) hD (fun H2 s2 => ⟨SqL.of (s2 _ _ ha1), SqL.of (s2 _ _ hb1)⟩) ?_ ?_
            · rintro i v H2 H3 Qy Qn hi sH ⟨T2, x1, x2, rfl, nT, rfl, g1, g2⟩ ky' kn
              dsimp only at g1 g2
              refine ⟨T2, [_, _], rfl, .inl (.inl upd_same), rfl, _, [_], rfl, _, [], rfl, rfl, ?_⟩
              have sT : Same H2 (upd H2 T2 (.tup [x1, x2])) := Same.updf nT
              have gd : ds[i]? = some (ds[i]'(by omega)) := List.getElem?_eq_getElem _
              exact ⟨rfl, _, rfl, _, rfl, x1, x2, _, rfl, (kx i x1 _ g1 gd).same (s1.trans (sH.trans sT)), (ky i x2 _ g2 gd).same (s1.trans (sH.trans sT)), fun H5 s5 => ky' _ _ (sT.trans s5) rfl⟩
            · intro H2 s2 hR
              exact fin H2 (s1.trans s2) D hR
          · cases e
        · rcases ty with ⟨hb, e⟩ | ⟨hb, e⟩
          · cases e
          · cases e
            have ha1 := s1 _ _ ha
            have hb1 := s1 _ _ hb
            refine ⟨.ref a, T, [.ty "list", .ty "tuple"], .type "tuple", [.type "list", .type "tuple"], true, rfl, upd_same, .cons (.ty _) (.cons (.ty _) .nil), .base (.tup ha1), kitAny_cons (kit_ty tl) (fun _ => kitAny_cons (kit_ty ta) (fun z => nomatch z) (fun _ => rfl)) (fun z => nomatch z), true, rfl, iteT ?_⟩
            refine ⟨_, rfl, .ref b, .ty "list", .type "tuple", .type "list", false, rfl, .ty _, .base (.tup hb1), kit_ty tl, _, rfl, .ref a, .ty "list", .type "tuple", .type "list", false, rfl, .ty _, .base (.tup ha1), kit_ty tl, rfl, true, rfl, iteT ?_⟩
            refine ⟨_, rfl, .ref b, .ty "tuple", .type "tuple", .type "tuple", true, rfl, .ty _, .base (.tup hb1), kit_ty ta, _, rfl, .ref a, .ty "tuple", .type "tuple", .type "tuple", true, rfl, .ty _, .base (.tup ha1), kit_ty ta, rfl, ?_⟩
            refine ⟨_, rfl, true, rfl, iteT ?_⟩
            refine ⟨_, rfl, a, xs, rfl, Or.inr (Or.inl (.inl ha1)), _, rfl, b, ys, rfl, Or.inr (Or.inl (.inl hb1)), rfl, ?_⟩
            rw [decide_eq_true (show V.int (xs.length : Int) = V.int (ys.length : Int) by rw [lx, ly])]
            refine ⟨true, rfl, iteT ?_⟩
            refine ⟨_, rfl, _, rfl, a, b, xs, ys, rfl, Or.inr ⟨SqT.of ha1, SqT.of hb1, fun D hD => ?_⟩⟩
            refine lc_sel (n := xs.length) (walk_zipT (K := K) (a := a) (b := b) (xs := xs) (ys := ys) (by omega)) (fun _ => some (.bl true)) (by omega) hD (fun H2 s2 => ⟨SqT.of (s2 _ _ ha1), SqT.of (s2 _ _ hb1)⟩) ?_ ?_
            · rintro i v H2 H3 Qy Qn hi sH ⟨T2, x1, x2, rfl, nT, rfl, g1, g2⟩ ky' kn
              dsimp only at g1 g2
              refine ⟨T2, [_, _], rfl, .inl (.inl upd_same), rfl, _, [_], rfl, _, [], rfl, rfl, ?_⟩
              have sT : Same H2 (upd H2 T2 (.tup [x1, x2])) := Same.updf nT
              have gd : ds[i]? = some (ds[i]'(by omega)) := List.getElem?_eq_getElem _
              exact ⟨rfl, _, rfl, _, rfl, x1, x2, _, rfl, (kx i x1 _ g1 gd).same (s1.trans (sH.trans sT)), (ky i x2 _ g2 gd).same (s1.trans (sH.trans sT)), fun H5 s5 => ky' _ _ (sT.trans s5) rfl⟩
            · intro H2 s2 hR
              exact fin H2 (s1.trans s2) D hR
end
end K37
set_option Elab.async false
set_option linter.all false
set_option maxRecDepth 100000
set_option maxHeartbeats 4000000
/-! Lives: the mathematics. -/
namespace K37
open PySem PySem.Spec PyProof.Rows L2 KB
inductive Ev
  | line | root | stand (n : Nat)
deriving DecidableEq
def Ev.v : Ev → List V
  | .line => [.str "line"]
  | .root => [.str "root"]
  | .stand n => [.str "stand", .int (n : Int)]
def Ev.d : Ev → PyData
  | .line => .tuple [.str "line"]
  | .root => .tuple [.str "root"]
  | .stand n => .tuple [.str "stand", .int (n : Int)]
/-- lines written, the line that stands, lines given up -/
structure S3 where
  w : Nat
  s : Nat
  g : Nat
def step (x : S3) : Ev → S3
  | .line => ⟨x.w + 1, x.s, x.g⟩
  | .root => ⟨x.w, x.s, x.s⟩
  | .stand n => ⟨x.w, n, x.g⟩
def stAt (es : List Ev) (i : Nat) : S3 := (es.take i).foldl step ⟨0, 0, 0⟩
theorem stAt_zero (es : List Ev) : stAt es 0 = ⟨0, 0, 0⟩ := by simp [stAt]
theorem stAt_succ {es : List Ev} {i : Nat} {e : Ev} (h : es[i]? = some e) : stAt es (i + 1) = step (stAt es i) e := by
  unfold stAt
  rw [List.take_succ, h, List.foldl_append]
  rfl
theorem stAt_app {es fs : List Ev} {i : Nat} (h : i ≤ es.length) : stAt (es ++ fs) i = stAt es i := by
  unfold stAt
  rw [List.take_append_of_le_length h]
theorem stAt_take {es : List Ev} {m i : Nat} (h : i ≤ m) : stAt (es.take m) i = stAt es i := by
  unfold stAt
  rw [List.take_take, Nat.min_eq_left h]
structure Valid (es : List Ev) : Prop where
  len : es.length ≤ 60
  ok : ∀ (i n : Nat), es[i]? = some (.stand n) → (stAt es i).s ≤ n ∧ n ≤ (stAt es i).w
theorem Valid.nil : Valid [] := ⟨by decide, fun i n h => by simp at h⟩
theorem Valid.take {es : List Ev} (h : Valid es) (m : Nat) : Valid (es.take m) := by
  refine ⟨?_, fun i n e => ?_⟩
  · have := h.len
    rw [List.length_take]
    omega
  · have hi : i < m := by
      rcases Nat.lt_or_ge i m with q | q
      · exact q
      · rw [List.getElem?_take] at e
        rw [if_neg (by omega)] at e
        cases e
    rw [List.getElem?_take, if_pos hi] at e
    rw [stAt_take (Nat.le_of_lt hi)]
    exact h.ok i n e
theorem Valid.snoc {es : List Ev} {e : Ev} (h : Valid es) (l : es.length < 60) (k : ∀ n, e = .stand n → (stAt es es.length).s ≤ n ∧ n ≤ (stAt es es.length).w) : Valid (es ++ [e]) := by
  refine ⟨by rw [List.length_append, List.length_singleton]; omega, fun i n q => ?_⟩
  by_cases hi : i < es.length
  · rw [List.getElem?_append_left hi] at q
    rw [stAt_app (Nat.le_of_lt hi)]
    exact h.ok i n q
  · rw [List.getElem?_append_right (by omega)] at q
    cases hj : i - es.length with
    | zero =>
      rw [hj] at q
      have ei : i = es.length := by omega
      rw [ei, stAt_app (Nat.le_refl _)]
      exact k n (Option.some.inj q)
    | succ j =>
      rw [hj] at q
      simp at q
theorem stAt_snoc (es : List Ev) (e : Ev) : stAt (es ++ [e]) (es ++ [e]).length = step (stAt es es.length) e := by
  rw [List.length_append, List.length_singleton, stAt_succ (e := e) (by rw [List.getElem?_append_right (Nat.le_refl _), Nat.sub_self]; rfl), stAt_app (Nat.le_refl _)]
/-- in a right life: what is given up stands, what stands was written -/
theorem Valid.ord {es : List Ev} (h : Valid es) : ∀ i, i ≤ es.length → (stAt es i).g ≤ (stAt es i).s ∧ (stAt es i).s ≤ (stAt es i).w ∧ (stAt es i).w ≤ i
  | 0, _ => by
    rw [stAt_zero]
    exact ⟨Nat.le_refl _, Nat.le_refl _, Nat.le_refl _⟩
  | i + 1, hi => by
    obtain ⟨a, b, c⟩ := h.ord i (by omega)
    have e := List.getElem?_eq_getElem (show i < es.length by omega)
    rw [stAt_succ e]
    cases q : es[i] with
    | line =>
      show (stAt es i).g ≤ (stAt es i).s ∧ (stAt es i).s ≤ (stAt es i).w + 1 ∧ (stAt es i).w + 1 ≤ i + 1
      omega
    | root =>
      show (stAt es i).s ≤ (stAt es i).s ∧ (stAt es i).s ≤ (stAt es i).w ∧ (stAt es i).w ≤ i + 1
      omega
    | stand n =>
      rw [q] at e
      have := h.ok i n e
      show (stAt es i).g ≤ n ∧ n ≤ (stAt es i).w ∧ (stAt es i).w ≤ i + 1
      omega
def isL (es : List Ev) (i : Nat) : Bool := match es[i]? with
  | some .line => true
  | _ => false
/-- the places of the lines -/
def lp (es : List Ev) : List Nat := (List.range es.length).filter (isL es)
/-- a line that may not be written there -/
def bad (es : List Ev) (p i : Nat) : Bool := isL es i && decide ((stAt es i).w + 1 > p + (stAt es i).g)
def full (es : List Ev) (p : Nat) : Option Nat := (List.range es.length).find? (bad es p)
/-- the lines ahead of a place -/
theorem lp_pre (es : List Ev) : ∀ i, i ≤ es.length → ((List.range i).filter (isL es)).length = (stAt es i).w
  | 0, _ => by rw [stAt_zero]; rfl
  | i + 1, hi => by
    have e := List.getElem?_eq_getElem (show i < es.length by omega)
    rw [List.range_succ, List.filter_append, List.length_append, lp_pre es i (by omega), stAt_succ e]
    cases q : es[i] with
    | line =>
      have : isL es i = true := by unfold isL; rw [e, q]
      rw [List.filter_cons, this]
      rfl
    | root =>
      have : isL es i = false := by unfold isL; rw [e, q]
      rw [List.filter_cons, this]
      rfl
    | stand n =>
      have : isL es i = false := by unfold isL; rw [e, q]
      rw [List.filter_cons, this]
      rfl
/-- the k-th line has k lines ahead -/
theorem lp_at {es : List Ev} {k i : Nat} (h : (lp es)[k]? = some i) : i < es.length ∧ isL es i = true ∧ (stAt es i).w = k := by
  have hm := List.mem_of_getElem? h
  unfold lp at hm
  rw [List.mem_filter, List.mem_range] at hm
  refine ⟨hm.1, hm.2, ?_⟩
  have sp : lp es = (List.range i).filter (isL es) ++ (i :: ((List.range es.length).drop (i + 1)).filter (isL es)) := by
    unfold lp
    have e1 : List.range es.length = List.range i ++ (i :: (List.range es.length).drop (i + 1)) := by
      conv => lhs; rw [← List.take_append_drop i (List.range es.length)]
      congr 1
      · rw [List.take_range, Nat.min_eq_left (by omega)]
      · rw [List.drop_eq_getElem_cons (by rw [List.length_range]; exact hm.1), List.getElem_range]
    conv => lhs; rw [e1]
    rw [List.filter_append, List.filter_cons, if_pos hm.2]
  have nd : (lp es).Pairwise (· < ·) := List.Pairwise.filter _ List.pairwise_lt_range
  have hl := lp_pre es i (by omega)
  have h2 : (lp es)[(stAt es i).w]? = some i := by
    rw [sp, List.getElem?_append_right (by rw [hl]; exact Nat.le_refl _), hl, Nat.sub_self]
    rfl
  obtain ⟨hk, ek⟩ := List.getElem?_eq_some_iff.mp h
  obtain ⟨hj, ej⟩ := List.getElem?_eq_some_iff.mp h2
  rw [List.pairwise_iff_getElem] at nd
  rcases Nat.lt_trichotomy (stAt es i).w k with q | q | q
  · have := nd _ _ hj hk q
    rw [ej, ek] at this
    omega
  · exact q
  · have := nd _ _ hk hj q
    rw [ej, ek] at this
    omega
theorem fm_congr {α β : Type} {f g : α → Option β} : ∀ {l : List α}, (∀ x ∈ l, f x = g x) → l.filterMap f = l.filterMap g
  | [], _ => rfl
  | a :: l, h => by
    rw [List.filterMap_cons, List.filterMap_cons, h a (List.mem_cons_self ..), fm_congr fun x hx => h x (List.mem_cons_of_mem _ hx)]
/-- what is wanted: (number, place) of the lines that may not be written -/
def wl (es : List Ev) (p : Nat) : List (Nat × Nat) := (List.range (lp es).length).filterMap fun k => if k + 1 > p + (stAt es ((lp es).getD k 0)).g then some (k + 1, (lp es).getD k 0) else none
theorem wl_full (es : List Ev) (p : Nat) : (wl es p).head?.map Prod.snd = full es p := by
  have e : (wl es p).map Prod.snd = (List.range es.length).filter (bad es p) := by
    have e1 : (List.range es.length).filter (bad es p) = (lp es).filter fun i => decide ((stAt es i).w + 1 > p + (stAt es i).g) := by
      unfold lp
      rw [List.filter_filter]
      refine List.filter_congr fun i _ => ?_
      unfold bad
      rw [Bool.and_comm]
    rw [e1]
    unfold wl
    rw [List.map_filterMap]
    have e2 : lp es = (List.range (lp es).length).map fun k => (lp es).getD k 0 := by
      refine List.ext_getElem? fun k => ?_
      rw [List.getElem?_map]
      by_cases hk : k < (lp es).length
      · rw [List.getElem?_range hk, List.getElem?_eq_getElem hk]
        show _ = some ((lp es).getD k 0)
        rw [List.getD_eq_getElem?_getD, List.getElem?_eq_getElem hk]
        rfl
      · rw [List.getElem?_eq_none (by omega), List.getElem?_eq_none (by rw [List.length_range]; omega)]
        rfl
    conv => rhs; rw [e2]
    rw [List.filter_map, ← List.filterMap_eq_filter, List.map_filterMap]
    refine fm_congr fun k hk => ?_
    rw [List.mem_range] at hk
    have hk' : (lp es)[k]? = some ((lp es).getD k 0) := by
      rw [List.getD_eq_getElem?_getD, List.getElem?_eq_getElem hk]
      rfl
    obtain ⟨_, _, ew⟩ := lp_at hk'
    show Option.map Prod.snd (if k + 1 > p + (stAt es ((lp es).getD k 0)).g then some (k + 1, (lp es).getD k 0) else none) = Option.map _ (Option.guard _ k)
    unfold Option.guard
    show _ = Option.map (fun k => (lp es).getD k 0) (if decide ((stAt es ((lp es).getD k 0)).w + 1 > p + (stAt es ((lp es).getD k 0)).g) = true then some k else none)
    rw [ew]
    by_cases q : k + 1 > p + (stAt es ((lp es).getD k 0)).g
    · rw [if_pos q, if_pos (decide_eq_true q)]
      rfl
    · rw [if_neg q, if_neg (by rw [decide_eq_false q]; exact Bool.false_ne_true)]
      rfl
  unfold full
  rw [← List.head?_filter, ← e, List.head?_map]
end K37
set_option Elab.async false
set_option linter.all false
set_option maxRecDepth 100000
set_option maxHeartbeats 8000000
/-! Room's defs, first part. -/
namespace K37
open PySem PySem.Spec PyProof.Rows L2 KB
structure LifeAt (H : Hp) (a : Addr) (es : List Ev) : Prop where
  ex : ∃ ts : List Addr, H a = some (.lst (ts.map V.ref)) ∧ ts.length = es.length ∧ ∀ (i : Nat) (t : Addr) (e : Ev), ts[i]? = some t → es[i]? = some e → H t = some (.tup e.v)
theorem LifeAt.same {H H' : Hp} {a : Addr} {es : List Ev} (k : Same H H') (h : LifeAt H a es) : LifeAt H' a es := by
  obtain ⟨ts, h1, h2, h3⟩ := h
  exact ⟨ts, k _ _ h1, h2, fun i t e e1 e2 => k _ _ (h3 i t e e1 e2)⟩
theorem Ev.tr {H : Hp} {t : Addr} {e : Ev} (n : Nat) (h : H t = some (.tup e.v)) : Tr H (n + 1) (.ref t) e.d := by
  cases e with
  | line => exact Tr.tup h rfl (by decide) (tr_cons (Tr.flat (.str _)) tr_nil)
  | root => exact Tr.tup h rfl (by decide) (tr_cons (Tr.flat (.str _)) tr_nil)
  | stand m => exact Tr.tup h rfl (Nat.le_of_ble_eq_true rfl) (tr_cons (Tr.flat (.str _)) (tr_cons (Tr.flat (.int _)) tr_nil))
theorem LifeAt.tr {H : Hp} {a : Addr} {es : List Ev} (n : Nat) (h : LifeAt H a es) (l : es.length ≤ 1000) : Tr H (n + 2) (.ref a) (.list (es.map Ev.d)) := by
  obtain ⟨ts, h1, h2, h3⟩ := h
  refine Tr.lst h1 (by rw [List.length_map, List.length_map, h2]) (by rw [List.length_map]; exact l) fun i u e e1 e2 => ?_
  rw [List.getElem?_map] at e1 e2
  obtain ⟨t, q1, rfl⟩ := Option.map_eq_some_iff.mp e1
  obtain ⟨v, q2, rfl⟩ := Option.map_eq_some_iff.mp e2
  exact Ev.tr n (h3 i t v q1 q2)
theorem shaped_ev (e : Ev) : SeqAt.shaped e.d = true := by
  cases e <;> simp [Ev.d, SeqAt.shaped, PyData.depth, PyData.depthAll, PyData.canLay0, PyData.canLayAll0] <;> decide +kernel
theorem eqv_line (e : Ev) : PyData.eqv e.d Ev.line.d = decide (e = .line) := by
  cases e <;> rfl
theorem eqv_root (e : Ev) : PyData.eqv e.d Ev.root.d = decide (e = .root) := by
  cases e <;> rfl
abbrev aL (K : PySem.W.Frag) : Addr := He.ga K "LINE"
abbrev aR (K : PySem.W.Frag) : Addr := He.ga K "ROOT"
structure Cn (K : PySem.W.Frag) (mg : Str → Option Value) : Prop where
  gL : mg "LINE" = some (.ref (aL K))
  gR : mg "ROOT" = some (.ref (aR K))
  tL : ∀ H, SqT K H (aL K) [.str "line"]
  tR : ∀ H, SqT K H (aR K) [.str "root"]
theorem Ev.dp {K : PySem.W.Frag} {H : Hp} {t : Addr} {e : Ev} (h : H t = some (.tup e.v)) : Dp K H (.ref t) e.d := (Ev.tr 0 h).dp
theorem Cn.dL {K : PySem.W.Frag} {mg : Str → Option Value} (C : Cn K mg) (H : Hp) : Dp K H (.ref (aL K)) Ev.line.d := .tup (C.tL H) (.cons (.str _) .nil)
theorem Cn.dR {K : PySem.W.Frag} {mg : Str → Option Value} (C : Cn K mg) (H : Hp) : Dp K H (.ref (aR K)) Ev.root.d := .tup (C.tR H) (.cons (.str _) .nil)
def spWhole : Sp := fun vs H Q _ => ∃ i : Int, vs = [.int i] ∧ Q (.bl true) H
def spCount : Sp := fun vs H Q _ => ∃ i : Int, vs = [.int i] ∧ Q (.bl (decide (i ≥ 0))) H
def spBelow : Sp := fun vs H Q _ => ∃ i b : Int, vs = [.int i, .int b] ∧ 0 ≤ i ∧ i < b ∧ Q (.bl true) H
def spFrom1 : Sp := fun vs H Q _ => ∃ i : Int, vs = [.int i] ∧ 1 ≤ i ∧ Q (.bl true) H
def spTupOf : Sp := fun vs H Q _ => ∃ (t : Addr) (xs : List V) (n : Int), vs = [.ref t, .int n] ∧ H t = some (.tup xs) ∧ Q (.bl (decide ((xs.length : Int) = n))) H
def spNeed1 : Sp := fun vs H Q _ => ∃ i : Int, vs = [.int i] ∧ 1 ≤ i ∧ Q .non H
def Ev.isS : Ev → Bool
  | .stand _ => true
  | _ => false
def spIsStand : Sp := fun vs H Q _ => ∃ (t : Addr) (e : Ev), vs = [.ref t] ∧ H t = some (.tup e.v) ∧ Q (.bl e.isS) H
def spIsEvent : Sp := fun vs H Q _ => ∃ (t : Addr) (e : Ev), vs = [.ref t] ∧ H t = some (.tup e.v) ∧ Q (.bl true) H
section
variable {P : Program} {w : World} {K : PySem.W.Frag} {mg : Str → Option Value} {base : Heap}
abbrev s_is_whole_number : Stmt := top 6
abbrev N_is_whole_number : List Str := ["value"]
theorem sc_is_whole_number : FnScope N_is_whole_number ["value"] (defScope s_is_whole_number) := ⟨rfl, rfl, rfl, by decide +kernel, rfl, by decide +kernel, by decide +kernel⟩
theorem ok_is_whole_number {f : Addr} {fd : FuncData} (F : FnP K "is_whole_number" s_is_whole_number f fd) (Z : Free mg) :
    FnOk P w K mg base CX0 1 f fd ["value"] spWhole := by
  refine F.ok sc_is_whole_number (fun vs H Q E h => ?_) (fun cdv A outer s H vs Q E hr h => ?_)
  · obtain ⟨i, rfl, _⟩ := h
    rfl
  · obtain ⟨i, rfl, k⟩ := h
    have nd := sc_is_whole_number.nd
    refine ⟨_, PSs.nox (pss_one (ps_ret (pe_and (pe_callB call_isi (by rfl) Z.isi (by decide +kernel) (pa_cons (pv 0) (pa_cons (pe_bltn (v := .ty "int") (by rfl) Z.int (by decide +kernel) rfl) pa_nil))) (pe_one (pe_not (pe_callB call_isi (by rfl) Z.isi (by decide +kernel) (pa_cons (pv 0) (pa_cons (pe_bltn (v := .ty "bool") (by rfl) Z.tbool (by decide +kernel) rfl) pa_nil)))))))), ?_⟩
    refine ⟨_, rfl, .int i, .ty "int", .type "int", .type "int", true, rfl, .ty _, .base (.int i), kit_ty (by decide +kernel), true, rfl, iteT ?_⟩
    exact ⟨_, rfl, .int i, .ty "bool", .type "int", .type "bool", false, rfl, .ty _, .base (.int i), kit_ty (by decide +kernel), false, rfl, k⟩
abbrev s_is_count : Stmt := top 7
abbrev N_is_count : List Str := ["value"]
theorem sc_is_count : FnScope N_is_count ["value"] (defScope s_is_count) := ⟨rfl, rfl, rfl, by decide +kernel, rfl, by decide +kernel, by decide +kernel⟩
theorem ok_is_count {f : Addr} {fd : FuncData} (F : FnP K "is_count" s_is_count f fd) (Z : Free mg)
    {f_is_whole_number : Addr} {d_is_whole_number : FuncData} (g_is_whole_number : mg "is_whole_number" = some (.ref f_is_whole_number)) (F_is_whole_number : FnP K "is_whole_number" s_is_whole_number f_is_whole_number d_is_whole_number) (G_is_whole_number : FnOk P w K mg base CX0 1 f_is_whole_number d_is_whole_number ["value"] spWhole) :
    FnOk P w K mg base CX0 2 f fd ["value"] spCount := by
  have b_is_whole_number : Binds K d_is_whole_number ["value"] [] := F_is_whole_number.bindsN fun _ _ _ _ _ _ us hl => match us, hl with | [_], _ => rfl
  refine F.ok sc_is_count (fun vs H Q E h => ?_) (fun cdv A outer s H vs Q E hr h => ?_)
  · obtain ⟨i, rfl, _⟩ := h
    rfl
  · obtain ⟨i, rfl, k⟩ := h
    have nd := sc_is_count.nd
    refine ⟨_, PSs.nox (pss_one (ps_ret (pe_and (pe_call G_is_whole_number (hr.mono (by decide)) rfl g_is_whole_number F_is_whole_number.kp b_is_whole_number .nil pass0 (pa_cons (pv 0) (pa_nil))) (pe_one (pe_cmpR op_ge (pv 0) (pe_int) (nomark _)))))), ?_⟩
    refine ⟨_, rfl, i, rfl, true, rfl, iteT ?_⟩
    exact ⟨_, rfl, _, _, rfl, rfl, k⟩
abbrev s_is_count_below : Stmt := top 8
abbrev N_is_count_below : List Str := ["value", "bound"]
theorem sc_is_count_below : FnScope N_is_count_below ["value", "bound"] (defScope s_is_count_below) := ⟨rfl, rfl, rfl, by decide +kernel, rfl, by decide +kernel, by decide +kernel⟩
theorem ok_is_count_below {f : Addr} {fd : FuncData} (F : FnP K "is_count_below" s_is_count_below f fd) (Z : Free mg)
    {f_is_count : Addr} {d_is_count : FuncData} (g_is_count : mg "is_count" = some (.ref f_is_count)) (F_is_count : FnP K "is_count" s_is_count f_is_count d_is_count) (G_is_count : FnOk P w K mg base CX0 2 f_is_count d_is_count ["value"] spCount) :
    FnOk P w K mg base CX0 3 f fd ["value", "bound"] spBelow := by
  have b_is_count : Binds K d_is_count ["value"] [] := F_is_count.bindsN fun _ _ _ _ _ _ us hl => match us, hl with | [_], _ => rfl
  refine F.ok sc_is_count_below (fun vs H Q E h => ?_) (fun cdv A outer s H vs Q E hr h => ?_)
  · obtain ⟨i, b, rfl, _⟩ := h
    rfl
  · obtain ⟨i, b, rfl, h0, h1, k⟩ := h
    have nd := sc_is_count_below.nd
    refine ⟨_, PSs.nox (pss_one (ps_ret (pe_and (pe_call G_is_count (hr.mono (by decide)) rfl g_is_count F_is_count.kp b_is_count .nil pass0 (pa_cons (pv 0) (pa_nil))) (pe_one (pe_cmpR op_lt (pv 0) (pv 1) (nomark _)))))), ?_⟩
    refine ⟨_, rfl, i, rfl, _, rfl, ?_⟩
    rw [decide_eq_true (show i ≥ 0 from h0)]
    refine iteT ⟨_, rfl, _, rfl, _, _, rfl, rfl, ?_⟩
    show Q (.bl (decide (i < b))) H
    rw [decide_eq_true h1]
    exact k
abbrev s_is_count_from_one : Stmt := top 9
abbrev N_is_count_from_one : List Str := ["value"]
theorem sc_is_count_from_one : FnScope N_is_count_from_one ["value"] (defScope s_is_count_from_one) := ⟨rfl, rfl, rfl, by decide +kernel, rfl, by decide +kernel, by decide +kernel⟩
theorem ok_is_count_from_one {f : Addr} {fd : FuncData} (F : FnP K "is_count_from_one" s_is_count_from_one f fd) (Z : Free mg)
    {f_is_count : Addr} {d_is_count : FuncData} (g_is_count : mg "is_count" = some (.ref f_is_count)) (F_is_count : FnP K "is_count" s_is_count f_is_count d_is_count) (G_is_count : FnOk P w K mg base CX0 2 f_is_count d_is_count ["value"] spCount) :
    FnOk P w K mg base CX0 3 f fd ["value"] spFrom1 := by
  have b_is_count : Binds K d_is_count ["value"] [] := F_is_count.bindsN fun _ _ _ _ _ _ us hl => match us, hl with | [_], _ => rfl
  refine F.ok sc_is_count_from_one (fun vs H Q E h => ?_) (fun cdv A outer s H vs Q E hr h => ?_)
  · obtain ⟨i, rfl, _⟩ := h
    rfl
  · obtain ⟨i, rfl, h1, k⟩ := h
    have nd := sc_is_count_from_one.nd
    refine ⟨_, PSs.nox (pss_one (ps_ret (pe_and (pe_call G_is_count (hr.mono (by decide)) rfl g_is_count F_is_count.kp b_is_count .nil pass0 (pa_cons (pv 0) (pa_nil))) (pe_one (pe_cmpR op_ge (pv 0) (pe_int) (nomark _)))))), ?_⟩
    refine ⟨_, rfl, i, rfl, _, rfl, ?_⟩
    rw [decide_eq_true (show i ≥ 0 by omega)]
    refine iteT ⟨_, rfl, _, _, rfl, rfl, ?_⟩
    show Q (.bl (decide (1 ≤ i))) H
    rw [decide_eq_true h1]
    exact k
abbrev s_is_tuple_of : Stmt := top 10
abbrev N_is_tuple_of : List Str := ["value", "length"]
theorem sc_is_tuple_of : FnScope N_is_tuple_of ["value", "length"] (defScope s_is_tuple_of) := ⟨rfl, rfl, rfl, by decide +kernel, rfl, by decide +kernel, by decide +kernel⟩
theorem ok_is_tuple_of {f : Addr} {fd : FuncData} (F : FnP K "is_tuple_of" s_is_tuple_of f fd) (Z : Free mg) :
    FnOk P w K mg base CX0 1 f fd ["value", "length"] spTupOf := by
  refine F.ok sc_is_tuple_of (fun vs H Q E h => ?_) (fun cdv A outer s H vs Q E hr h => ?_)
  · obtain ⟨t, xs, n, rfl, _⟩ := h
    rfl
  · obtain ⟨t, xs, n, rfl, ht, k⟩ := h
    have nd := sc_is_tuple_of.nd
    refine ⟨_, PSs.nox (pss_one (ps_ret (pe_and (pe_callB call_isi (by rfl) Z.isi (by decide +kernel) (pa_cons (pv 0) (pa_cons (pe_bltn (v := .ty "tuple") (by rfl) Z.ttuple (by decide +kernel) rfl) pa_nil))) (pe_one (pe_cmpR op_eq (pe_callB call_len_seq (by rfl) Z.len (by decide +kernel) (pa_cons (pv 0) (pa_nil))) (pv 1) (nomark _)))))), ?_⟩
    refine ⟨_, rfl, .ref t, .ty "tuple", .type "tuple", .type "tuple", true, rfl, .ty _, .base (.tup ht), kit_ty (by decide +kernel), true, rfl, iteT ?_⟩
    refine ⟨_, rfl, t, xs, rfl, Or.inr (Or.inl (.inl ht)), _, rfl, rfl, ?_⟩
    have e : decide (V.int (xs.length : Int) = V.int n) = decide ((xs.length : Int) = n) := by
      by_cases h : (xs.length : Int) = n
      · rw [decide_eq_true h, decide_eq_true (congrArg V.int h)]
      · rw [decide_eq_false h, decide_eq_false fun z => h (V.int.inj z)]
    rw [e]
    exact k
abbrev s_need_count_from_one : Stmt := top 12
abbrev N_need_count_from_one : List Str := ["number"]
theorem sc_need_count_from_one : FnScope N_need_count_from_one ["number"] (defScope s_need_count_from_one) := ⟨rfl, rfl, rfl, by decide +kernel, rfl, by decide +kernel, by decide +kernel⟩
theorem ok_need_count_from_one {f : Addr} {fd : FuncData} (F : FnP K "need_count_from_one" s_need_count_from_one f fd) (Z : Free mg)
    {f_is_count_from_one : Addr} {d_is_count_from_one : FuncData} (g_is_count_from_one : mg "is_count_from_one" = some (.ref f_is_count_from_one)) (F_is_count_from_one : FnP K "is_count_from_one" s_is_count_from_one f_is_count_from_one d_is_count_from_one) (G_is_count_from_one : FnOk P w K mg base CX0 3 f_is_count_from_one d_is_count_from_one ["value"] spFrom1) :
    FnOk P w K mg base CX0 4 f fd ["number"] spNeed1 := by
  have b_is_count_from_one : Binds K d_is_count_from_one ["value"] [] := F_is_count_from_one.bindsN fun _ _ _ _ _ _ us hl => match us, hl with | [_], _ => rfl
  refine F.ok sc_need_count_from_one (fun vs H Q E h => ?_) (fun cdv A outer s H vs Q E hr h => ?_)
  · obtain ⟨i, rfl, _⟩ := h
    rfl
  · obtain ⟨i, rfl, h1, k⟩ := h
    have nd := sc_need_count_from_one.nd
    refine ⟨_, PSs.nox (pss_one (ps_if (pt_not (pt_val (pe_call G_is_count_from_one (hr.mono (by decide)) rfl g_is_count_from_one F_is_count_from_one.kp b_is_count_from_one .nil pass0 (pa_cons (pv 0) (pa_nil))))) (pss_one (ps_dead)) (pss_nil))), ?_⟩
    exact ⟨_, rfl, i, rfl, h1, true, rfl, iteF k⟩
abbrev s_is_stand : Stmt := top 16
abbrev N_is_stand : List Str := ["event"]
theorem sc_is_stand : FnScope N_is_stand ["event"] (defScope s_is_stand) := ⟨rfl, rfl, rfl, by decide +kernel, rfl, by decide +kernel, by decide +kernel⟩
theorem ok_is_stand {f : Addr} {fd : FuncData} (F : FnP K "is_stand" s_is_stand f fd) (Z : Free mg)
    {f_is_tuple_of : Addr} {d_is_tuple_of : FuncData} (g_is_tuple_of : mg "is_tuple_of" = some (.ref f_is_tuple_of)) (F_is_tuple_of : FnP K "is_tuple_of" s_is_tuple_of f_is_tuple_of d_is_tuple_of) (G_is_tuple_of : FnOk P w K mg base CX0 1 f_is_tuple_of d_is_tuple_of ["value", "length"] spTupOf)
    {f_is_count : Addr} {d_is_count : FuncData} (g_is_count : mg "is_count" = some (.ref f_is_count)) (F_is_count : FnP K "is_count" s_is_count f_is_count d_is_count) (G_is_count : FnOk P w K mg base CX0 2 f_is_count d_is_count ["value"] spCount) :
    FnOk P w K mg base CX0 3 f fd ["event"] spIsStand := by
  have b_is_tuple_of : Binds K d_is_tuple_of ["value", "length"] [] := F_is_tuple_of.bindsN fun _ _ _ _ _ _ us hl => match us, hl with | [_, _], _ => rfl
  have b_is_count : Binds K d_is_count ["value"] [] := F_is_count.bindsN fun _ _ _ _ _ _ us hl => match us, hl with | [_], _ => rfl
  refine F.ok sc_is_stand (fun vs H Q E h => ?_) (fun cdv A outer s H vs Q E hr h => ?_)
  · obtain ⟨t, e, rfl, _⟩ := h
    rfl
  · obtain ⟨t, e, rfl, ht, k⟩ := h
    have nd := sc_is_stand.nd
    refine ⟨_, PSs.nox (pss_one (ps_ret (pe_and (pe_call G_is_tuple_of (hr.mono (by decide)) rfl g_is_tuple_of F_is_tuple_of.kp b_is_tuple_of .nil pass0 (pa_cons (pv 0) (pa_cons (pe_int) (pa_nil)))) (pe_and (pe_cmpR op_eq (pe_ix ix_tup (pv 0) (pe_int) (fun _ _ => rfl)) (pe_str) (nomark _)) (pe_one (pe_call G_is_count (hr.mono (by decide)) rfl g_is_count F_is_count.kp b_is_count .nil pass0 (pa_cons (pe_ix ix_tup (pv 0) (pe_int) (fun _ _ => rfl)) (pa_nil)))))))), ?_⟩
    refine ⟨_, rfl, t, _, 2, rfl, ht, _, rfl, ?_⟩
    cases e with
    | line => exact iteF k
    | root => exact iteF k
    | stand n =>
      refine iteT ⟨_, rfl, t, _, 0, .str "stand", rfl, rfl, SqT.of ht, rfl, rfl, _, rfl, ?_⟩
      refine iteT ⟨_, rfl, t, _, 1, .int (n : Int), rfl, rfl, SqT.of ht, rfl, (n : Int), rfl, ?_⟩
      rw [decide_eq_true (show (n : Int) ≥ 0 by omega)]
      exact k
abbrev s_is_event : Stmt := top 17
abbrev N_is_event : List Str := ["event"]
theorem sc_is_event : FnScope N_is_event ["event"] (defScope s_is_event) := ⟨rfl, rfl, rfl, by decide +kernel, rfl, by decide +kernel, by decide +kernel⟩
theorem ok_is_event {f : Addr} {fd : FuncData} (F : FnP K "is_event" s_is_event f fd) (Z : Free mg)
    {f_is_stand : Addr} {d_is_stand : FuncData} (g_is_stand : mg "is_stand" = some (.ref f_is_stand)) (F_is_stand : FnP K "is_stand" s_is_stand f_is_stand d_is_stand) (G_is_stand : FnOk P w K mg base CX0 3 f_is_stand d_is_stand ["event"] spIsStand) (C : Cn K mg) :
    FnOk P w K mg base CX0 4 f fd ["event"] spIsEvent := by
  have b_is_stand : Binds K d_is_stand ["event"] [] := F_is_stand.bindsN fun _ _ _ _ _ _ us hl => match us, hl with | [_], _ => rfl
  refine F.ok sc_is_event (fun vs H Q E h => ?_) (fun cdv A outer s H vs Q E hr h => ?_)
  · obtain ⟨t, e, rfl, _⟩ := h
    rfl
  · obtain ⟨t, e, rfl, ht, k⟩ := h
    have nd := sc_is_event.nd
    refine ⟨_, PSs.nox (pss_one (ps_ret (pe_or (pe_cmpR (op_eqD hr.units) (pv 0) (pe_glob (v := .ref (aL K)) (by rfl) C.gL rfl) (nomark _)) (pe_or (pe_cmpR (op_eqD hr.units) (pv 0) (pe_glob (v := .ref (aR K)) (by rfl) C.gR rfl) (nomark _)) (pe_one (pe_call G_is_stand (hr.mono (by decide)) rfl g_is_stand F_is_stand.kp b_is_stand .nil pass0 (pa_cons (pv 0) (pa_nil)))))))), ?_⟩
    refine ⟨_, rfl, _, _, Ev.dp ht, C.dL _, shaped_ev e, shaped_ev .line, _, rfl, ?_⟩
    rw [eqv_line]
    by_cases h1 : e = .line
    · rw [decide_eq_true h1]
      exact iteT k
    rw [decide_eq_false h1]
    refine iteF ⟨_, rfl, _, _, Ev.dp ht, C.dR _, shaped_ev e, shaped_ev .root, _, rfl, ?_⟩
    rw [eqv_root]
    by_cases h2 : e = .root
    · rw [decide_eq_true h2]
      exact iteT k
    rw [decide_eq_false h2]
    refine iteF ⟨_, rfl, t, e, rfl, ht, ?_⟩
    cases e with
    | line => exact absurd rfl h1
    | root => exact absurd rfl h2
    | stand n => exact k
end
end K37
set_option Elab.async false
set_option linter.all false
set_option maxRecDepth 100000
set_option maxHeartbeats 8000000
namespace K37
open PySem PySem.Spec PyProof.Rows L2 KB
def spIsLife : Sp := fun vs H Q _ => ∃ (a : Addr) (es : List Ev), vs = [.ref a] ∧ LifeAt H a es ∧ Valid es ∧ ∀ H', Same H H' → Q (.bl true) H'
def spNeedLife : Sp := fun vs H Q _ => ∃ (a : Addr) (es : List Ev), vs = [.ref a] ∧ LifeAt H a es ∧ Valid es ∧ ∀ H', Same H H' → Q .non H'
def spNeedLP : Sp := fun vs H Q _ => ∃ (a : Addr) (es : List Ev) (p : Int), vs = [.ref a, .int p] ∧ LifeAt H a es ∧ Valid es ∧ 1 ≤ p ∧ ∀ H', Same H H' → Q .non H'
def spNeedM : Sp := fun vs H Q _ => ∃ (a : Addr) (es : List Ev) (m : Nat), vs = [.ref a, .int (m : Int)] ∧ LifeAt H a es ∧ Valid es ∧ m ≤ es.length ∧ ∀ H', Same H H' → Q .non H'
/-- what is given up ahead of each event and at the end -/
def goneL (es : List Ev) : List Int := (List.range (es.length + 1)).map fun i => ((stAt es i).g : Int)
def spGone : Sp := fun vs H Q _ => ∃ (a : Addr) (es : List Ev), vs = [.ref a] ∧ LifeAt H a es ∧ es.length ≤ 60 ∧ ∀ q H', Same H H' → H q = none → H' q = some (.lst ((goneL es).map V.int)) → Q (.ref q) H'
def spLines : Sp := fun vs H Q _ => ∃ (a : Addr) (es : List Ev), vs = [.ref a] ∧ LifeAt H a es ∧ es.length ≤ 60 ∧ ∀ q H', Same H H' → H q = none → H' q = some (.lst (((lp es).map fun i : Nat => (i : Int)).map V.int)) → Q (.ref q) H'
theorem goneL_len (es : List Ev) : (goneL es).length = es.length + 1 := by simp [goneL]
theorem goneL_at {es : List Ev} {i : Nat} (h : i ≤ es.length) : ((goneL es).map V.int)[i]? = some (.int ((stAt es i).g : Int)) := by
  unfold goneL
  rw [List.getElem?_map, List.getElem?_map, List.getElem?_range (by omega)]
  rfl
section
variable {P : Program} {w : World} {K : PySem.W.Frag} {mg : Str → Option Value} {base : Heap}
abbrev s_is_life : Stmt := top 18
abbrev N_is_life : List Str := ["value", "event", "written", "stood"]
theorem sc_is_life : FnScope N_is_life ["value"] (defScope s_is_life) := ⟨rfl, rfl, rfl, by decide +kernel, rfl, by decide +kernel, by decide +kernel⟩
theorem ok_is_life {f : Addr} {fd : FuncData} (F : FnP K "is_life" s_is_life f fd) (Z : Free mg)
    {f_is_event : Addr} {d_is_event : FuncData} (g_is_event : mg "is_event" = some (.ref f_is_event)) (F_is_event : FnP K "is_event" s_is_event f_is_event d_is_event) (G_is_event : FnOk P w K mg base CX0 4 f_is_event d_is_event ["event"] spIsEvent) (C : Cn K mg) :
    FnOk P w K mg base CX0 5 f fd ["value"] spIsLife := by
  have b_is_event : Binds K d_is_event ["event"] [] := F_is_event.bindsN fun _ _ _ _ _ _ us hl => match us, hl with | [_], _ => rfl
  refine F.ok sc_is_life (fun vs H Q E h => ?_) (fun cdv A outer s H vs Q E hr h => ?_)
  · obtain ⟨a, es, rfl, _⟩ := h
    rfl
  · obtain ⟨a, es, rfl, hL, hV, k⟩ := h
    obtain ⟨ts, ha, lt, ht⟩ := id hL
    have l60 := hV.len
    have nd := sc_is_life.nd
    refine ⟨_, PSs.nox (pss_cons (ps_if (PW.pt (pw_or (pt_not (pt_val (pe_callB call_isi (by rfl) Z.isi (by decide +kernel) (pa_cons (pv 0) (pa_cons (pe_bltn (v := .ty "list") (by rfl) Z.tlist (by decide +kernel) rfl) pa_nil))))) (pw_or1 (pt_not (pt_val (pe_callB (cr_all rfl) (by rfl) Z.all (by decide +kernel) (pa_cons (pe_lc (own := [("event", 1)]) (g := gName 1) (tt := tYes) (te := tCall spIsEvent [] E0 (tCons (tVar 1) (tNil))) (by rfl) nd (pi_list (pv 0))
          (blkOk_by (own := [("event", 1)]) (N := N_is_life) (sc := defScope s_is_life) (by decide +kernel)) (fun _ _ _ _ _ => pg_name (i := 1) nd rfl (Or.inl rfl)) (fun _ _ _ _ _ => pts_nil)
          (fun _ _ _ _ _ => pe_call G_is_event (hr.mono (by decide)) rfl g_is_event F_is_event.kp b_is_event .nil pass0 (pa_cons (pv 1) (pa_nil)))) (pa_nil)))))))) (pss_one (ps_ret (pe_bl))) (pss_nil))
      (pss_cons (ps_set (i := 2) nd rfl (Or.inl rfl) (pe_int))
      (pss_cons (ps_set (i := 3) nd rfl (Or.inl rfl) (pe_int))
      (pss_cons (ps_for PassesOwn.never rfl (pi_list (pv 0)) (pg_name (i := 1) nd rfl (Or.inl rfl))
        (pss_one (ps_if (pt_cmpR (op_eqD hr.units) (pv 1) (pe_glob (v := .ref (aL K)) (by rfl) C.gL rfl) (nomark _)) (pss_one (ps_aug (i := 2) nd rfl (Or.inl rfl) (pe_int) ip_add)) (pss_one (ps_if (pt_cmpR (op_neD hr.units) (pv 1) (pe_glob (v := .ref (aR K)) (by rfl) C.gR rfl) (nomark _)) (pss_cons (ps_if (pt_not (pt_chain op_le op_le (pv 3) (pe_ix ix_tup (pv 1) (pe_int) (fun _ _ => rfl)) (pv 2))) (pss_one (ps_ret (pe_bl))) (pss_nil))
      (pss_one (ps_set (i := 3) nd rfl (Or.inl rfl) (pe_ix ix_tup (pv 1) (pe_int) (fun _ _ => rfl))))) (pss_nil))))))
      (pss_one (ps_ret (pe_bl))))))), ?_⟩
    have gt : ∀ (i : Nat) (hi : i < es.length), ∃ t, ts[i]? = some t ∧ H t = some (.tup (es[i]'hi).v) := fun i hi =>
      ⟨ts[i], List.getElem?_eq_getElem (by omega), ht i _ _ (List.getElem?_eq_getElem _) (List.getElem?_eq_getElem _)⟩
    refine ⟨_, rfl, .ref a, .ty "list", .type "list", .type "list", true, rfl, .ty _, .base (.lst ha), kit_ty (by decide +kernel), true, rfl, iteF ?_⟩
    refine ⟨_, rfl, a, rfl, ⟨_, SqL.of ha⟩, fun D hD => ?_⟩
    refine lc_sel (walk_list (K := K) (a := a) (xs := ts.map V.ref)) (fun _ => some (.bl true)) (by rw [List.length_map]; omega) hD (fun H2 s2 => SqL.of (s2 _ _ ha)) ?_ ?_
    · rintro i v H2 H3 Qy Qn hi sH ⟨rfl, hv⟩ ky kn
      rw [List.length_map] at hi
      obtain ⟨t, e1, e2⟩ := gt i (by omega)
      rw [List.getElem?_map, e1] at hv
      obtain rfl : V.ref t = v := Option.some.inj hv
      exact ⟨rfl, _, rfl, t, _, rfl, sH _ _ e2, ky _ _ (Same.refl _) rfl⟩
    · intro H2 s2 hR
      obtain ⟨bs, hB, hb⟩ := all_bits (K := K) hR
      refine ⟨D, bs, rfl, hB, ?_⟩
      rw [hb]
      refine ⟨true, rfl, iteF ?_⟩
      refine ⟨_, rfl, a, rfl, ⟨_, SqL.of (s2 _ _ ha)⟩, ?_⟩
      refine for_list (xs := ts.map V.ref) (fun i σ H3 => H3 = H2 ∧ ∃ v1 W S, W = ((stAt es i).w : Int) ∧ S = ((stAt es i).s : Int) ∧ σ = [some (.ref a), v1, some (.int W), some (.int S)])
        ⟨rfl, none, 0, 0, by rw [stAt_zero]; rfl, by rw [stAt_zero]; rfl, rfl⟩ (fun i σ H3 _ hh => by rw [hh.1]; exact SqL.of (s2 _ _ ha)) ?_ ?_
      · rintro i y σ H3 hy ⟨rfl, v1, W, S, hW, hS, rfl⟩
        have hi : i < es.length := by
          rw [← lt]
          rcases Nat.lt_or_ge i ts.length with q | q
          · exact q
          · rw [List.getElem?_map, List.getElem?_eq_none q] at hy
            cases hy
        obtain ⟨t, e1, e2⟩ := gt i hi
        rw [List.getElem?_map, e1] at hy
        obtain rfl : V.ref t = y := Option.some.inj hy
        have e3 := s2 _ _ e2
        have ee := List.getElem?_eq_getElem hi
        have es1 := stAt_succ ee
        refine ⟨_, rfl, _, _, Ev.dp e3, C.dL _, shaped_ev _, shaped_ev .line, _, rfl, ?_⟩
        rw [eqv_line]
        cases q : es[i] with
        | line =>
          rw [q] at es1
          refine iteT ⟨_, rfl, _, _, rfl, rfl, ?_⟩
          exact ⟨rfl, _, _, _, by rw [es1, hW]; rfl, by rw [es1, hS]; rfl, rfl⟩
        | root =>
          rw [q] at es1 e3
          refine iteF ⟨_, rfl, _, _, Ev.dp (e := .root) e3, C.dR _, shaped_ev _, shaped_ev .root, _, rfl, ?_⟩
          exact iteF ⟨rfl, _, _, _, by rw [es1, hW]; rfl, by rw [es1, hS]; rfl, rfl⟩
        | stand n =>
          rw [q] at es1 e3 ee
          have vo := hV.ok i n ee
          refine iteF ⟨_, rfl, _, _, Ev.dp (e := .stand n) e3, C.dR _, shaped_ev _, shaped_ev .root, _, rfl, ?_⟩
          refine iteT ⟨_, rfl, _, rfl, t, _, 1, .int (n : Int), rfl, rfl, SqT.of e3, rfl, _, _, rfl, rfl, _, rfl, ?_⟩
          rw [decide_eq_true (show S ≤ (n : Int) by omega)]
          refine iteT ⟨_, rfl, _, _, rfl, rfl, _, rfl, ?_⟩
          rw [decide_eq_true (show (n : Int) ≤ W by omega)]
          refine iteF ⟨_, rfl, t, _, 1, .int (n : Int), rfl, rfl, SqT.of e3, rfl, ?_⟩
          exact ⟨rfl, _, _, _, by rw [es1, hW]; rfl, by rw [es1]; rfl, rfl⟩
      · rintro σ H3 ⟨rfl, v1, W, S, hW, hS, rfl⟩
        exact k _ s2
abbrev s_need_life : Stmt := top 19
abbrev N_need_life : List Str := ["life"]
theorem sc_need_life : FnScope N_need_life ["life"] (defScope s_need_life) := ⟨rfl, rfl, rfl, by decide +kernel, rfl, by decide +kernel, by decide +kernel⟩
theorem ok_need_life {f : Addr} {fd : FuncData} (F : FnP K "need_life" s_need_life f fd) (Z : Free mg)
    {f_is_life : Addr} {d_is_life : FuncData} (g_is_life : mg "is_life" = some (.ref f_is_life)) (F_is_life : FnP K "is_life" s_is_life f_is_life d_is_life) (G_is_life : FnOk P w K mg base CX0 5 f_is_life d_is_life ["value"] spIsLife) :
    FnOk P w K mg base CX0 6 f fd ["life"] spNeedLife := by
  have b_is_life : Binds K d_is_life ["value"] [] := F_is_life.bindsN fun _ _ _ _ _ _ us hl => match us, hl with | [_], _ => rfl
  refine F.ok sc_need_life (fun vs H Q E h => ?_) (fun cdv A outer s H vs Q E hr h => ?_)
  · obtain ⟨a, es, rfl, _⟩ := h
    rfl
  · obtain ⟨a, es, rfl, hL, hV, k⟩ := h
    have nd := sc_need_life.nd
    refine ⟨_, PSs.nox (pss_one (ps_if (pt_not (pt_val (pe_call G_is_life (hr.mono (by decide)) rfl g_is_life F_is_life.kp b_is_life .nil pass0 (pa_cons (pv 0) (pa_nil))))) (pss_one (ps_dead)) (pss_nil))), ?_⟩
    exact ⟨_, rfl, a, es, rfl, hL, hV, fun H1 s1 => ⟨true, rfl, iteF (k H1 s1)⟩⟩
abbrev s_need_life_and_places : Stmt := top 20
abbrev N_need_life_and_places : List Str := ["life", "places"]
theorem sc_need_life_and_places : FnScope N_need_life_and_places ["life", "places"] (defScope s_need_life_and_places) := ⟨rfl, rfl, rfl, by decide +kernel, rfl, by decide +kernel, by decide +kernel⟩
theorem ok_need_life_and_places {f : Addr} {fd : FuncData} (F : FnP K "need_life_and_places" s_need_life_and_places f fd) (Z : Free mg)
    {f_need_life : Addr} {d_need_life : FuncData} (g_need_life : mg "need_life" = some (.ref f_need_life)) (F_need_life : FnP K "need_life" s_need_life f_need_life d_need_life) (G_need_life : FnOk P w K mg base CX0 6 f_need_life d_need_life ["life"] spNeedLife)
    {f_need_count_from_one : Addr} {d_need_count_from_one : FuncData} (g_need_count_from_one : mg "need_count_from_one" = some (.ref f_need_count_from_one)) (F_need_count_from_one : FnP K "need_count_from_one" s_need_count_from_one f_need_count_from_one d_need_count_from_one) (G_need_count_from_one : FnOk P w K mg base CX0 4 f_need_count_from_one d_need_count_from_one ["number"] spNeed1) :
    FnOk P w K mg base CX0 7 f fd ["life", "places"] spNeedLP := by
  have b_need_life : Binds K d_need_life ["life"] [] := F_need_life.bindsN fun _ _ _ _ _ _ us hl => match us, hl with | [_], _ => rfl
  have b_need_count_from_one : Binds K d_need_count_from_one ["number"] [] := F_need_count_from_one.bindsN fun _ _ _ _ _ _ us hl => match us, hl with | [_], _ => rfl
  refine F.ok sc_need_life_and_places (fun vs H Q E h => ?_) (fun cdv A outer s H vs Q E hr h => ?_)
  · obtain ⟨a, es, p, rfl, _⟩ := h
    rfl
  · obtain ⟨a, es, p, rfl, hL, hV, hp, k⟩ := h
    have nd := sc_need_life_and_places.nd
    refine ⟨_, PSs.nox (pss_cons (ps_expr (pe_call G_need_life (hr.mono (by decide)) rfl g_need_life F_need_life.kp b_need_life .nil pass0 (pa_cons (pv 0) (pa_nil))))
      (pss_one (ps_expr (pe_call G_need_count_from_one (hr.mono (by decide)) rfl g_need_count_from_one F_need_count_from_one.kp b_need_count_from_one .nil pass0 (pa_cons (pv 1) (pa_nil)))))), ?_⟩
    exact ⟨_, rfl, a, es, rfl, hL, hV, fun H1 s1 => ⟨_, rfl, p, rfl, hp, k H1 s1⟩⟩
abbrev s_need_moment : Stmt := top 21
abbrev N_need_moment : List Str := ["life", "moment"]
theorem sc_need_moment : FnScope N_need_moment ["life", "moment"] (defScope s_need_moment) := ⟨rfl, rfl, rfl, by decide +kernel, rfl, by decide +kernel, by decide +kernel⟩
theorem ok_need_moment {f : Addr} {fd : FuncData} (F : FnP K "need_moment" s_need_moment f fd) (Z : Free mg)
    {f_need_life : Addr} {d_need_life : FuncData} (g_need_life : mg "need_life" = some (.ref f_need_life)) (F_need_life : FnP K "need_life" s_need_life f_need_life d_need_life) (G_need_life : FnOk P w K mg base CX0 6 f_need_life d_need_life ["life"] spNeedLife)
    {f_is_count_below : Addr} {d_is_count_below : FuncData} (g_is_count_below : mg "is_count_below" = some (.ref f_is_count_below)) (F_is_count_below : FnP K "is_count_below" s_is_count_below f_is_count_below d_is_count_below) (G_is_count_below : FnOk P w K mg base CX0 3 f_is_count_below d_is_count_below ["value", "bound"] spBelow) :
    FnOk P w K mg base CX0 7 f fd ["life", "moment"] spNeedM := by
  have b_need_life : Binds K d_need_life ["life"] [] := F_need_life.bindsN fun _ _ _ _ _ _ us hl => match us, hl with | [_], _ => rfl
  have b_is_count_below : Binds K d_is_count_below ["value", "bound"] [] := F_is_count_below.bindsN fun _ _ _ _ _ _ us hl => match us, hl with | [_, _], _ => rfl
  refine F.ok sc_need_moment (fun vs H Q E h => ?_) (fun cdv A outer s H vs Q E hr h => ?_)
  · obtain ⟨a, es, m, rfl, _⟩ := h
    rfl
  · obtain ⟨a, es, m, rfl, hL, hV, hm, k⟩ := h
    obtain ⟨ts, ha, lt, ht⟩ := id hL
    have nd := sc_need_moment.nd
    refine ⟨_, PSs.nox (pss_cons (ps_expr (pe_call G_need_life (hr.mono (by decide)) rfl g_need_life F_need_life.kp b_need_life .nil pass0 (pa_cons (pv 0) (pa_nil))))
      (pss_one (ps_if (pt_not (pt_val (pe_call G_is_count_below (hr.mono (by decide)) rfl g_is_count_below F_is_count_below.kp b_is_count_below .nil pass0 (pa_cons (pv 1) (pa_cons (pe_op op_add (pe_callB call_len_seq (by rfl) Z.len (by decide +kernel) (pa_cons (pv 0) (pa_nil))) (pe_int)) (pa_nil)))))) (pss_one (ps_dead)) (pss_nil)))), ?_⟩
    refine ⟨_, rfl, a, es, rfl, hL, hV, fun H1 s1 => ?_⟩
    refine ⟨_, rfl, _, rfl, a, _, rfl, Or.inl (SqL.of (s1 _ _ ha)), _, _, rfl, rfl, (m : Int), _, rfl, by omega, ?_, true, rfl, iteF (k H1 s1)⟩
    rw [List.length_map, lt]
    omega
abbrev s_numbers_given_up : Stmt := top 22
abbrev N_numbers_given_up : List Str := ["life", "found", "stood", "event"]
theorem sc_numbers_given_up : FnScope N_numbers_given_up ["life"] (defScope s_numbers_given_up) := ⟨rfl, rfl, rfl, by decide +kernel, rfl, by decide +kernel, by decide +kernel⟩
theorem ok_numbers_given_up {f : Addr} {fd : FuncData} (F : FnP K "numbers_given_up" s_numbers_given_up f fd) (Z : Free mg)
    {f_is_stand : Addr} {d_is_stand : FuncData} (g_is_stand : mg "is_stand" = some (.ref f_is_stand)) (F_is_stand : FnP K "is_stand" s_is_stand f_is_stand d_is_stand) (G_is_stand : FnOk P w K mg base CX0 3 f_is_stand d_is_stand ["event"] spIsStand) (C : Cn K mg) :
    FnOk P w K mg base CX0 4 f fd ["life"] spGone := by
  have b_is_stand : Binds K d_is_stand ["event"] [] := F_is_stand.bindsN fun _ _ _ _ _ _ us hl => match us, hl with | [_], _ => rfl
  refine F.ok sc_numbers_given_up (fun vs H Q E h => ?_) (fun cdv A outer s H vs Q E hr h => ?_)
  · obtain ⟨a, es, rfl, _⟩ := h
    rfl
  · obtain ⟨a, es, rfl, hL, l60, k⟩ := h
    obtain ⟨ts, ha, lt, ht⟩ := id hL
    have nd := sc_numbers_given_up.nd
    refine ⟨_, PSs.nox (pss_cons (ps_set (i := 1) nd rfl (Or.inl rfl) (pe_lst (pa_cons (pe_int) (pa_nil))))
      (pss_cons (ps_set (i := 2) nd rfl (Or.inl rfl) (pe_int))
      (pss_cons (ps_for PassesOwn.never rfl (pi_list (pv 0)) (pg_name (i := 3) nd rfl (Or.inl rfl))
        (pss_cons (ps_if (pt_val (pe_call G_is_stand (hr.mono (by decide)) rfl g_is_stand F_is_stand.kp b_is_stand .nil pass0 (pa_cons (pv 3) (pa_nil)))) (pss_one (ps_set (i := 2) nd rfl (Or.inl rfl) (pe_ix ix_tup (pv 3) (pe_int) (fun _ _ => rfl)))) (pss_nil))
      (pss_one (ps_expr (pe_bm PySem.F.plainAttrs_list PySem.F.slot_list_append PySem.F.type_list_append mt_append (pv 1) (pa_cons (pe_ifExp (pt_cmpR (op_eqD hr.units) (pv 3) (pe_glob (v := .ref (aR K)) (by rfl) C.gR rfl) (nomark _)) (pv 2) (pe_ix ix_list (pv 1) (pe_un un_neg (pe_int)) (fun _ _ => rfl))) (pa_nil)))))))
      (pss_one (ps_ret (pv 1)))))), ?_⟩
    have gt : ∀ (i : Nat) (hi : i < es.length), ∃ t, ts[i]? = some t ∧ H t = some (.tup (es[i]'hi).v) := fun i hi =>
      ⟨ts[i], List.getElem?_eq_getElem (by omega), ht i _ _ (List.getElem?_eq_getElem _) (List.getElem?_eq_getElem _)⟩
    refine ⟨(by show 1 ≤ sizeLine; decide), fun q hq => ?_⟩
    have s1 : Same H (upd H q (.lst [.int 0])) := Same.updf hq
    refine ⟨_, rfl, a, rfl, ⟨_, SqL.of (s1 _ _ ha)⟩, ?_⟩
    refine for_list (xs := ts.map V.ref) (fun i σ H3 => Same H H3 ∧ H3 q = some (.lst (((List.range (i + 1)).map fun j => ((stAt es j).g : Int)).map V.int)) ∧ ∃ v3 S, S = ((stAt es i).s : Int) ∧ σ = [some (.ref a), some (.ref q), some (.int S), v3])
      ⟨s1, by rw [upd_same]; simp [stAt_zero], none, 0, by rw [stAt_zero]; rfl, rfl⟩ (fun i σ H3 _ hh => SqL.of (hh.1 _ _ ha)) ?_ ?_
    · rintro i y σ H3 hy ⟨s3, hq3, v3, S, hS, rfl⟩
      have hi : i < es.length := by
        rw [← lt]
        rcases Nat.lt_or_ge i ts.length with q | q
        · exact q
        · rw [List.getElem?_map, List.getElem?_eq_none q] at hy
          cases hy
      obtain ⟨t, e1, e2⟩ := gt i hi
      rw [List.getElem?_map, e1] at hy
      obtain rfl : V.ref t = y := Option.some.inj hy
      have e3 := s3 _ _ e2
      have ee := List.getElem?_eq_getElem hi
      have es1 := stAt_succ ee
      have push : ∀ (S' : Int) (v : Option V), S' = ((stAt es (i + 1)).s : Int) → ∀ σ', σ' = [some (V.ref a), some (.ref q), some (.int S'), v] →
          (Same H (upd H3 q (.lst (((List.range (i + 1)).map fun j => ((stAt es j).g : Int)).map V.int ++ [.int ((stAt es (i + 1)).g : Int)]))) ∧
            (upd H3 q (.lst (((List.range (i + 1)).map fun j => ((stAt es j).g : Int)).map V.int ++ [.int ((stAt es (i + 1)).g : Int)]))) q = some (.lst (((List.range (i + 1 + 1)).map fun j => ((stAt es j).g : Int)).map V.int)) ∧
            ∃ v3 S, S = ((stAt es (i + 1)).s : Int) ∧ σ' = [some (V.ref a), some (.ref q), some (.int S), v3]) := fun S' v hS' σ' hσ => by
        refine ⟨fun b o e => ?_, ?_, v, S', hS', hσ⟩
        · rw [upd_ne (ne_of_none e hq)]
          exact s3 _ _ e
        · rw [upd_same, List.range_succ (n := i + 1), List.map_append, List.map_append]
          rfl
      have lenq : (((List.range (i + 1)).map fun j => ((stAt es j).g : Int)).map V.int).length < sizeLine := by
        rw [List.length_map, List.length_map, List.length_range]
        have : (2000 : Nat) ≤ sizeLine := by decide
        omega
      have last : atI (((List.range (i + 1)).map fun j => ((stAt es j).g : Int)).map V.int) (-1) = some (.int ((stAt es i).g : Int)) := by
        rw [List.range_succ, List.map_append, List.map_append]
        exact atI_last _ _
      refine ⟨_, rfl, t, _, rfl, e3, ?_⟩
      cases q' : es[i] with
      | line =>
        rw [q'] at es1 e3
        refine ⟨_, rfl, iteF ?_⟩
        refine ⟨_, rfl, Or.inl ⟨rfl, _, SqL.of hq3⟩, _, rfl, _, _, Ev.dp (e := .line) e3, C.dR _, shaped_ev _, shaped_ev .root, _, rfl, ?_⟩
        refine iteF ⟨_, rfl, _, rfl, q, _, -1, _, rfl, rfl, SqL.of hq3, last, ?_⟩
        refine ⟨q, _, _, rfl, rfl, hq3, lenq, ?_⟩
        have eg : (stAt es i).g = (stAt es (i + 1)).g := by rw [es1]; rfl
        rw [eg]
        exact push _ _ (by rw [es1, hS]; rfl) _ rfl
      | root =>
        rw [q'] at es1 e3
        refine ⟨_, rfl, iteF ?_⟩
        refine ⟨_, rfl, Or.inl ⟨rfl, _, SqL.of hq3⟩, _, rfl, _, _, Ev.dp (e := .root) e3, C.dR _, shaped_ev _, shaped_ev .root, _, rfl, ?_⟩
        refine iteT ⟨_, rfl, ?_⟩
        refine ⟨q, _, _, rfl, rfl, hq3, lenq, ?_⟩
        have eg : S = ((stAt es (i + 1)).g : Int) := by rw [es1, hS]; rfl
        rw [eg]
        exact push _ _ (by rw [es1]; rfl) _ rfl
      | stand n =>
        rw [q'] at es1 e3
        refine ⟨_, rfl, iteT ⟨_, rfl, t, _, 1, .int (n : Int), rfl, rfl, SqT.of e3, rfl, ?_⟩⟩
        refine ⟨_, rfl, Or.inl ⟨rfl, _, SqL.of hq3⟩, _, rfl, _, _, Ev.dp (e := .stand n) e3, C.dR _, shaped_ev _, shaped_ev .root, _, rfl, ?_⟩
        refine iteF ⟨_, rfl, _, rfl, q, _, -1, _, rfl, rfl, SqL.of hq3, last, ?_⟩
        refine ⟨q, _, _, rfl, rfl, hq3, lenq, ?_⟩
        have eg : (stAt es i).g = (stAt es (i + 1)).g := by rw [es1]; rfl
        rw [eg]
        exact push _ _ (by rw [es1]; rfl) _ rfl
    · rintro σ H3 ⟨s3, hq3, v3, S, hS, rfl⟩
      rw [List.length_map, lt] at hq3
      exact ⟨_, rfl, k q H3 s3 hq hq3⟩
abbrev s_line_places : Stmt := top 23
abbrev N_line_places : List Str := ["life", "at", "event"]
theorem sc_line_places : FnScope N_line_places ["life"] (defScope s_line_places) := ⟨rfl, rfl, rfl, by decide +kernel, rfl, by decide +kernel, by decide +kernel⟩
theorem ok_line_places {f : Addr} {fd : FuncData} (F : FnP K "line_places" s_line_places f fd) (Z : Free mg) (C : Cn K mg) :
    FnOk P w K mg base CX0 1 f fd ["life"] spLines := by
  refine F.ok sc_line_places (fun vs H Q E h => ?_) (fun cdv A outer s H vs Q E hr h => ?_)
  · obtain ⟨a, es, rfl, _⟩ := h
    rfl
  · obtain ⟨a, es, rfl, hL, l60, k⟩ := h
    obtain ⟨ts, ha, lt, ht⟩ := id hL
    have nd := sc_line_places.nd
    refine ⟨_, PSs.nox (pss_one (ps_ret (pe_lc (own := [("at", 1), ("event", 2)]) (g := gTup K 2 (gCons (gName 1) (gCons (gName 2) (gNil)))) (tt := tTest (tOp (rEqD K) (tVar 2) (tC (.ref (aL K))))) (te := tVar 1) (by rfl) nd (pi_enum (by rfl) Z.enumerate (pa_cons (pv 0) (pa_nil)))
          (blkOk_by (own := [("at", 1), ("event", 2)]) (N := N_line_places) (sc := defScope s_line_places) (by decide +kernel)) (fun _ _ _ _ _ => pg_tup rfl (pgs_cons (pg_name (i := 1) nd rfl (Or.inl rfl)) (pgs_cons (pg_name (i := 2) nd rfl (Or.inl rfl)) (pgs_nil)))) (fun _ _ _ _ _ => pts_one (pt_cmpR (op_eqD hr.units) (pv 2) (pe_glob (v := .ref (aL K)) (by rfl) C.gL rfl) (nomark _)))
          (fun _ _ _ _ _ => pv 1)))), ?_⟩
    refine ⟨_, rfl, a, _, rfl, SqL.of ha, fun D hD => ?_⟩
    refine lc_sel (n := es.length) (by have := walk_enum (K := K) (a := a) (xs := ts.map V.ref); rw [List.length_map, lt] at this; exact this) (fun i => if isL es i = true then some (.int (i : Int)) else none) (by omega) hD (fun H2 s2 => SqL.of (s2 _ _ ha)) ?_ ?_
    · rintro i v H2 H3 Qy Qn hi sH ⟨T2, x1, x2, rfl, nT, rfl, g1, g2⟩ ky kn
      dsimp only at g1 g2
      obtain rfl := Option.some.inj g1
      have et : ts[i]? = some ts[i] := List.getElem?_eq_getElem (by omega)
      rw [List.getElem?_map, et] at g2
      obtain rfl : V.ref ts[i] = x2 := Option.some.inj g2
      have sT : Same H2 (upd H2 T2 (.tup [.int (i : Nat), .ref ts[i]])) := Same.updf nT
      have e3 := sT _ _ (sH _ _ (ht i _ _ et (List.getElem?_eq_getElem hi)))
      refine ⟨T2, [_, _], rfl, .inl (.inl upd_same), rfl, _, [_], rfl, _, [], rfl, rfl, ?_⟩
      refine ⟨rfl, _, rfl, _, _, Ev.dp e3, C.dL _, shaped_ev _, shaped_ev .line, _, rfl, ?_⟩
      rw [eqv_line]
      have ei : isL es i = decide (es[i] = .line) := by
        unfold isL
        rw [List.getElem?_eq_getElem hi]
        cases es[i] <;> rfl
      by_cases h : es[i] = .line
      · rw [decide_eq_true h]
        refine iteT ⟨_, rfl, ky _ _ sT ?_⟩
        rw [ei, decide_eq_true h, if_pos rfl]
      · rw [decide_eq_false h]
        refine iteF (kn _ sT ?_)
        rw [ei, decide_eq_false h, if_neg Bool.false_ne_true]
    · intro H2 s2 hR
      refine k D H2 s2 hD (hR.trans (congrArg (fun l => some (HO.lst l)) ?_))
      unfold lp
      rw [List.map_map, ← List.filterMap_eq_filter, List.map_filterMap]
      refine fm_congr fun i _ => ?_
      show _ = Option.map _ (Option.guard _ i)
      unfold Option.guard
      by_cases h : isL es i = true
      · rw [if_pos h, if_pos h]
        rfl
      · rw [if_neg h, if_neg h]
        rfl
end
end K37
set_option Elab.async false
set_option linter.all false
set_option maxRecDepth 100000
set_option maxHeartbeats 8000000
namespace K37
open PySem PySem.Spec PyProof.Rows L2 KB
theorem cut_to {xs : List V} {m : Nat} (h : m ≤ xs.length) : cutV xs none (some (m : Int)) = xs.take m := by
  unfold cutV
  rw [HT.sIx_none, HT.sIx_nat, List.drop_zero, Nat.sub_zero, Nat.min_eq_left h]
theorem LifeAt.take {H H' : Hp} {a q : Addr} {es : List Ev} {xs : List V} (h : LifeAt H a es) (ha : H a = some (.lst xs)) (k : Same H H') (m : Nat) (hq : H' q = some (.lst (xs.take m))) : LifeAt H' q (es.take m) := by
  obtain ⟨ts, h1, h2, h3⟩ := h
  rw [ha] at h1
  cases h1
  refine ⟨ts.take m, by rw [hq, List.map_take], by rw [List.length_take, List.length_take, h2], fun i t e e1 e2 => ?_⟩
  rw [List.getElem?_take] at e1 e2
  by_cases hi : i < m
  · rw [if_pos hi] at e1 e2
    exact k _ _ (h3 i t e e1 e2)
  · rw [if_neg hi] at e1
    cases e1
theorem lay_life : ∀ es : List Ev, PyData.canLayAll0 (es.map Ev.d) = true ∧ PyData.depthAll (es.map Ev.d) ≤ 1
  | [] => ⟨rfl, by simp [PyData.depthAll]⟩
  | e :: es => by
    obtain ⟨h1, h2⟩ := lay_life es
    have c := SeqAt.canLay_of_shaped (shaped_ev e)
    have d : e.d.depth ≤ 1 := by cases e <;> simp [Ev.d, PyData.depth, PyData.depthAll]
    refine ⟨?_, ?_⟩
    · show PyData.canLayAll0 (e.d :: es.map Ev.d) = true
      simp only [PyData.canLayAll0, c, h1, Bool.and_self]
    · show PyData.depthAll (e.d :: es.map Ev.d) ≤ 1
      simp only [PyData.depthAll]
      omega
theorem shaped_life (es : List Ev) : SeqAt.shaped (.list (es.map Ev.d)) = true := by
  obtain ⟨h1, h2⟩ := lay_life es
  refine Bool.and_eq_true_iff.mpr ⟨?_, decide_eq_true ?_⟩
  · simp only [PyData.canLay0]
    exact h1
  · simp only [PyData.depth]
    omega
theorem count_lines : ∀ (es : List Ev) (x : S3), (es.foldl step x).w = x.w + (es.map Ev.d).countP fun z => PyData.eqv z Ev.line.d
  | [], x => by simp
  | e :: es, x => by
    rw [List.foldl_cons, count_lines es, List.map_cons, List.countP_cons, eqv_line]
    cases e with
    | line =>
      show x.w + 1 + _ = x.w + (_ + if decide (Ev.line = Ev.line) = true then 1 else 0)
      rw [if_pos (decide_eq_true rfl)]
      omega
    | root =>
      show x.w + _ = x.w + (_ + if decide (Ev.root = Ev.line) = true then 1 else 0)
      rw [if_neg (by decide)]
      omega
    | stand n =>
      show x.w + _ = x.w + (_ + if decide (Ev.stand n = Ev.line) = true then 1 else 0)
      rw [if_neg (by rw [decide_eq_false (by intro z; cases z)]; exact Bool.false_ne_true)]
      omega
theorem count_take (es : List Ev) (m : Nat) : ((es.take m).map Ev.d).countP (fun z => PyData.eqv z Ev.line.d) = (stAt es m).w := by
  have := count_lines (es.take m) ⟨0, 0, 0⟩
  unfold stAt
  rw [this]
  simp
def spGivenUp : Sp := fun vs H Q _ => ∃ (a : Addr) (es : List Ev) (m : Nat), vs = [.ref a, .int (m : Int)] ∧ LifeAt H a es ∧ Valid es ∧ m ≤ es.length ∧ ∀ H', Same H H' → Q (.int ((stAt es m).g : Int)) H'
def spStill : Sp := fun vs H Q _ => ∃ (a : Addr) (es : List Ev) (m : Nat), vs = [.ref a, .int (m : Int)] ∧ LifeAt H a es ∧ Valid es ∧ m ≤ es.length ∧
  ∀ q H', Same H H' → H q = none → H' q = some (.lst (rgV (((stAt es m).g : Int) + 1) (((stAt es m).w : Int) + 1))) → Q (.ref q) H'
/-- a list of pairs of counts -/
structure PairsAt (H : Hp) (q : Addr) (ps : List (Nat × Nat)) : Prop where
  ex : ∃ ts : List Addr, H q = some (.lst (ts.map V.ref)) ∧ ts.length = ps.length ∧ ∀ (i : Nat) (t : Addr) (x : Nat × Nat), ts[i]? = some t → ps[i]? = some x → H t = some (.tup [.int (x.1 : Int), .int (x.2 : Int)])
def pairD (x : Nat × Nat) : PyData := .tuple [.int (x.1 : Int), .int (x.2 : Int)]
theorem PairsAt.tr {H : Hp} {q : Addr} {ps : List (Nat × Nat)} (h : PairsAt H q ps) (l : ps.length ≤ 1000) : Tr H 2 (.ref q) (.list (ps.map pairD)) := by
  obtain ⟨ts, h1, h2, h3⟩ := h
  refine Tr.lst h1 (by rw [List.length_map, List.length_map, h2]) (by rw [List.length_map]; exact l) fun i u e e1 e2 => ?_
  rw [List.getElem?_map] at e1 e2
  obtain ⟨t, q1, rfl⟩ := Option.map_eq_some_iff.mp e1
  obtain ⟨v, q2, rfl⟩ := Option.map_eq_some_iff.mp e2
  exact Tr.tup (h3 i t v q1 q2) rfl (Nat.le_of_ble_eq_true rfl) (tr_cons (Tr.flat (.int _)) (tr_cons (Tr.flat (.int _)) tr_nil))
theorem lay_pairs : ∀ ps : List (Nat × Nat), PyData.canLayAll0 (ps.map pairD) = true ∧ PyData.depthAll (ps.map pairD) ≤ 1
  | [] => ⟨rfl, by simp [PyData.depthAll]⟩
  | e :: es => by
    obtain ⟨h1, h2⟩ := lay_pairs es
    have c : (pairD e).canLay0 = true := by simp [pairD, PyData.canLay0, PyData.canLayAll0]
    have d : (pairD e).depth ≤ 1 := by simp [pairD, PyData.depth, PyData.depthAll]
    refine ⟨?_, ?_⟩
    · show PyData.canLayAll0 (pairD e :: es.map pairD) = true
      simp only [PyData.canLayAll0, c, h1, Bool.and_self]
    · show PyData.depthAll (pairD e :: es.map pairD) ≤ 1
      simp only [PyData.depthAll]
      omega
theorem shaped_pairs (ps : List (Nat × Nat)) : SeqAt.shaped (.list (ps.map pairD)) = true := by
  obtain ⟨h1, h2⟩ := lay_pairs ps
  refine Bool.and_eq_true_iff.mpr ⟨?_, decide_eq_true ?_⟩
  · simp only [PyData.canLay0]
    exact h1
  · simp only [PyData.depth]
    omega
def spWanted : Sp := fun vs H Q _ => ∃ (a : Addr) (es : List Ev) (p : Nat), vs = [.ref a, .int (p : Int)] ∧ LifeAt H a es ∧ es.length ≤ 60 ∧ ∀ q H', Same H H' → H q = none → PairsAt H' q (wl es p) → Q (.ref q) H'
def optV : Option Nat → V
  | none => .non
  | some i => .int (i : Int)
def spFits : Sp := fun vs H Q _ => ∃ (a : Addr) (es : List Ev) (p : Nat), vs = [.ref a, .int (p : Int)] ∧ LifeAt H a es ∧ Valid es ∧ 1 ≤ p ∧ ∀ H', Same H H' → Q (.bl (full es p).isNone) H'
def spFirst : Sp := fun vs H Q _ => ∃ (a : Addr) (es : List Ev) (p : Nat), vs = [.ref a, .int (p : Int)] ∧ LifeAt H a es ∧ Valid es ∧ 1 ≤ p ∧ ∀ H', Same H H' → Q (optV (full es p)) H'
/-- the fewest places -/
structure IsLeast (es : List Ev) (m : Int) : Prop where
  no : lp es = [] → m = 1
  ex : lp es ≠ [] → ∃ i, i < es.length ∧ isL es i = true ∧ m = ((stAt es i).w : Int) + 1 - ((stAt es i).g : Int)
  le : ∀ i, i < es.length → isL es i = true → ((stAt es i).w : Int) + 1 - ((stAt es i).g : Int) ≤ m
def spLeast : Sp := fun vs H Q _ => ∃ (a : Addr) (es : List Ev), vs = [.ref a] ∧ LifeAt H a es ∧ Valid es ∧ ∀ m H', Same H H' → IsLeast es m → Q (.int m) H'
theorem wl_len (es : List Ev) (p : Nat) : (wl es p).length ≤ es.length := by
  unfold wl
  have h1 := List.length_filterMap_le (fun k => if k + 1 > p + (stAt es ((lp es).getD k 0)).g then some (k + 1, (lp es).getD k 0) else none) (List.range (lp es).length)
  have h2 : (lp es).length ≤ es.length := by
    unfold lp
    have := List.length_filter_le (isL es) (List.range es.length)
    rw [List.length_range] at this
    exact this
  rw [List.length_range] at h1
  omega
theorem lp_len (es : List Ev) : (lp es).length ≤ es.length := by
  unfold lp
  have := List.length_filter_le (isL es) (List.range es.length)
  rw [List.length_range] at this
  exact this
section
variable {P : Program} {w : World} {K : PySem.W.Frag} {mg : Str → Option Value} {base : Heap}
abbrev s_given_up : Stmt := top 24
abbrev N_given_up : List Str := ["life", "moment"]
theorem sc_given_up : FnScope N_given_up ["life", "moment"] (defScope s_given_up) := ⟨rfl, rfl, rfl, by decide +kernel, rfl, by decide +kernel, by decide +kernel⟩
theorem ok_given_up {f : Addr} {fd : FuncData} (F : FnP K "given_up" s_given_up f fd) (Z : Free mg)
    {f_need_moment : Addr} {d_need_moment : FuncData} (g_need_moment : mg "need_moment" = some (.ref f_need_moment)) (F_need_moment : FnP K "need_moment" s_need_moment f_need_moment d_need_moment) (G_need_moment : FnOk P w K mg base CX0 7 f_need_moment d_need_moment ["life", "moment"] spNeedM)
    {f_numbers_given_up : Addr} {d_numbers_given_up : FuncData} (g_numbers_given_up : mg "numbers_given_up" = some (.ref f_numbers_given_up)) (F_numbers_given_up : FnP K "numbers_given_up" s_numbers_given_up f_numbers_given_up d_numbers_given_up) (G_numbers_given_up : FnOk P w K mg base CX0 4 f_numbers_given_up d_numbers_given_up ["life"] spGone) :
    FnOk P w K mg base CX0 8 f fd ["life", "moment"] spGivenUp := by
  have b_need_moment : Binds K d_need_moment ["life", "moment"] [] := F_need_moment.bindsN fun _ _ _ _ _ _ us hl => match us, hl with | [_, _], _ => rfl
  have b_numbers_given_up : Binds K d_numbers_given_up ["life"] [] := F_numbers_given_up.bindsN fun _ _ _ _ _ _ us hl => match us, hl with | [_], _ => rfl
  refine F.ok sc_given_up (fun vs H Q E h => ?_) (fun cdv A outer s H vs Q E hr h => ?_)
  · obtain ⟨a, es, m, rfl, _⟩ := h
    rfl
  · obtain ⟨a, es, m, rfl, hL, hV, hm, k⟩ := h
    have nd := sc_given_up.nd
    refine ⟨_, PSs.nox (pss_cons (ps_expr (pe_call G_need_moment (hr.mono (by decide)) rfl g_need_moment F_need_moment.kp b_need_moment .nil pass0 (pa_cons (pv 0) (pa_cons (pv 1) (pa_nil)))))
      (pss_one (ps_ret (pe_ix ix_list (pe_call G_numbers_given_up (hr.mono (by decide)) rfl g_numbers_given_up F_numbers_given_up.kp b_numbers_given_up .nil pass0 (pa_cons (pv 0) (pa_nil))) (pv 1) (fun _ _ => rfl))))), ?_⟩
    refine ⟨_, rfl, _, rfl, a, es, m, rfl, hL, hV, hm, fun H1 s1 => ?_⟩
    refine ⟨_, rfl, a, es, rfl, hL.same s1, hV.len, fun q H2 s2 hq e2 => ?_⟩
    refine ⟨_, rfl, q, _, (m : Int), _, rfl, rfl, SqL.of e2, atI_nat (goneL_at hm), k H2 (s1.trans s2)⟩
abbrev s_still_needed : Stmt := top 25
abbrev N_still_needed : List Str := ["life", "moment", "written"]
theorem sc_still_needed : FnScope N_still_needed ["life", "moment"] (defScope s_still_needed) := ⟨rfl, rfl, rfl, by decide +kernel, rfl, by decide +kernel, by decide +kernel⟩
theorem ok_still_needed {f : Addr} {fd : FuncData} (F : FnP K "still_needed" s_still_needed f fd) (Z : Free mg)
    {f_need_moment : Addr} {d_need_moment : FuncData} (g_need_moment : mg "need_moment" = some (.ref f_need_moment)) (F_need_moment : FnP K "need_moment" s_need_moment f_need_moment d_need_moment) (G_need_moment : FnOk P w K mg base CX0 7 f_need_moment d_need_moment ["life", "moment"] spNeedM)
    {f_numbers_given_up : Addr} {d_numbers_given_up : FuncData} (g_numbers_given_up : mg "numbers_given_up" = some (.ref f_numbers_given_up)) (F_numbers_given_up : FnP K "numbers_given_up" s_numbers_given_up f_numbers_given_up d_numbers_given_up) (G_numbers_given_up : FnOk P w K mg base CX0 4 f_numbers_given_up d_numbers_given_up ["life"] spGone) (C : Cn K mg) :
    FnOk P w K mg base CX0 8 f fd ["life", "moment"] spStill := by
  have b_need_moment : Binds K d_need_moment ["life", "moment"] [] := F_need_moment.bindsN fun _ _ _ _ _ _ us hl => match us, hl with | [_, _], _ => rfl
  have b_numbers_given_up : Binds K d_numbers_given_up ["life"] [] := F_numbers_given_up.bindsN fun _ _ _ _ _ _ us hl => match us, hl with | [_], _ => rfl
  refine F.ok sc_still_needed (fun vs H Q E h => ?_) (fun cdv A outer s H vs Q E hr h => ?_)
  · obtain ⟨a, es, m, rfl, _⟩ := h
    rfl
  · obtain ⟨a, es, m, rfl, hL, hV, hm, k⟩ := h
    obtain ⟨ts, ha, lt, ht⟩ := id hL
    have hu : _ + 65 < cLine := Nat.lt_of_le_of_lt (Nat.add_le_add_left (by decide : 65 ≤ 200) _) (Nat.lt_of_le_of_lt (Nat.add_le_add_right (Nat.le_add_right _ _) _) hr.un)
    have nd := sc_still_needed.nd
    refine ⟨_, PSs.nox (pss_cons (ps_expr (pe_call G_need_moment (hr.mono (by decide)) rfl g_need_moment F_need_moment.kp b_need_moment .nil pass0 (pa_cons (pv 0) (pa_cons (pv 1) (pa_nil)))))
      (pss_cons (ps_set (i := 2) nd rfl (Or.inl rfl) (pe_bm PySem.F.plainAttrs_list PySem.F.slot_list_count PySem.F.type_list_count (mt_countD hu) (pe_slice sl_list (pv 0) po_none (po_some (pv 1))) (pa_cons (pe_glob (v := .ref (aL K)) (by rfl) C.gL rfl) pa_nil)))
      (pss_one (ps_ret (pe_listRg rfl (by rfl) Z.tlist (prg_2 (by rfl) Z.range (pe_op op_add (pe_ix ix_list (pe_call G_numbers_given_up (hr.mono (by decide)) rfl g_numbers_given_up F_numbers_given_up.kp b_numbers_given_up .nil pass0 (pa_cons (pv 0) (pa_nil))) (pv 1) (fun _ _ => rfl)) (pe_int)) (pe_op op_add (pv 2) (pe_int)))))))), ?_⟩
    refine ⟨_, rfl, _, rfl, a, es, m, rfl, hL, hV, hm, fun H1 s1 => ?_⟩
    have ha1 := s1 _ _ ha
    refine ⟨_, rfl, _, rfl, (m : Int), rfl, a, _, rfl, SqL.of ha1, fun q hq => ?_⟩
    rw [cut_to (by rw [List.length_map, lt]; exact hm)]
    have s2 : Same H1 (upd H1 q (.lst ((ts.map V.ref).take m))) := Same.updf hq
    have hL2 : LifeAt (upd H1 q (.lst ((ts.map V.ref).take m))) q (es.take m) := (hL.same s1).take ha1 s2 m upd_same
    have l60 := hV.len
    refine ⟨Or.inl ⟨rfl, _, SqL.of upd_same⟩, q, _, _, _, rfl, rfl, (hL2.tr 0 (by rw [List.length_take]; omega)).dp, C.dL _, shaped_life _, shaped_ev .line, ?_⟩
    rw [count_take]
    have s12 := s1.trans s2
    have od := hV.ord m hm
    refine ⟨_, rfl, a, es, rfl, hL.same s12, hV.len, fun q3 H3 s3 hq3 e3 => ?_⟩
    refine ⟨_, rfl, q3, _, (m : Int), _, rfl, rfl, SqL.of e3, atI_nat (goneL_at hm), _, _, rfl, rfl, _, rfl, _, _, rfl, rfl, _, _, rfl, rfl, RgOk.of_le (by omega) (by omega) (by omega) (by omega), fun q4 hq4 => ?_⟩
    exact k q4 _ (s12.trans (s3.trans (Same.updf hq4))) (none_back (s12.trans s3) hq4) upd_same
abbrev s_wanted : Stmt := top 26
abbrev N_wanted : List Str := ["life", "places", "gone", "at", "place"]
theorem sc_wanted : FnScope N_wanted ["life", "places"] (defScope s_wanted) := ⟨rfl, rfl, rfl, by decide +kernel, rfl, by decide +kernel, by decide +kernel⟩
theorem ok_wanted {f : Addr} {fd : FuncData} (F : FnP K "wanted" s_wanted f fd) (Z : Free mg)
    {f_numbers_given_up : Addr} {d_numbers_given_up : FuncData} (g_numbers_given_up : mg "numbers_given_up" = some (.ref f_numbers_given_up)) (F_numbers_given_up : FnP K "numbers_given_up" s_numbers_given_up f_numbers_given_up d_numbers_given_up) (G_numbers_given_up : FnOk P w K mg base CX0 4 f_numbers_given_up d_numbers_given_up ["life"] spGone)
    {f_line_places : Addr} {d_line_places : FuncData} (g_line_places : mg "line_places" = some (.ref f_line_places)) (F_line_places : FnP K "line_places" s_line_places f_line_places d_line_places) (G_line_places : FnOk P w K mg base CX0 1 f_line_places d_line_places ["life"] spLines) :
    FnOk P w K mg base CX0 5 f fd ["life", "places"] spWanted := by
  have b_numbers_given_up : Binds K d_numbers_given_up ["life"] [] := F_numbers_given_up.bindsN fun _ _ _ _ _ _ us hl => match us, hl with | [_], _ => rfl
  have b_line_places : Binds K d_line_places ["life"] [] := F_line_places.bindsN fun _ _ _ _ _ _ us hl => match us, hl with | [_], _ => rfl
  refine F.ok sc_wanted (fun vs H Q E h => ?_) (fun cdv A outer s H vs Q E hr h => ?_)
  · obtain ⟨a, es, p, rfl, _⟩ := h
    rfl
  · obtain ⟨a, es, p, rfl, hL, l60, k⟩ := h
    have nd := sc_wanted.nd
    refine ⟨_, PSs.nox (pss_cons (ps_set (i := 2) nd rfl (Or.inr rfl) (pe_call G_numbers_given_up (hr.mono (by decide)) rfl g_numbers_given_up F_numbers_given_up.kp b_numbers_given_up .nil pass0 (pa_cons (pv 0) (pa_nil))))
      (pss_one (ps_ret (pe_lc (own := [("at", 3), ("place", 4)]) (g := gTup K 2 (gCons (gName 3) (gCons (gName 4) (gNil)))) (tt := tTest (tOp (rI0 fun i j => .bl (decide (j < i))) (tOp (rI0 fun i j => .int (i - j)) (tOp (rI0 fun i j => .int (i + j)) (tVar 3) (tC (.int 1))) (tVar 1)) (tOp (rIxL K) (tVar 2) (tVar 4)))) (te := tTup (tCons (tOp (rI0 fun i j => .int (i + j)) (tVar 3) (tC (.int 1))) (tCons (tVar 4) (tNil)))) (by rfl) nd (pi_enum (by rfl) Z.enumerate (pa_cons (pe_call G_line_places (hr.mono (by decide)) rfl g_line_places F_line_places.kp b_line_places .nil pass0 (pa_cons (pv 0) (pa_nil))) (pa_nil)))
          (blkOk_by (own := [("at", 3), ("place", 4)]) (N := N_wanted) (sc := defScope s_wanted) (by decide +kernel)) (fun _ _ _ _ _ => pg_tup rfl (pgs_cons (pg_name (i := 3) nd rfl (Or.inl rfl)) (pgs_cons (pg_name (i := 4) nd rfl (Or.inl rfl)) (pgs_nil)))) (fun _ _ _ _ _ => pts_one (pt_cmpR op_gt (pe_op op_sub (pe_op op_add (pv 3) (pe_int)) (pv 1)) (pe_ix ix_list (pv 2) (pv 4) (fun _ _ => rfl)) (nomark _)))
          (fun _ _ _ _ _ => pe_tup (pa_cons (pe_op op_add (pv 3) (pe_int)) (pa_cons (pv 4) (pa_nil)))))))), ?_⟩
    refine ⟨_, rfl, a, es, rfl, hL, l60, fun q1 H1 s1 hq1 e1 => ?_⟩
    refine ⟨_, rfl, a, es, rfl, hL.same s1, l60, fun q2 H2 s2 hq2 e2 => ?_⟩
    have e12 := s2 _ _ e1
    have ll := lp_len es
    refine ⟨q2, _, rfl, SqL.of e2, fun D hD => ?_⟩
    have wk := walk_enum (K := K) (a := q2) (xs := ((lp es).map fun i : Nat => (i : Int)).map V.int)
    rw [List.length_map, List.length_map] at wk
    let sel : Nat → Option (Nat × Nat) := fun j => if j + 1 > p + (stAt es ((lp es).getD j 0)).g then some (j + 1, (lp es).getD j 0) else none
    refine lc_it wk (fun i H3 => Same H2 H3 ∧ ∃ ts : List Addr, H3 D = some (.lst (ts.map V.ref)) ∧ ts.length = ((List.range i).filterMap sel).length ∧ ∀ (j : Nat) (t : Addr) (x : Nat × Nat), ts[j]? = some t → ((List.range i).filterMap sel)[j]? = some x → H3 t = some (.tup [.int (x.1 : Int), .int (x.2 : Int)]))
      ⟨Same.updf hD, [], upd_same, rfl, fun j t x h _ => by simp at h⟩ (fun i H3 _ hh => SqL.of (hh.1 _ _ e2)) ?_ ?_
    · rintro i v H3 H4 hi ⟨s3, ts, hts, lts, kts⟩ ⟨T2, x1, x2, rfl, nT, rfl, g1, g2⟩
      dsimp only at g1 g2
      obtain rfl := Option.some.inj g1
      have hlp : (lp es)[i]? = some ((lp es).getD i 0) := by
        rw [List.getD_eq_getElem?_getD, List.getElem?_eq_getElem hi]
        rfl
      rw [List.getElem?_map, List.getElem?_map, hlp] at g2
      obtain rfl := Option.some.inj g2
      obtain ⟨hlt, _, _⟩ := lp_at hlp
      have sT : Same H3 (upd H3 T2 (.tup [.int (i : Nat), .int (((lp es).getD i 0 : Nat) : Int)])) := Same.updf nT
      refine ⟨T2, [_, _], rfl, .inl (.inl upd_same), rfl, _, [_], rfl, _, [], rfl, rfl, ?_⟩
      have eg := sT _ _ (s3 _ _ e12)
      refine ⟨rfl, _, rfl, _, _, rfl, rfl, _, rfl, _, _, rfl, rfl, _, rfl, _, rfl, q1, _, (((lp es).getD i 0 : Nat) : Int), _, rfl, rfl, SqL.of eg, atI_nat (goneL_at (by omega)), _, _, rfl, rfl, _, rfl, ?_⟩
      have nD3 : T2 ≠ D := fun e => by
        rw [e] at nT
        rw [nT] at hts
        cases hts
      have es1 : (List.range (i + 1)).filterMap sel = (List.range i).filterMap sel ++ (sel i).toList := by
        rw [List.range_succ, List.filterMap_append]
        congr 1
      refine ite2 (fun hc => ?_) (fun hc => ?_)
      · have hc' : i + 1 > p + (stAt es ((lp es).getD i 0)).g := by
          have := of_decide_eq_true hc
          omega
        have esel : sel i = some (i + 1, (lp es).getD i 0) := if_pos hc'
        refine ⟨_, rfl, _, _, rfl, rfl, _, rfl, (by show 2 ≤ sizeLine; decide), fun t3 ht3 => ?_⟩
        have s4 : Same (upd H3 T2 (.tup [.int (i : Nat), .int (((lp es).getD i 0 : Nat) : Int)])) (upd (upd H3 T2 (.tup [.int (i : Nat), .int (((lp es).getD i 0 : Nat) : Int)])) t3 (.tup [.int ((i : Nat) + 1 : Int), .int (((lp es).getD i 0 : Nat) : Int)])) := Same.updf ht3
        have s34 := sT.trans s4
        have nt3 : t3 ≠ D := fun e => by
          rw [e] at ht3
          rw [upd_ne (Ne.symm nD3)] at ht3
          rw [ht3] at hts
          cases hts
        refine ⟨_, s34 _ _ hts, ?_, fun b o e => ?_, ts ++ [t3], ?_, ?_, ?_⟩
        · rw [List.length_map, lts]
          have h1 := List.length_filterMap_le sel (List.range i)
          rw [List.length_range] at h1
          have : (2000 : Nat) ≤ sizeLine := by decide
          omega
        · rw [upd_ne (ne_of_none e hD)]
          exact s34 _ _ (s3 _ _ e)
        · rw [upd_same, List.map_append]
          rfl
        · rw [es1, esel, List.length_append, List.length_append, lts]
          rfl
        · intro j t x h1 h2
          rw [es1, esel] at h2
          have ntD : t ≠ D := fun e => by
            by_cases hj : j < ts.length
            · rw [List.getElem?_append_left hj] at h1
              rw [List.getElem?_append_left (by rw [← lts]; exact hj)] at h2
              have := kts j t x h1 h2
              rw [e, hts] at this
              cases this
            · rw [List.getElem?_append_right (by omega)] at h1
              have := List.mem_of_getElem? h1
              rw [List.mem_singleton] at this
              exact nt3 (this ▸ e)
          rw [upd_ne ntD]
          by_cases hj : j < ts.length
          · rw [List.getElem?_append_left hj] at h1
            rw [List.getElem?_append_left (by rw [← lts]; exact hj)] at h2
            exact s34 _ _ (kts j t x h1 h2)
          · rw [List.getElem?_append_right (by omega)] at h1
            rw [List.getElem?_append_right (by rw [← lts]; omega)] at h2
            have q1 := List.mem_of_getElem? h1
            have q2 := List.mem_of_getElem? h2
            rw [List.mem_singleton] at q1
            simp only [Option.toList_some, List.mem_singleton] at q2
            rw [q1, q2, upd_same]
            rfl
      · have hc' : ¬ i + 1 > p + (stAt es ((lp es).getD i 0)).g := fun z => hc (decide_eq_true (by omega))
        have esel : sel i = none := if_neg hc'
        refine ⟨s3.trans sT, ts, sT _ _ hts, ?_, fun j t x h1 h2 => ?_⟩
        · rw [es1, esel, List.length_append, lts]
          rfl
        · rw [es1, esel, Option.toList_none, List.append_nil] at h2
          exact sT _ _ (kts j t x h1 h2)
    · rintro H3 ⟨s3, ts, hts, lts, kts⟩
      exact k D H3 (s1.trans (s2.trans s3)) (none_back (s1.trans s2) hD) ⟨ts, hts, lts, kts⟩
abbrev s_fits : Stmt := top 27
abbrev N_fits : List Str := ["life", "places"]
theorem sc_fits : FnScope N_fits ["life", "places"] (defScope s_fits) := ⟨rfl, rfl, rfl, by decide +kernel, rfl, by decide +kernel, by decide +kernel⟩
theorem ok_fits {f : Addr} {fd : FuncData} (F : FnP K "fits" s_fits f fd) (Z : Free mg)
    {f_need_life_and_places : Addr} {d_need_life_and_places : FuncData} (g_need_life_and_places : mg "need_life_and_places" = some (.ref f_need_life_and_places)) (F_need_life_and_places : FnP K "need_life_and_places" s_need_life_and_places f_need_life_and_places d_need_life_and_places) (G_need_life_and_places : FnOk P w K mg base CX0 7 f_need_life_and_places d_need_life_and_places ["life", "places"] spNeedLP)
    {f_wanted : Addr} {d_wanted : FuncData} (g_wanted : mg "wanted" = some (.ref f_wanted)) (F_wanted : FnP K "wanted" s_wanted f_wanted d_wanted) (G_wanted : FnOk P w K mg base CX0 5 f_wanted d_wanted ["life", "places"] spWanted) :
    FnOk P w K mg base CX0 8 f fd ["life", "places"] spFits := by
  have b_need_life_and_places : Binds K d_need_life_and_places ["life", "places"] [] := F_need_life_and_places.bindsN fun _ _ _ _ _ _ us hl => match us, hl with | [_, _], _ => rfl
  have b_wanted : Binds K d_wanted ["life", "places"] [] := F_wanted.bindsN fun _ _ _ _ _ _ us hl => match us, hl with | [_, _], _ => rfl
  refine F.ok sc_fits (fun vs H Q E h => ?_) (fun cdv A outer s H vs Q E hr h => ?_)
  · obtain ⟨a, es, p, rfl, _⟩ := h
    rfl
  · obtain ⟨a, es, p, rfl, hL, hV, hp, k⟩ := h
    have nd := sc_fits.nd
    refine ⟨_, PSs.nox (pss_cons (ps_expr (pe_call G_need_life_and_places (hr.mono (by decide)) rfl g_need_life_and_places F_need_life_and_places.kp b_need_life_and_places .nil pass0 (pa_cons (pv 0) (pa_cons (pv 1) (pa_nil)))))
      (pss_one (ps_ret (pe_cmpR (op_eqD hr.units) (pe_call G_wanted (hr.mono (by decide)) rfl g_wanted F_wanted.kp b_wanted .nil pass0 (pa_cons (pv 0) (pa_cons (pv 1) (pa_nil)))) (pe_lst (pa_nil)) (nomark _))))), ?_⟩
    have l60 := hV.len
    refine ⟨_, rfl, _, rfl, a, es, (p : Int), rfl, hL, hV, by omega, fun H1 s1 => ?_⟩
    refine ⟨_, rfl, _, rfl, a, es, p, rfl, hL.same s1, l60, fun q H2 s2 hq hP => ?_⟩
    refine ⟨(by show 0 ≤ sizeLine; decide), fun l hl => ?_⟩
    have s3 : Same H2 (upd H2 l (.lst [])) := Same.updf hl
    have wlen := wl_len es p
    obtain ⟨ts, h1, h2, h3⟩ := id hP
    have hP3 : PairsAt (upd H2 l (.lst [])) q (wl es p) := ⟨ts, s3 _ _ h1, h2, fun i t x e1 e2 => s3 _ _ (h3 i t x e1 e2)⟩
    refine ⟨_, .list [], (hP3.tr (by omega)).dp, .lst (SqL.of upd_same) .nil, shaped_pairs _, shaped_pairs [], ?_⟩
    have e : PyData.eqv (.list ((wl es p).map pairD)) (.list []) = (full es p).isNone := by
      rw [← wl_full]
      cases wl es p with
      | nil => simp [PyData.eqv, PyData.eqvAll]
      | cons x r => simp [PyData.eqv, PyData.eqvAll]
    rw [e]
    exact k _ (s1.trans (s2.trans s3))
abbrev s_first_full : Stmt := top 28
abbrev N_first_full : List Str := ["life", "places", "late"]
theorem sc_first_full : FnScope N_first_full ["life", "places"] (defScope s_first_full) := ⟨rfl, rfl, rfl, by decide +kernel, rfl, by decide +kernel, by decide +kernel⟩
theorem ok_first_full {f : Addr} {fd : FuncData} (F : FnP K "first_full" s_first_full f fd) (Z : Free mg)
    {f_need_life_and_places : Addr} {d_need_life_and_places : FuncData} (g_need_life_and_places : mg "need_life_and_places" = some (.ref f_need_life_and_places)) (F_need_life_and_places : FnP K "need_life_and_places" s_need_life_and_places f_need_life_and_places d_need_life_and_places) (G_need_life_and_places : FnOk P w K mg base CX0 7 f_need_life_and_places d_need_life_and_places ["life", "places"] spNeedLP)
    {f_wanted : Addr} {d_wanted : FuncData} (g_wanted : mg "wanted" = some (.ref f_wanted)) (F_wanted : FnP K "wanted" s_wanted f_wanted d_wanted) (G_wanted : FnOk P w K mg base CX0 5 f_wanted d_wanted ["life", "places"] spWanted) :
    FnOk P w K mg base CX0 8 f fd ["life", "places"] spFirst := by
  have b_need_life_and_places : Binds K d_need_life_and_places ["life", "places"] [] := F_need_life_and_places.bindsN fun _ _ _ _ _ _ us hl => match us, hl with | [_, _], _ => rfl
  have b_wanted : Binds K d_wanted ["life", "places"] [] := F_wanted.bindsN fun _ _ _ _ _ _ us hl => match us, hl with | [_, _], _ => rfl
  refine F.ok sc_first_full (fun vs H Q E h => ?_) (fun cdv A outer s H vs Q E hr h => ?_)
  · obtain ⟨a, es, p, rfl, _⟩ := h
    rfl
  · obtain ⟨a, es, p, rfl, hL, hV, hp, k⟩ := h
    have nd := sc_first_full.nd
    refine ⟨_, PSs.nox (pss_cons (ps_expr (pe_call G_need_life_and_places (hr.mono (by decide)) rfl g_need_life_and_places F_need_life_and_places.kp b_need_life_and_places .nil pass0 (pa_cons (pv 0) (pa_cons (pv 1) (pa_nil)))))
      (pss_cons (ps_set (i := 2) nd rfl (Or.inl rfl) (pe_call G_wanted (hr.mono (by decide)) rfl g_wanted F_wanted.kp b_wanted .nil pass0 (pa_cons (pv 0) (pa_cons (pv 1) (pa_nil)))))
      (pss_cons (ps_if (pt_not (pt_truth (pv 2) (fun _ => rfl))) (pss_one (ps_ret (pe_non))) (pss_nil))
      (pss_one (ps_ret (pe_ix ix_tup (pe_ix ix_list (pv 2) (pe_int) (fun _ _ => rfl)) (pe_int) (fun _ _ => rfl))))))), ?_⟩
    have l60 := hV.len
    refine ⟨_, rfl, _, rfl, a, es, (p : Int), rfl, hL, hV, by omega, fun H1 s1 => ?_⟩
    refine ⟨_, rfl, _, rfl, a, es, p, rfl, hL.same s1, l60, fun q H2 s2 hq hP => ?_⟩
    obtain ⟨ts, h1, h2, h3⟩ := id hP
    have kk := k H2 (s1.trans s2)
    rw [← wl_full] at kk
    refine ⟨_, rfl, _, Or.inl ⟨_, SqL.of h1, rfl⟩, ?_⟩
    cases hw : wl es p with
    | nil =>
      rw [hw] at kk h2
      have e0 : ts = [] := List.eq_nil_of_length_eq_zero h2
      subst e0
      exact kk
    | cons x r =>
      rw [hw] at kk h2 h3
      cases ts with
      | nil => simp at h2
      | cons t ts =>
        refine ⟨_, rfl, q, _, 0, .ref t, rfl, rfl, SqL.of h1, atI_nat (j := 0) rfl, t, _, 1, _, rfl, rfl, SqT.of (h3 0 t x rfl rfl), rfl, kk⟩
abbrev s_least_places : Stmt := top 29
abbrev N_least_places : List Str := ["life", "gone", "at", "place"]
theorem sc_least_places : FnScope N_least_places ["life"] (defScope s_least_places) := ⟨rfl, rfl, rfl, by decide +kernel, rfl, by decide +kernel, by decide +kernel⟩
theorem ok_least_places {f : Addr} {fd : FuncData} (F : FnP K "least_places" s_least_places f fd) (Z : Free mg)
    {f_need_life : Addr} {d_need_life : FuncData} (g_need_life : mg "need_life" = some (.ref f_need_life)) (F_need_life : FnP K "need_life" s_need_life f_need_life d_need_life) (G_need_life : FnOk P w K mg base CX0 6 f_need_life d_need_life ["life"] spNeedLife)
    {f_numbers_given_up : Addr} {d_numbers_given_up : FuncData} (g_numbers_given_up : mg "numbers_given_up" = some (.ref f_numbers_given_up)) (F_numbers_given_up : FnP K "numbers_given_up" s_numbers_given_up f_numbers_given_up d_numbers_given_up) (G_numbers_given_up : FnOk P w K mg base CX0 4 f_numbers_given_up d_numbers_given_up ["life"] spGone)
    {f_line_places : Addr} {d_line_places : FuncData} (g_line_places : mg "line_places" = some (.ref f_line_places)) (F_line_places : FnP K "line_places" s_line_places f_line_places d_line_places) (G_line_places : FnOk P w K mg base CX0 1 f_line_places d_line_places ["life"] spLines) :
    FnOk P w K mg base CX0 7 f fd ["life"] spLeast := by
  have b_need_life : Binds K d_need_life ["life"] [] := F_need_life.bindsN fun _ _ _ _ _ _ us hl => match us, hl with | [_], _ => rfl
  have b_numbers_given_up : Binds K d_numbers_given_up ["life"] [] := F_numbers_given_up.bindsN fun _ _ _ _ _ _ us hl => match us, hl with | [_], _ => rfl
  have b_line_places : Binds K d_line_places ["life"] [] := F_line_places.bindsN fun _ _ _ _ _ _ us hl => match us, hl with | [_], _ => rfl
  refine F.ok sc_least_places (fun vs H Q E h => ?_) (fun cdv A outer s H vs Q E hr h => ?_)
  · obtain ⟨a, es, rfl, _⟩ := h
    rfl
  · obtain ⟨a, es, rfl, hL, hV, k⟩ := h
    have nd := sc_least_places.nd
    refine ⟨_, PSs.nox (pss_cons (ps_expr (pe_call G_need_life (hr.mono (by decide)) rfl g_need_life F_need_life.kp b_need_life .nil pass0 (pa_cons (pv 0) (pa_nil))))
      (pss_cons (ps_set (i := 1) nd rfl (Or.inr rfl) (pe_call G_numbers_given_up (hr.mono (by decide)) rfl g_numbers_given_up F_numbers_given_up.kp b_numbers_given_up .nil pass0 (pa_cons (pv 0) (pa_nil))))
      (pss_one (ps_ret (pe_callBK (cr_maxDf rfl) (by rfl) Z.max (by decide +kernel) (pa_cons (pe_lc (own := [("at", 2), ("place", 3)]) (g := gTup K 2 (gCons (gName 2) (gCons (gName 3) (gNil)))) (tt := tYes) (te := tOp (rI0 fun i j => .int (i - j)) (tOp (rI0 fun i j => .int (i + j)) (tVar 2) (tC (.int 1))) (tOp (rIxL K) (tVar 1) (tVar 3))) (by rfl) nd (pi_enum (by rfl) Z.enumerate (pa_cons (pe_call G_line_places (hr.mono (by decide)) rfl g_line_places F_line_places.kp b_line_places .nil pass0 (pa_cons (pv 0) (pa_nil))) (pa_nil)))
          (blkOk_by (own := [("at", 2), ("place", 3)]) (N := N_least_places) (sc := defScope s_least_places) (by decide +kernel)) (fun _ _ _ _ _ => pg_tup rfl (pgs_cons (pg_name (i := 2) nd rfl (Or.inl rfl)) (pgs_cons (pg_name (i := 3) nd rfl (Or.inl rfl)) (pgs_nil)))) (fun _ _ _ _ _ => pts_nil)
          (fun _ _ _ _ _ => pe_op op_sub (pe_op op_add (pv 2) (pe_int)) (pe_ix ix_list (pv 1) (pv 3) (fun _ _ => rfl)))) (pa_nil)) (pk_cons (pe_int) pk_nil)))))), ?_⟩
    have l60 := hV.len
    refine ⟨_, rfl, a, es, rfl, hL, hV, fun H0 s0 => ?_⟩
    refine ⟨_, rfl, a, es, rfl, hL.same s0, l60, fun q1 H1 s1 hq1 e1 => ?_⟩
    refine ⟨_, rfl, a, es, rfl, (hL.same s0).same s1, l60, fun q2 H2 s2 hq2 e2 => ?_⟩
    have e12 := s2 _ _ e1
    have ll := lp_len es
    refine ⟨q2, _, rfl, SqL.of e2, fun D hD => ?_⟩
    have wk := walk_enum (K := K) (a := q2) (xs := ((lp es).map fun i : Nat => (i : Int)).map V.int)
    rw [List.length_map, List.length_map] at wk
    refine lc_sel wk (fun j => some (.int ((j : Int) + 1 - ((stAt es ((lp es).getD j 0)).g : Int)))) (by omega) hD (fun H3 s3 => SqL.of (s3 _ _ e2)) ?_ ?_
    · rintro i v H3 H4 Qy Qn hi s3 ⟨T2, x1, x2, rfl, nT, rfl, g1, g2⟩ ky kn
      dsimp only at g1 g2
      obtain rfl := Option.some.inj g1
      have hlp : (lp es)[i]? = some ((lp es).getD i 0) := by
        rw [List.getD_eq_getElem?_getD, List.getElem?_eq_getElem hi]
        rfl
      rw [List.getElem?_map, List.getElem?_map, hlp] at g2
      obtain rfl := Option.some.inj g2
      obtain ⟨hlt, _, _⟩ := lp_at hlp
      have sT : Same H3 (upd H3 T2 (.tup [.int (i : Nat), .int (((lp es).getD i 0 : Nat) : Int)])) := Same.updf nT
      refine ⟨T2, [_, _], rfl, .inl (.inl upd_same), rfl, _, [_], rfl, _, [], rfl, rfl, ?_⟩
      have eg := sT _ _ (s3 _ _ e12)
      exact ⟨rfl, _, rfl, _, _, rfl, rfl, _, rfl, _, rfl, q1, _, (((lp es).getD i 0 : Nat) : Int), _, rfl, rfl, SqL.of eg, atI_nat (goneL_at (by omega)), _, _, rfl, rfl, ky _ _ sT rfl⟩
    · intro H3 s3 hR
      have eR : ((List.range (lp es).length).filterMap fun j : Nat => some (V.int ((j : Int) + 1 - ((stAt es ((lp es).getD j 0)).g : Int)))) = ((List.range (lp es).length).map fun j : Nat => ((j : Int) + 1 - ((stAt es ((lp es).getD j 0)).g : Int))).map V.int := by
        rw [List.filterMap_eq_map', List.map_map]
        rfl
      rw [eR] at hR
      refine ⟨D, _, 1, rfl, rfl, SqL.of hR, fun m h0 h1 => ?_⟩
      have ne : (((List.range (lp es).length).map fun j : Nat => ((j : Int) + 1 - ((stAt es ((lp es).getD j 0)).g : Int))) = []) ↔ lp es = [] := by
        rw [List.map_eq_nil_iff]
        constructor
        · intro z
          have := congrArg List.length z
          rw [List.length_range] at this
          exact List.eq_nil_of_length_eq_zero this
        · intro z
          rw [z]
          rfl
      refine k m H3 (s0.trans (s1.trans (s2.trans s3))) ⟨fun z => h0 (ne.mpr z), fun z => ?_, fun i hi hl => ?_⟩
      · obtain ⟨hm, _⟩ := h1 fun y => z (ne.mp y)
        rw [List.mem_map] at hm
        obtain ⟨j, hj, rfl⟩ := hm
        rw [List.mem_range] at hj
        have hlp : (lp es)[j]? = some ((lp es).getD j 0) := by
          rw [List.getD_eq_getElem?_getD, List.getElem?_eq_getElem hj]
          rfl
        obtain ⟨a1, a2, a3⟩ := lp_at hlp
        exact ⟨_, a1, a2, by rw [a3]⟩
      · have hmem : i ∈ lp es := by
          unfold lp
          rw [List.mem_filter, List.mem_range]
          exact ⟨hi, hl⟩
        obtain ⟨j, hj, ej⟩ := List.getElem_of_mem hmem
        have hlp : (lp es)[j]? = some i := by rw [List.getElem?_eq_getElem hj, ej]
        obtain ⟨_, _, a3⟩ := lp_at hlp
        obtain ⟨_, hle⟩ := h1 fun y => by
          rw [ne.mp y] at hmem
          cases hmem
        have := hle _ (List.mem_map.mpr ⟨j, List.mem_range.mpr hj, rfl⟩)
        have ed : (lp es).getD j 0 = i := by
          rw [List.getD_eq_getElem?_getD, hlp]
          rfl
        rw [ed] at this
        rw [a3]
        exact this
end
end K37
set_option Elab.async false
set_option linter.all false
set_option maxRecDepth 100000
set_option maxHeartbeats 8000000
namespace K37
open PySem PySem.Spec PyProof.Rows L2 KB
theorem LifeAt.but {H H' : Hp} {a pu : Addr} {es : List Ev} {N : Nat} (hP : Purse H pu N) (k : But pu H H') (h : LifeAt H a es) : LifeAt H' a es := by
  obtain ⟨A, B, c, i, eP, _⟩ := hP
  obtain ⟨ts, h1, h2, h3⟩ := h
  have na : a ≠ pu := fun e => by
    rw [e, eP] at h1
    cases ts with
    | nil => cases h1
    | cons t r => cases h1
  refine ⟨ts, k _ _ na h1, h2, fun j t e e1 e2 => ?_⟩
  have ht := h3 j t e e1 e2
  refine k _ _ (fun z => ?_) ht
  rw [z, eP] at ht
  cases ht
theorem LifeAt.snoc {H' : Hp} {q t : Addr} {es : List Ev} {e : Ev} {ts : List Addr} (lt : ts.length = es.length) (k : ∀ (i : Nat) (t : Addr) (e : Ev), ts[i]? = some t → es[i]? = some e → H' t = some (.tup e.v)) (hq : H' q = some (.lst (ts.map V.ref ++ [.ref t]))) (ht : H' t = some (.tup e.v)) : LifeAt H' q (es ++ [e]) := by
  refine ⟨ts ++ [t], by rw [hq, List.map_append]; rfl, by rw [List.length_append, List.length_append, lt]; rfl, fun i u f e1 e2 => ?_⟩
  by_cases hi : i < ts.length
  · rw [List.getElem?_append_left hi] at e1
    rw [List.getElem?_append_left (by omega)] at e2
    exact k i u f e1 e2
  · rw [List.getElem?_append_right (by omega)] at e1
    rw [List.getElem?_append_right (by omega)] at e2
    have q1 := List.mem_of_getElem? e1
    have q2 := List.mem_of_getElem? e2
    rw [List.mem_singleton] at q1 q2
    rw [q1, q2]
    exact ht
def spLife : Sp := fun vs H Q _ => ∃ (pu : Addr) (mo N : Nat), vs = [.ref pu, .int (mo : Int)] ∧ mo ≤ 20 ∧ Purse H pu N ∧ N ≤ 2 ^ 40 ∧
  ∀ (q : Addr) (es : List Ev) (H' : Hp) (M : Nat), But pu H H' → H q = none → q ≠ pu → LifeAt H' q es → Valid es → es.length ≤ mo → Purse H' pu M → M ≤ N + 100 → Q (.ref q) H'
def spGoneL : Sp := fun vs H Q _ => ∃ (a : Addr) (es : List Ev) (m : Nat), vs = [.ref a, .int (m : Int)] ∧ LifeAt H a es ∧ es.length ≤ 60 ∧ m ≤ es.length ∧ ∀ H', Same H H' → Q (.int ((stAt es m).g : Int)) H'
def spRing : Sp := fun vs H Q _ => ∃ (a : Addr) (es : List Ev) (p : Nat), vs = [.ref a, .int (p : Int)] ∧ LifeAt H a es ∧ es.length ≤ 60 ∧ 1 ≤ p ∧ p ≤ 100 ∧ ∀ H', Same H H' → Q (optV (full es p)) H'
theorem full_some {es : List Ev} {p i : Nat} (hi : i < es.length) (h : bad es p i = true) (k : ∀ j, j < i → bad es p j = false) : full es p = some i := by
  unfold full
  rw [List.find?_range_eq_some]
  exact ⟨h, List.mem_range.mpr hi, fun j hj => by rw [k j hj]; rfl⟩
theorem full_none {es : List Ev} {p : Nat} (k : ∀ j, j < es.length → bad es p j = false) : full es p = none := by
  unfold full
  rw [List.find?_eq_none]
  intro j hj
  rw [k j (List.mem_range.mp hj)]
  exact Bool.false_ne_true
/-- the ring's cells -/
structure RingOk (kvs : List (Key × V)) (many p : Nat) : Prop where
  here : ∀ L, 1 ≤ L → L ≤ many → many < L + p → valV kvs (.inl ((L % p : Nat) : Int)) = some (.int (L : Int))
  no : ∀ z : Nat, (∀ L, 1 ≤ L → L ≤ many → L % p ≠ z) → valV kvs (.inl (z : Int)) = none
theorem RingOk.nil (p : Nat) : RingOk [] 0 p := ⟨fun L a b => by omega, fun z _ => rfl⟩
theorem RingOk.get {kvs : List (Key × V)} {many p : Nat} (h : RingOk kvs many p) (hp : 1 ≤ p) : valV kvs (.inl (((many + 1) % p : Nat) : Int)) = if many + 1 > p then some (.int ((many + 1 - p : Nat) : Int)) else none := by
  by_cases c : many + 1 > p
  · rw [if_pos c]
    have e : (many + 1) % p = (many + 1 - p) % p := by
      have := Nat.add_mod_right (many + 1 - p) p
      rw [show many + 1 - p + p = many + 1 by omega] at this
      exact this
    rw [e]
    exact h.here _ (by omega) (by omega) (by omega)
  · rw [if_neg c]
    refine h.no _ fun L a b e => ?_
    have e1 : L % p = L := Nat.mod_eq_of_lt (by omega)
    rw [e1] at e
    rcases Nat.lt_or_ge (many + 1) p with q | q
    · rw [Nat.mod_eq_of_lt q] at e
      omega
    · have : many + 1 = p := by omega
      rw [this, Nat.mod_self] at e
      omega
theorem RingOk.put {kvs : List (Key × V)} {many p : Nat} (h : RingOk kvs many p) (hp : 1 ≤ p) : RingOk (putK kvs (.inl (((many + 1) % p : Nat) : Int)) (.int ((many + 1 : Nat) : Int))) (many + 1) p := by
  refine ⟨fun L a b c => ?_, fun z k => ?_⟩
  · rw [valV_put]
    by_cases e : L = many + 1
    · rw [e, if_pos rfl]
    · have ne : ¬ ((.inl ((L % p : Nat) : Int) : Key) = .inl (((many + 1) % p : Nat) : Int)) := fun z => by
        have z1 : L % p = (many + 1) % p := by
          have := Sum.inl.inj z
          omega
        have d1 := Nat.div_add_mod L p
        have d2 := Nat.div_add_mod (many + 1) p
        rw [z1] at d1
        have le : L / p ≤ (many + 1) / p := Nat.div_le_div_right b
        rcases Nat.lt_or_ge (L / p) ((many + 1) / p) with q | q
        · have := Nat.mul_le_mul_left p (show L / p + 1 ≤ (many + 1) / p from q)
          rw [Nat.mul_add, Nat.mul_one] at this
          omega
        · have : L / p = (many + 1) / p := by omega
          rw [this] at d1
          omega
      rw [if_neg ne]
      exact h.here L a (by omega) (by omega)
  · rw [valV_put]
    have ne : ¬ ((.inl (z : Int) : Key) = .inl (((many + 1) % p : Nat) : Int)) := fun e => by
      have := k (many + 1) (by omega) (Nat.le_refl _)
      have := Sum.inl.inj e
      omega
    rw [if_neg ne]
    exact h.no z fun L a b => k L a (by omega)
section
variable {P : Program} {w : World} {K : PySem.W.Frag} {mg : Str → Option Value} {base : Heap}
abbrev s_gone : Stmt := top 37
abbrev N_gone : List Str := ["_law_life_here", "_law_moment", "_law_stands", "_law_gone_here", "_law_event"]
theorem sc_gone : FnScope N_gone ["_law_life_here", "_law_moment"] (defScope s_gone) := ⟨rfl, rfl, rfl, by decide +kernel, rfl, by decide +kernel, by decide +kernel⟩
theorem ok_gone {f : Addr} {fd : FuncData} (F : FnP K "_law_gone" s_gone f fd) (Z : Free mg) :
    FnOk P w K mg base CX0 1 f fd ["_law_life_here", "_law_moment"] spGoneL := by
  refine F.ok sc_gone (fun vs H Q E h => ?_) (fun cdv A outer s H vs Q E hr h => ?_)
  · obtain ⟨a, es, m, rfl, _⟩ := h
    rfl
  · obtain ⟨a, es, m, rfl, hL, l60, hm, k⟩ := h
    obtain ⟨ts0, ha, lt0, ht0⟩ := id hL
    have nd := sc_gone.nd
    refine ⟨_, PSs.nox (pss_cons (ps_asg (pe_tup (pa_cons (pe_int) (pa_cons (pe_int) (pa_nil)))) (pg_tup rfl (pgs_cons (pg_name (i := 2) nd rfl (Or.inl rfl)) (pgs_cons (pg_name (i := 3) nd rfl (Or.inl rfl)) (pgs_nil)))))
      (pss_cons (ps_for PassesOwn.never rfl (pi_list (pe_slice sl_list (pv 0) (po_none) (po_some (pv 1)))) (pg_name (i := 4) nd rfl (Or.inl rfl))
        (pss_cons (ps_if (pt_cmpR op_eq (pe_ix ix_tup (pv 4) (pe_int) (fun _ _ => rfl)) (pe_str) (nomark _)) (pss_one (ps_set (i := 2) nd rfl (Or.inl rfl) (pe_ix ix_tup (pv 4) (pe_int) (fun _ _ => rfl)))) (pss_nil))
      (pss_one (ps_if (pt_cmpR op_eq (pe_ix ix_tup (pv 4) (pe_int) (fun _ _ => rfl)) (pe_str) (nomark _)) (pss_one (ps_set (i := 3) nd rfl (Or.inl rfl) (pv 2))) (pss_nil)))))
      (pss_one (ps_ret (pv 3))))), ?_⟩
    refine ⟨(by show 2 ≤ sizeLine; decide), fun T hT => ⟨T, [_, _], rfl, .inl (.inl upd_same), rfl, _, [_], rfl, _, [], rfl, rfl, ?_⟩⟩
    have s1 : Same H (upd H T (.tup [.int 0, .int 0])) := Same.updf hT
    have ha1 := s1 _ _ ha
    refine ⟨_, rfl, _, rfl, (m : Int), rfl, a, _, rfl, SqL.of ha1, fun q hq => ?_⟩
    rw [cut_to (by rw [List.length_map, lt0]; exact hm)]
    have s2 : Same (upd H T (.tup [.int 0, .int 0])) (upd (upd H T (.tup [.int 0, .int 0])) q (.lst ((ts0.map V.ref).take m))) := Same.updf hq
    have hL2 := (hL.same s1).take ha1 s2 m (q := q) upd_same
    obtain ⟨H2, eH2⟩ : ∃ X, X = upd (upd H T (.tup [.int 0, .int 0])) q (.lst ((ts0.map V.ref).take m)) := ⟨_, rfl⟩
    rw [← eH2] at s2 hL2 ⊢
    have s12 := s1.trans s2
    obtain ⟨ts, hq2, lt, ht⟩ := hL2
    refine ⟨q, rfl, ⟨_, SqL.of hq2⟩, ?_⟩
    refine for_list (xs := ts.map V.ref) (fun i σ H3 => H3 = H2 ∧ ∃ v4 S G, S = ((stAt (es.take m) i).s : Int) ∧ G = ((stAt (es.take m) i).g : Int) ∧ σ = [some (.ref a), some (.int (m : Int)), some (.int S), some (.int G), v4])
      ⟨rfl, none, 0, 0, by rw [stAt_zero]; rfl, by rw [stAt_zero]; rfl, rfl⟩ (fun i σ H3 _ hh => by rw [hh.1]; exact SqL.of hq2) ?_ ?_
    · rintro i y σ H3 hy ⟨rfl, v4, S, G, hS, hG, rfl⟩
      have hi : i < (es.take m).length := by
        rw [← lt]
        rcases Nat.lt_or_ge i ts.length with q | q
        · exact q
        · rw [List.getElem?_map, List.getElem?_eq_none q] at hy
          cases hy
      have e1 : ts[i]? = some ts[i] := List.getElem?_eq_getElem (by omega)
      rw [List.getElem?_map, e1] at hy
      obtain rfl : V.ref ts[i] = y := Option.some.inj hy
      have ee := List.getElem?_eq_getElem hi
      have e3 := ht i _ _ e1 ee
      have es1 := stAt_succ ee
      cases q : (es.take m)[i] with
      | line =>
        rw [q] at es1 e3
        refine ⟨_, rfl, ts[i], _, 0, .str "line", rfl, rfl, SqT.of e3, rfl, rfl, _, rfl, iteF ?_⟩
        refine ⟨_, rfl, ts[i], _, 0, .str "line", rfl, rfl, SqT.of e3, rfl, rfl, _, rfl, iteF ?_⟩
        exact ⟨rfl, _, _, _, by rw [es1, hS]; rfl, by rw [es1, hG]; rfl, rfl⟩
      | root =>
        rw [q] at es1 e3
        refine ⟨_, rfl, ts[i], _, 0, .str "root", rfl, rfl, SqT.of e3, rfl, rfl, _, rfl, iteF ?_⟩
        refine ⟨_, rfl, ts[i], _, 0, .str "root", rfl, rfl, SqT.of e3, rfl, rfl, _, rfl, iteT ⟨_, rfl, ?_⟩⟩
        exact ⟨rfl, _, _, _, by rw [es1, hS]; rfl, by rw [es1, hS]; rfl, rfl⟩
      | stand n =>
        rw [q] at es1 e3
        refine ⟨_, rfl, ts[i], _, 0, .str "stand", rfl, rfl, SqT.of e3, rfl, rfl, _, rfl, iteT ⟨_, rfl, ts[i], _, 1, .int (n : Int), rfl, rfl, SqT.of e3, rfl, ?_⟩⟩
        refine ⟨_, rfl, ts[i], _, 0, .str "stand", rfl, rfl, SqT.of e3, rfl, rfl, _, rfl, iteF ?_⟩
        exact ⟨rfl, _, _, _, by rw [es1]; rfl, by rw [es1, hG]; rfl, rfl⟩
    · rintro σ H3 ⟨rfl, v4, S, G, hS, hG, rfl⟩
      rw [List.length_map, lt, List.length_take, Nat.min_eq_left hm, stAt_take (Nat.le_refl _)] at hG
      rw [← hG] at k
      exact ⟨_, rfl, k _ s12⟩
abbrev s_ring_walk : Stmt := top 36
abbrev N_ring_walk : List Str := ["_law_life_here", "_law_places", "_law_ring", "_law_many", "_law_stands", "_law_first", "_law_at", "_law_event", "_law_spot"]
theorem sc_ring_walk : FnScope N_ring_walk ["_law_life_here", "_law_places"] (defScope s_ring_walk) := ⟨rfl, rfl, rfl, by decide +kernel, rfl, by decide +kernel, by decide +kernel⟩
theorem ok_ring_walk {f : Addr} {fd : FuncData} (F : FnP K "_law_ring_walk" s_ring_walk f fd) (Z : Free mg) :
    FnOk P w K mg base CX0 1 f fd ["_law_life_here", "_law_places"] spRing := by
  refine F.ok sc_ring_walk (fun vs H Q E h => ?_) (fun cdv A outer s H vs Q E hr h => ?_)
  · obtain ⟨a, es, p, rfl, _⟩ := h
    rfl
  · obtain ⟨a, es, p, rfl, hL, l60, hp, hp2, k⟩ := h
    obtain ⟨ts, ha, lt, ht⟩ := id hL
    have hu : _ + 1 < cLine := hu_of hr
    have nd := sc_ring_walk.nd
    refine ⟨_, PSs.nox (pss_cons (ps_asg (pe_tup (pa_cons (pe_dnewK) (pa_cons (pe_int) (pa_cons (pe_int) (pa_cons (pe_int) (pa_nil)))))) (pg_tup rfl (pgs_cons (pg_name (i := 2) nd rfl (Or.inl rfl)) (pgs_cons (pg_name (i := 3) nd rfl (Or.inl rfl)) (pgs_cons (pg_name (i := 4) nd rfl (Or.inl rfl)) (pgs_cons (pg_name (i := 5) nd rfl (Or.inl rfl)) (pgs_nil)))))))
      (pss_cons (ps_for PassesOwn.never rfl (pi_enum (by rfl) Z.enumerate (pa_cons (pv 0) (pa_nil))) (pg_tup rfl (pgs_cons (pg_name (i := 6) nd rfl (Or.inl rfl)) (pgs_cons (pg_name (i := 7) nd rfl (Or.inl rfl)) (pgs_nil))))
        (pss_one (ps_if (pt_cmpR op_eq (pe_ix ix_tup (pv 7) (pe_int) (fun _ _ => rfl)) (pe_str) (nomark _)) (pss_cons (ps_set (i := 3) nd rfl (Or.inl rfl) (pe_op op_add (pv 3) (pe_int)))
      (pss_cons (ps_set (i := 8) nd rfl (Or.inl rfl) (pe_op op_mod (pe_callTy call_int1 (by rfl) Z.int (by decide +kernel) (pa_cons (pv 3) (pa_nil))) (pv 1)))
      (pss_cons (ps_if (PW.pt (pw_and (pt_cmp (pc_din hu (pv 8) (pv 2))) (pw_and1 (pt_cmpR op_ge (pe_dget hu (pv 2) (pv 8) (fun _ _ => rfl)) (pv 5) (nomark _))))) (pss_one (ps_ret (pv 6))) (pss_nil))
      (pss_one (ps_dput hu (pv 2) (pv 8) (pv 3) rfl))))) (pss_one (ps_if (pt_cmpR op_eq (pe_ix ix_tup (pv 7) (pe_int) (fun _ _ => rfl)) (pe_str) (nomark _)) (pss_one (ps_set (i := 4) nd rfl (Or.inl rfl) (pe_ix ix_tup (pv 7) (pe_int) (fun _ _ => rfl)))) (pss_one (ps_set (i := 5) nd rfl (Or.inl rfl) (pe_op op_add (pv 4) (pe_int)))))))))
      (pss_one (ps_ret (pe_non))))), ?_⟩
    refine fun d hd => ⟨(by show 4 ≤ sizeLine; decide), fun T hT => ⟨T, [_, _, _, _], rfl, .inl (.inl upd_same), rfl, _, [_, _, _], rfl, _, [_, _], rfl, _, [_], rfl, _, [], rfl, rfl, ?_⟩⟩
    have s1 : Same H (upd H d (.dK [])) := Same.updf hd
    have s2 : Same (upd H d (.dK [])) (upd (upd H d (.dK [])) T (.tup [.ref d, .int 0, .int 0, .int 1])) := Same.updf hT
    obtain ⟨H2, eH2⟩ : ∃ X, X = upd (upd H d (.dK [])) T (.tup [.ref d, .int 0, .int 0, .int 1]) := ⟨_, rfl⟩
    have hd2 : H2 d = some (.dK []) := by rw [eH2]; exact s2 _ _ upd_same
    rw [← eH2] at s2 ⊢
    have s12 := s1.trans s2
    refine ⟨_, rfl, a, _, rfl, SqL.of (s12 _ _ ha), ?_⟩
    have wk := walk_enum (K := K) (a := a) (xs := ts.map V.ref)
    rw [List.length_map, lt] at wk
    refine for_it wk (fun i σ H3 => Same H H3 ∧ (∃ kvs, H3 d = some (.dK kvs) ∧ kvs.length ≤ i ∧ RingOk kvs (stAt es i).w p) ∧ (∀ j, j < i → bad es p j = false) ∧ ∃ v6 v7 v8 W S G, W = ((stAt es i).w : Int) ∧ S = ((stAt es i).s : Int) ∧ G = ((stAt es i).g : Int) + 1 ∧ σ = [some (.ref a), some (.int (p : Int)), some (.ref d), some (.int W), some (.int S), some (.int G), v6, v7, v8])
      ⟨s12, ⟨[], hd2, Nat.le_refl _, by rw [stAt_zero]; exact RingOk.nil p⟩, fun j hj => by omega, none, none, none, 0, 0, 1, by rw [stAt_zero]; rfl, by rw [stAt_zero]; rfl, by rw [stAt_zero]; rfl, rfl⟩ (fun i σ H3 _ hh => SqL.of (hh.1 _ _ ha)) ?_ ?_
    · rintro i v σ H3 H4 hi ⟨s3, ⟨kvs, hk3, lk, ro⟩, nb, v6, v7, v8, W, S, G, hW, hS, hG, rfl⟩ ⟨T2, x1, x2, rfl, nT, rfl, g1, g2⟩
      dsimp only at g1 g2
      obtain rfl := Option.some.inj g1
      have e1 : ts[i]? = some ts[i] := List.getElem?_eq_getElem (by omega)
      rw [List.getElem?_map, e1] at g2
      obtain rfl := Option.some.inj g2
      have sT : Same H3 (upd H3 T2 (.tup [.int (i : Nat), .ref ts[i]])) := Same.updf nT
      obtain ⟨H4, eH4⟩ : ∃ X, X = upd H3 T2 (.tup [.int (i : Nat), .ref ts[i]]) := ⟨_, rfl⟩
      refine ⟨T2, [_, _], rfl, .inl (.inl upd_same), rfl, _, [_], rfl, _, [], rfl, rfl, ?_⟩
      rw [← eH4] at sT ⊢
      have s4 := s3.trans sT
      have ee := List.getElem?_eq_getElem hi
      have e3 := s4 _ _ (ht i _ _ e1 ee)
      have es1 := stAt_succ ee
      have hk4 := sT _ _ hk3
      have bi : bad es p i = (decide (es[i] = .line) && decide ((stAt es i).w + 1 > p + (stAt es i).g)) := by
        unfold bad isL
        rw [ee]
        cases es[i] <;> rfl
      have next : bad es p i = false → ∀ j, j < i + 1 → bad es p j = false := fun h j hj => by
        rcases Nat.lt_or_ge j i with q | q
        · exact nb j q
        · rw [show j = i by omega]
          exact h
      cases q : es[i] with
      | line =>
        rw [q] at es1 e3 bi
        refine ⟨_, rfl, ts[i], _, 0, .str "line", rfl, rfl, SqT.of e3, rfl, rfl, _, rfl, iteT ?_⟩
        refine ⟨_, rfl, _, _, rfl, rfl, ?_⟩
        refine ⟨_, rfl, Or.inl ⟨_, rfl, _, rfl, _, _, rfl, rfl, (by omega), ?_⟩⟩
        have eS : (W + 1) % (p : Int) = ((((stAt es i).w + 1) % p : Nat) : Int) := by
          rw [hW]
          rfl
        have eW : W + 1 = (((stAt es i).w + 1 : Nat) : Int) := by rw [hW]; rfl
        show gName 8 (V.int ((W + 1) % (p : Int))) [some (V.ref a), some (V.int (p : Int)), some (V.ref d), some (V.int (W + 1)), some (V.int S), some (V.int G), some (V.int (i : Nat)), some (V.ref ts[i]), v8] _ _
        rw [eS, eW]
        have rg := ro.get hp
        have fin : bad es p i = false → ∀ (σ' : L2.St), σ' = [some (V.ref a), some (.int (p : Int)), some (.ref d), some (.int (((stAt es i).w + 1 : Nat) : Int)), some (.int S), some (.int G), some (.int (i : Nat)), some (.ref ts[i]), some (.int ((((stAt es i).w + 1) % p : Nat) : Int))] →
            (Same H (upd H4 d (.dK (putK kvs (.inl ((((stAt es i).w + 1) % p : Nat) : Int)) (.int (((stAt es i).w + 1 : Nat) : Int))))) ∧ (∃ kvs', (upd H4 d (.dK (putK kvs (.inl ((((stAt es i).w + 1) % p : Nat) : Int)) (.int (((stAt es i).w + 1 : Nat) : Int))))) d = some (.dK kvs') ∧ kvs'.length ≤ i + 1 ∧ RingOk kvs' (stAt es (i + 1)).w p) ∧
              (∀ j, j < i + 1 → bad es p j = false) ∧ ∃ v6 v7 v8 W S G, W = ((stAt es (i + 1)).w : Int) ∧ S = ((stAt es (i + 1)).s : Int) ∧ G = ((stAt es (i + 1)).g : Int) + 1 ∧ σ' = [some (.ref a), some (.int (p : Int)), some (.ref d), some (.int W), some (.int S), some (.int G), v6, v7, v8]) := fun hb σ' hσ => by
          refine ⟨fun b o e => ?_, ⟨_, upd_same, ?_, ?_⟩, next hb, _, _, _, _, _, _, ?_, ?_, ?_, hσ⟩
          · rw [upd_ne (ne_of_none e hd)]
            exact s4 _ _ e
          · have := length_putK kvs (.inl ((((stAt es i).w + 1) % p : Nat) : Int)) (.int (((stAt es i).w + 1 : Nat) : Int))
            omega
          · rw [es1]
            exact ro.put hp
          · rw [es1]; rfl
          · rw [es1, hS]; rfl
          · rw [es1, hG]; rfl
        have lsz : kvs.length < sizeLine := by
          have : (2000 : Nat) ≤ sizeLine := by decide
          omega
        refine ⟨_, rfl, _, rfl, d, _, rfl, DGet.k (k := Sum.inl ((((stAt es i).w + 1) % p : Nat) : Int)) hk4, _, rfl, ?_⟩
        rw [rg]
        by_cases c : (stAt es i).w + 1 > p
        · rw [if_pos c]
          have dg : DGet H4 d (kV (Sum.inl ((((stAt es i).w + 1) % p : Nat) : Int))) (some (.int (((stAt es i).w + 1 - p : Nat) : Int))) := by
            have := DGet.k (k := Sum.inl ((((stAt es i).w + 1) % p : Nat) : Int)) hk4
            rw [rg, if_pos c] at this
            exact this
          refine iteT ⟨_, rfl, _, rfl, d, _, rfl, dg, _, rfl, _, _, rfl, rfl, _, rfl, ?_⟩
          by_cases hb : (stAt es i).w + 1 > p + (stAt es i).g
          · rw [decide_eq_true (show G ≤ (((stAt es i).w + 1 - p : Nat) : Int) by omega)]
            rw [decide_eq_true rfl, decide_eq_true hb] at bi
            refine iteT ⟨_, rfl, ?_⟩
            have := k H4 s4
            rw [full_some hi bi nb] at this
            exact this
          · rw [decide_eq_false (show ¬ G ≤ (((stAt es i).w + 1 - p : Nat) : Int) by omega)]
            rw [decide_eq_false hb, Bool.and_false] at bi
            exact iteF ⟨_, rfl, _, rfl, _, rfl, d, _, rfl, DPut.k (k := Sum.inl ((((stAt es i).w + 1) % p : Nat) : Int)) hk4 lsz, fin bi _ rfl⟩
        · rw [if_neg c]
          rw [decide_eq_false (show ¬ (stAt es i).w + 1 > p + (stAt es i).g by omega), Bool.and_false] at bi
          exact iteF ⟨_, rfl, _, rfl, _, rfl, d, _, rfl, DPut.k (k := Sum.inl ((((stAt es i).w + 1) % p : Nat) : Int)) hk4 lsz, fin bi _ rfl⟩
      | root =>
        rw [q] at es1 e3 bi
        refine ⟨_, rfl, ts[i], _, 0, .str "root", rfl, rfl, SqT.of e3, rfl, rfl, _, rfl, iteF ?_⟩
        refine ⟨_, rfl, ts[i], _, 0, .str "root", rfl, rfl, SqT.of e3, rfl, rfl, _, rfl, iteF ?_⟩
        refine ⟨_, rfl, _, _, rfl, rfl, ?_⟩
        refine ⟨s4, ⟨kvs, hk4, by omega, by rw [es1]; exact ro⟩, next (by rw [bi]; rfl), _, _, _, _, _, _, ?_, ?_, ?_, rfl⟩
        · rw [es1, hW]; rfl
        · rw [es1, hS]; rfl
        · rw [es1, hS]; rfl
      | stand n =>
        rw [q] at es1 e3 bi
        refine ⟨_, rfl, ts[i], _, 0, .str "stand", rfl, rfl, SqT.of e3, rfl, rfl, _, rfl, iteF ?_⟩
        refine ⟨_, rfl, ts[i], _, 0, .str "stand", rfl, rfl, SqT.of e3, rfl, rfl, _, rfl, iteT ?_⟩
        refine ⟨_, rfl, ts[i], _, 1, .int (n : Int), rfl, rfl, SqT.of e3, rfl, ?_⟩
        refine ⟨s4, ⟨kvs, hk4, by omega, by rw [es1]; exact ro⟩, next (by rw [bi, decide_eq_false (by intro z; cases z)]; rfl), _, _, _, _, _, _, ?_, ?_, ?_, rfl⟩
        · rw [es1, hW]; rfl
        · rw [es1]; rfl
        · rw [es1, hG]; rfl
    · rintro σ H3 ⟨s3, _, nb, v6, v7, v8, W, S, G, hW, hS, hG, rfl⟩
      have := k H3 s3
      rw [full_none nb] at this
      exact this
end
end K37
set_option Elab.async false
set_option linter.all false
set_option maxRecDepth 100000
set_option maxHeartbeats 8000000
namespace K37
open PySem PySem.Spec PyProof.Rows L2 KB
theorem refs_ne_purse {H : Hp} {q pu : Addr} {ts : List Addr} {N : Nat} (hP : Purse H pu N) (h : H q = some (.lst (ts.map V.ref))) : q ≠ pu := fun e => by
  obtain ⟨A, B, c, i, eP, _⟩ := hP
  rw [e, eP] at h
  cases ts with
  | nil => cases h
  | cons t r => cases h
section
variable {P : Program} {w : World} {K : PySem.W.Frag} {mg : Str → Option Value} {base : Heap}
abbrev s_life : Stmt := top 35
abbrev N_life : List Str := ["_law_purse_here", "_law_most", "_law_found", "_law_many", "_law_stands", "_law_turn", "_law_way"]
theorem sc_life : FnScope N_life ["_law_purse_here", "_law_most"] (defScope s_life) := ⟨rfl, rfl, rfl, by decide +kernel, rfl, by decide +kernel, by decide +kernel⟩
theorem ok_life {f : Addr} {fd : FuncData} (F : FnP K "_law_life" s_life f fd) (Z : Free mg)
    {f_draw : Addr} {d_draw : FuncData} (g_draw : mg "_law_draw" = some (.ref f_draw)) (F_draw : FnP K "_law_draw" s_draw f_draw d_draw) (G_draw : FnOk P w K mg base CX0 2 f_draw d_draw ["_law_purse_here", "_law_many"] spDraw) :
    FnOk P w K mg base CX0 3 f fd ["_law_purse_here", "_law_most"] spLife := by
  have b_draw : Binds K d_draw ["_law_purse_here", "_law_many"] [] := F_draw.bindsN fun _ _ _ _ _ _ us hl => match us, hl with | [_, _], _ => rfl
  refine F.ok sc_life (fun vs H Q E h => ?_) (fun cdv A outer s H vs Q E hr h => ?_)
  · obtain ⟨pu, mo, N, rfl, _⟩ := h
    rfl
  · obtain ⟨pu, mo, N, rfl, hmo, hP, hN, k⟩ := h
    have nd := sc_life.nd
    refine ⟨_, PSs.nox (pss_cons (ps_par3 (i := 2) (j := 3) (l := 4) rfl nd rfl rfl rfl (by decide) (by decide) (by decide) rfl rfl rfl (pa_cons (pe_lst (pa_nil)) (pa_cons (pe_int) (pa_cons (pe_int) (pa_nil)))) rfl)
      (pss_cons (ps_for PassesOwn.never rfl (pi_range1 (by rfl) Z.range (pa_cons (pe_call G_draw (hr.mono (by decide)) rfl g_draw F_draw.kp b_draw .nil pass0 (pa_cons (pv 0) (pa_cons (pe_op op_add (pv 1) (pe_int)) (pa_nil)))) (pa_nil))) (pg_name (i := 5) nd rfl (Or.inl rfl))
        (pss_cons (ps_set (i := 6) nd rfl (Or.inl rfl) (pe_call G_draw (hr.mono (by decide)) rfl g_draw F_draw.kp b_draw .nil pass0 (pa_cons (pv 0) (pa_cons (pe_int) (pa_nil)))))
      (pss_one (ps_if (pt_cmpR op_lt (pv 6) (pe_int) (nomark _)) (pss_one (ps_par (i := 2) (j := 3) rfl nd rfl rfl (by decide) rfl rfl (pa_cons (pe_op op_cat (pv 2) (pe_lst (pa_cons (pe_tup (pa_cons (pe_str) (pa_nil))) (pa_nil)))) (pa_cons (pe_op op_add (pv 3) (pe_int)) (pa_nil))) rfl)) (pss_one (ps_if (pt_cmpR op_lt (pv 6) (pe_int) (nomark _)) (pss_cons (ps_set (i := 4) nd rfl (Or.inl rfl) (pe_op op_add (pv 4) (pe_call G_draw (hr.mono (by decide)) rfl g_draw F_draw.kp b_draw .nil pass0 (pa_cons (pv 0) (pa_cons (pe_op op_add (pe_op op_sub (pv 3) (pv 4)) (pe_int)) (pa_nil))))))
      (pss_one (ps_expr (pe_bm PySem.F.plainAttrs_list PySem.F.slot_list_append PySem.F.type_list_append mt_append (pv 2) (pa_cons (pe_tup (pa_cons (pe_str) (pa_cons (pv 4) (pa_nil)))) (pa_nil)))))) (pss_one (ps_expr (pe_bm PySem.F.plainAttrs_list PySem.F.slot_list_append PySem.F.type_list_append mt_append (pv 2) (pa_cons (pe_tup (pa_cons (pe_str) (pa_nil))) (pa_nil)))))))))))
      (pss_one (ps_ret (pv 2))))), ?_⟩
    refine ⟨(by show 0 ≤ sizeLine; decide), fun q0 hq0 => ⟨_, _, _, rfl, ?_⟩⟩
    have s0 : Same H (upd H q0 (.lst [])) := Same.updf hq0
    have mx : ∀ m : Int, 1 ≤ m → m < 100 → mixes m = 1 := fun m h1 h2 => mixes_one h1 (by omega)
    refine ⟨_, rfl, _, rfl, _, _, rfl, rfl, ?_⟩
    refine ⟨pu, (mo : Int) + 1, N, rfl, by omega, log_small (by omega) (by omega), hP.same s0, by rw [mx _ (by omega) (by omega)]; omega, by rw [mx _ (by omega) (by omega)]; decide, fun r H1 r0 r1 b1 P1 => ?_⟩
    rw [mx _ (by omega) (by omega)] at P1
    obtain ⟨n, rfl⟩ : ∃ n : Nat, r = n := ⟨r.toNat, by omega⟩
    have nq0 : q0 ≠ pu := fresh_ne hP hq0
    have tn : ((n : Int)).toNat = n := Int.toNat_natCast n
    refine ⟨(n : Int), rfl, by omega, by omega, ?_⟩
    rw [tn]
    refine for_range (lo := 0) (n := n) (fun i σ H2 => But pu H H2 ∧ (∃ M, Purse H2 pu M ∧ M ≤ N + 1 + 2 * i) ∧ ∃ (q : Addr) (es : List Ev) (v5 v6 : Option V) (W S : Int), H q = none ∧ LifeAt H2 q es ∧ Valid es ∧ es.length = i ∧ W = ((stAt es es.length).w : Int) ∧ S = ((stAt es es.length).s : Int) ∧
        σ = [some (.ref pu), some (.int (mo : Int)), some (.ref q), some (.int W), some (.int S), v5, v6])
      ⟨(But.of s0).trans b1, ⟨N + 1, P1, by omega⟩, q0, [], none, none, 0, 0, hq0, ⟨[], b1 _ _ nq0 upd_same, rfl, fun i t e h => by simp at h⟩, Valid.nil, rfl, rfl, rfl, rfl⟩ ?_ ?_
    · rintro i σ H2 hi ⟨b2, ⟨M, P2, hM⟩, q, es, v5, v6, W, S, hq, hL, hV, hl, hW, hS, rfl⟩
      have od := hV.ord es.length (Nat.le_refl _)
      refine ⟨_, rfl, pu, 9, M, rfl, by decide, log_small (by decide) (by decide), P2, by rw [mx _ (by decide) (by decide)]; omega, by rw [mx _ (by decide) (by decide)]; decide, fun way H3 w0 w1 b3 P3 => ?_⟩
      rw [mx _ (by decide) (by decide)] at P3
      have hL3 := hL.but P2 b3
      obtain ⟨ts, hq3, lt, kt⟩ := id hL3
      have B3 := b2.trans b3
      have l60 : es.length < 60 := by omega
      have lsz : (ts.map V.ref).length < sizeLine := by
        rw [List.length_map]
        have : (2000 : Nat) ≤ sizeLine := by decide
        omega
      refine ⟨_, rfl, _, _, rfl, rfl, _, rfl, ?_⟩
      refine ite2 (fun c1 => ?_) (fun c1 => ?_)
      · -- a line
        refine ⟨_, rfl, (by show 1 ≤ sizeLine; decide), fun t ht => ⟨(by show 1 ≤ sizeLine; decide), fun l hl' => ?_⟩⟩
        have s4 : Same H3 (upd H3 t (.tup [.str "line"])) := Same.updf ht
        have s5 : Same (upd H3 t (.tup [.str "line"])) (upd (upd H3 t (.tup [.str "line"])) l (.lst [.ref t])) := Same.updf hl'
        have s45 := s4.trans s5
        refine ⟨q, l, _, _, rfl, rfl, s45 _ _ hq3, upd_same, by show (ts.map V.ref).length + 1 ≤ sizeLine; omega, fun q2 hq2 => ⟨_, rfl, _, _, rfl, rfl, _, _, rfl, ?_⟩⟩
        obtain ⟨H5, eH5⟩ : ∃ X, X = upd (upd H3 t (.tup [.str "line"])) l (.lst [.ref t]) := ⟨_, rfl⟩
        rw [← eH5] at s5 s45 hq2 ⊢
        have s6 : Same H5 (upd H5 q2 (.lst (ts.map V.ref ++ [.ref t]))) := Same.updf hq2
        have s36 := s45.trans s6
        have tt : (upd H5 q2 (.lst (ts.map V.ref ++ [.ref t]))) t = some (.tup Ev.line.v) := s6 _ _ (s5 _ _ upd_same)
        have b6 := B3.trans (But.of s36)
        have P6 := P3.same s36
        have n2 : q2 ≠ pu := fresh_ne (P3.same s45) hq2
        refine ⟨b6, ⟨M + 1, P6, by omega⟩, q2, es ++ [.line], _, _, _, _, (B3.trans (But.of s45)).none n2 hq2, LifeAt.snoc lt (fun j u e e1 e2 => s36 _ _ (kt j u e e1 e2)) upd_same tt, hV.snoc l60 (fun m z => nomatch z), by rw [List.length_append, hl]; rfl, ?_, ?_, rfl⟩
        · rw [stAt_snoc, hW]; rfl
        · rw [stAt_snoc, hS]; rfl
      · refine ⟨_, rfl, _, _, rfl, rfl, _, rfl, ?_⟩
        have put : ∀ (e : Ev) (t : Addr) (H4 : Hp) (M4 : Nat), But pu H3 H4 → Purse H4 pu M4 → M4 ≤ N + 1 + 2 * (i + 1) → H4 t = none → (∀ m, e = .stand m → (stAt es es.length).s ≤ m ∧ m ≤ (stAt es es.length).w) → ∀ (S' : Int), S' = ((stAt (es ++ [e]) (es ++ [e]).length).s : Int) → W = ((stAt (es ++ [e]) (es ++ [e]).length).w : Int) → ∀ (a5 a6 : Option V),
            (But pu H (upd (upd H4 t (.tup e.v)) q (.lst (ts.map V.ref ++ [.ref t]))) ∧ (∃ M, Purse (upd (upd H4 t (.tup e.v)) q (.lst (ts.map V.ref ++ [.ref t]))) pu M ∧ M ≤ N + 1 + 2 * (i + 1)) ∧ ∃ (q' : Addr) (es' : List Ev) (v5 v6 : Option V) (W' S'' : Int), H q' = none ∧ LifeAt (upd (upd H4 t (.tup e.v)) q (.lst (ts.map V.ref ++ [.ref t]))) q' es' ∧ Valid es' ∧ es'.length = i + 1 ∧
              W' = ((stAt es' es'.length).w : Int) ∧ S'' = ((stAt es' es'.length).s : Int) ∧ [some (V.ref pu), some (.int (mo : Int)), some (.ref q), some (.int W), some (.int S'), a5, a6] = [some (.ref pu), some (.int (mo : Int)), some (.ref q'), some (.int W'), some (.int S''), v5, v6]) := by
          intro e t H4 M4 b4 P4 l4 ht4 hv S' hS' hW' a5 a6
          have s5 : Same H4 (upd H4 t (.tup e.v)) := Same.updf ht4
          have nq : q ≠ pu := refs_ne_purse P3 hq3
          have q4 := b4 _ _ nq hq3
          have q5 := s5 _ _ q4
          have ntq : t ≠ q := fun z => by
            rw [z] at ht4
            rw [ht4] at q4
            cases q4
          have P5 := P4.same s5
          refine ⟨fun b o n e => ?_, ⟨M4, Purse.same' (by rw [upd_ne (Ne.symm nq)]) P5, l4⟩, q, es ++ [e], _, _, _, _, hq, LifeAt.snoc lt (fun j u f e1 e2 => ?_) upd_same ?_, hV.snoc l60 hv, by rw [List.length_append, hl]; rfl, hW', hS', rfl⟩
          · rw [upd_ne (ne_of_none e hq)]
            exact s5 _ _ (b4 _ _ n (B3 _ _ n e))
          · have h3 := kt j u f e1 e2
            have nu : u ≠ pu := fun z => by
              obtain ⟨A, B, c, i0, eP, _⟩ := P3
              rw [z, eP] at h3
              cases h3
            have nuq : u ≠ q := fun z => by
              rw [z, hq3] at h3
              cases h3
            rw [upd_ne nuq]
            exact s5 _ _ (b4 _ _ nu h3)
          · rw [upd_ne ntq]
            exact upd_same
        refine ite2 (fun c2 => ?_) (fun c2 => ?_)
        · -- a line that stands
          have m1 : 1 ≤ W - S + 1 := by omega
          have m2 : W - S + 1 < 100 := by omega
          refine ⟨_, rfl, _, rfl, _, rfl, _, rfl, _, _, rfl, rfl, _, _, rfl, rfl, ?_⟩
          refine ⟨pu, W - S + 1, M + 1, rfl, m1, log_small m1 (by omega), P3, by rw [mx _ m1 m2]; omega, by rw [mx _ m1 m2]; decide, fun r H4 r0 r1 b4 P4 => ⟨_, _, rfl, rfl, ?_⟩⟩
          rw [mx _ m1 m2] at P4
          obtain ⟨sn, hsn⟩ : ∃ sn : Nat, S + r = sn := ⟨(S + r).toNat, by omega⟩
          have nq : q ≠ pu := refs_ne_purse P3 hq3
          refine ⟨_, rfl, Or.inl ⟨rfl, _, SqL.of (b4 _ _ nq hq3)⟩, _, rfl, (by show 2 ≤ sizeLine; decide), fun t ht => ?_⟩
          have s5 : Same H4 (upd H4 t (.tup [.str "stand", .int (S + r)])) := Same.updf ht
          refine ⟨q, _, _, rfl, rfl, s5 _ _ (b4 _ _ nq hq3), lsz, ?_⟩
          have := put (.stand sn) t H4 (M + 1 + 1) b4 P4 (by omega) ht (fun m z => by cases z; omega) (S + r) (by rw [stAt_snoc, hsn]; rfl) (by rw [stAt_snoc, hW]; rfl) (some (.int (0 + (i : Int)))) (some (.int way))
          have ev : (Ev.stand sn).v = [.str "stand", .int (S + r)] := by rw [hsn]; rfl
          rw [ev] at this
          exact this
        · refine ⟨_, rfl, Or.inl ⟨rfl, _, SqL.of hq3⟩, (by show 1 ≤ sizeLine; decide), fun t ht => ?_⟩
          have s5 : Same H3 (upd H3 t (.tup [.str "root"])) := Same.updf ht
          refine ⟨q, _, _, rfl, rfl, s5 _ _ hq3, lsz, ?_⟩
          exact put .root t H3 (M + 1) (But.refl _ _) P3 (by omega) ht (fun m z => nomatch z) S (by rw [stAt_snoc, hS]; rfl) (by rw [stAt_snoc, hW]; rfl) (some (.int (0 + (i : Int)))) (some (.int way))
    · rintro σ H2 ⟨b2, ⟨M, P2, hM⟩, q, es, v5, v6, W, S, hq, hL, hV, hl, hW, hS, rfl⟩
      exact ⟨_, rfl, k q es H2 M b2 hq (fun e => by obtain ⟨ts, h1, _⟩ := id hL; exact refs_ne_purse P2 h1 e) hL hV (by omega) P2 (by omega)⟩
end
end K37
set_option Elab.async false
set_option linter.all false
set_option maxRecDepth 100000
set_option maxHeartbeats 16000000
namespace K37
open PySem PySem.Spec PyProof.Rows L2 KB
theorem full_iff (es : List Ev) (p : Nat) : (full es p).isNone = true ↔ ∀ i, i < es.length → isL es i = true → (stAt es i).w + 1 ≤ p + (stAt es i).g := by
  unfold full
  rw [Option.isNone_iff_eq_none, List.find?_eq_none]
  constructor
  · intro h i hi hl
    have := h i (List.mem_range.mpr hi)
    unfold bad at this
    rw [hl, Bool.true_and, decide_eq_true_eq] at this
    omega
  · intro h i hi
    unfold bad
    intro z
    obtain ⟨z1, z2⟩ := Bool.and_eq_true_iff.mp z
    have := h i (List.mem_range.mp hi) z1
    have := of_decide_eq_true z2
    omega
theorem least_spec {es : List Ev} {m : Int} (hV : Valid es) (h : IsLeast es m) : 1 ≤ m ∧ (m ≤ 1 ∨ m ≤ (es.length : Int)) ∧ ∀ p : Nat, 1 ≤ p → ((full es p).isNone = true ↔ m ≤ (p : Int)) := by
  by_cases e : lp es = []
  · have hm := h.no e
    refine ⟨by omega, .inl (by omega), fun p hp => ?_⟩
    rw [full_iff]
    refine ⟨fun _ => by omega, fun _ i hi hl => ?_⟩
    have : i ∈ lp es := by
      unfold lp
      rw [List.mem_filter, List.mem_range]
      exact ⟨hi, hl⟩
    rw [e] at this
    cases this
  · obtain ⟨i, hi, hl, hm⟩ := h.ex e
    have od := hV.ord i (Nat.le_of_lt hi)
    refine ⟨by omega, .inr (by omega), fun p hp => ?_⟩
    rw [full_iff]
    constructor
    · intro k
      have := k i hi hl
      omega
    · intro k j hj hlj
      have := h.le j hj hlj
      omega
theorem fm_first {f : Nat → Option V} {n i : Nat} {v : V} (hi : i < n) (h : f i = some v) (k : ∀ j, j < i → f j = none) : ((List.range n).filterMap f)[0]? = some v := by
  have e1 : List.range n = List.range i ++ (i :: (List.range n).drop (i + 1)) := by
    conv => lhs; rw [← List.take_append_drop i (List.range n)]
    congr 1
    · rw [List.take_range, Nat.min_eq_left (by omega)]
    · rw [List.drop_eq_getElem_cons (by rw [List.length_range]; exact hi), List.getElem_range]
  have e2 : (List.range i).filterMap f = [] := by
    rw [List.filterMap_eq_nil_iff]
    intro j hj
    exact k j (List.mem_range.mp hj)
  rw [e1, List.filterMap_append, e2, List.nil_append, List.filterMap_cons, h]
  rfl
/-- the first count of places that does -/
theorem first_fit {es : List Ev} (hV : Valid es) (h14 : es.length ≤ 14) : ∃ v : Nat, 1 ≤ v ∧ v ≤ 15 ∧ (full es v).isNone = true ∧ ∀ p, 1 ≤ p → p < v → (full es p).isNone = false := by
  have h15 : (full es 15).isNone = true := by
    rw [full_iff]
    intro i hi _
    have := hV.ord i (Nat.le_of_lt hi)
    omega
  have step : ∀ k, k ≤ 14 → (∃ v : Nat, 1 ≤ v ∧ v ≤ 15 ∧ (full es v).isNone = true ∧ ∀ p, 1 ≤ p → p < v → (full es p).isNone = false) ∨ ∀ p, 1 ≤ p → p ≤ k → (full es p).isNone = false := by
    intro k
    induction k with
    | zero => exact fun _ => .inr fun p a b => by omega
    | succ k ih =>
      intro hk
      rcases ih (by omega) with q | q
      · exact .inl q
      · cases c : (full es (k + 1)).isNone with
        | true => exact .inl ⟨k + 1, by omega, by omega, c, fun p a b => q p a (by omega)⟩
        | false =>
          refine .inr fun p a b => ?_
          rcases Nat.lt_or_ge p (k + 1) with z | z
          · exact q p a (by omega)
          · rw [show p = k + 1 by omega]
            exact c
  rcases step 14 (Nat.le_refl _) with q | q
  · exact q
  · exact ⟨15, by omega, by omega, h15, fun p a b => q p a (by omega)⟩
def optD : Option Nat → PyData
  | none => .none
  | some i => .int (i : Int)
theorem optFlat (o : Option Nat) : FlatD (optV o) (optD o) := by
  cases o
  · exact .non
  · exact .int _
theorem opt_non (o : Option Nat) : decide (optV o = V.non) = o.isNone := by
  cases o <;> rfl
def rgD (a b : Int) : List PyData := (List.range (b - a).toNat).map fun i => .int (a + (i : Nat))
theorem rg_tr {H : Hp} {q : Addr} {a b : Int} (n : Nat) (h : H q = some (.lst (rgV a b))) (l : (b - a).toNat ≤ 1000) : Tr H (n + 1) (.ref q) (.list (rgD a b)) := by
  refine Tr.lst h (by rw [rgV_length]; simp [rgD]) (by simp [rgD]; omega) fun i u e e1 e2 => ?_
  unfold rgV at e1
  unfold rgD at e2
  rw [List.getElem?_map] at e1 e2
  obtain ⟨j, q1, rfl⟩ := Option.map_eq_some_iff.mp e1
  obtain ⟨j', q2, rfl⟩ := Option.map_eq_some_iff.mp e2
  rw [q1] at q2
  cases q2
  exact Tr.flat (.int _)
theorem eqv_life : ∀ es : List Ev, PyData.eqvAll (es.map Ev.d) (es.map Ev.d) = true
  | [] => by simp [PyData.eqvAll]
  | e :: es => by
    have h1 : PyData.eqv e.d e.d = true := by cases e <;> simp [Ev.d, PyData.eqv, PyData.eqvAll]
    show PyData.eqvAll (e.d :: es.map Ev.d) (e.d :: es.map Ev.d) = true
    simp only [PyData.eqvAll, h1, eqv_life es, Bool.and_self]
theorem LifeAt.copy {H H' : Hp} {a q : Addr} {es : List Ev} {xs : List V} (h : LifeAt H a es) (ha : H a = some (.lst xs)) (k : Same H H') (hq : H' q = some (.lst xs)) : LifeAt H' q es := by
  obtain ⟨ts, h1, h2, h3⟩ := h
  rw [ha] at h1
  cases h1
  exact ⟨ts, hq, h2, fun i t e e1 e2 => k _ _ (h3 i t e e1 e2)⟩
def spRight : Sp := fun vs H Q _ => ∃ (a : Addr) (es : List Ev), vs = [.ref a] ∧ LifeAt H a es ∧ Valid es ∧ es.length ≤ 14 ∧ ∀ H', Same H H' → Q (.bl true) H'
section
variable {P : Program} {w : World} {K : PySem.W.Frag} {mg : Str → Option Value} {base : Heap}
abbrev s_life_right : Stmt := top 38
abbrev N_life_right : List Str := ["_law_life_here", "_law_handed", "_law_places", "_law_due", "_law_least", "_law_moment", "_law_gone_here", "_law_told"]
theorem sc_life_right : FnScope N_life_right ["_law_life_here"] (defScope s_life_right) := ⟨rfl, rfl, rfl, by decide +kernel, rfl, by decide +kernel, by decide +kernel⟩
theorem ok_life_right {f : Addr} {fd : FuncData} (F : FnP K "_law_life_right" s_life_right f fd) (Z : Free mg)
    {f_ring_walk : Addr} {d_ring_walk : FuncData} (g_ring_walk : mg "_law_ring_walk" = some (.ref f_ring_walk)) (F_ring_walk : FnP K "_law_ring_walk" s_ring_walk f_ring_walk d_ring_walk) (G_ring_walk : FnOk P w K mg base CX0 1 f_ring_walk d_ring_walk ["_law_life_here", "_law_places"] spRing)
    {f_exact : Addr} {d_exact : FuncData} (g_exact : mg "_law_exact" = some (.ref f_exact)) (F_exact : FnP K "_law_exact" s_exact f_exact d_exact) (GA_exact : ∀ n : Nat, FnOk P w K mg base CX0 (n + 1) f_exact d_exact ["_law_mine", "_law_theirs"] (spExact n))
    {f_gone : Addr} {d_gone : FuncData} (g_gone : mg "_law_gone" = some (.ref f_gone)) (F_gone : FnP K "_law_gone" s_gone f_gone d_gone) (G_gone : FnOk P w K mg base CX0 1 f_gone d_gone ["_law_life_here", "_law_moment"] spGoneL)
    {f_still_needed : Addr} {d_still_needed : FuncData} (g_still_needed : mg "still_needed" = some (.ref f_still_needed)) (F_still_needed : FnP K "still_needed" s_still_needed f_still_needed d_still_needed) (G_still_needed : FnOk P w K mg base CX0 8 f_still_needed d_still_needed ["life", "moment"] spStill)
    {f_least_places : Addr} {d_least_places : FuncData} (g_least_places : mg "least_places" = some (.ref f_least_places)) (F_least_places : FnP K "least_places" s_least_places f_least_places d_least_places) (G_least_places : FnOk P w K mg base CX0 7 f_least_places d_least_places ["life"] spLeast)
    {f_fits : Addr} {d_fits : FuncData} (g_fits : mg "fits" = some (.ref f_fits)) (F_fits : FnP K "fits" s_fits f_fits d_fits) (G_fits : FnOk P w K mg base CX0 8 f_fits d_fits ["life", "places"] spFits)
    {f_first_full : Addr} {d_first_full : FuncData} (g_first_full : mg "first_full" = some (.ref f_first_full)) (F_first_full : FnP K "first_full" s_first_full f_first_full d_first_full) (G_first_full : FnOk P w K mg base CX0 8 f_first_full d_first_full ["life", "places"] spFirst)
    {f_given_up : Addr} {d_given_up : FuncData} (g_given_up : mg "given_up" = some (.ref f_given_up)) (F_given_up : FnP K "given_up" s_given_up f_given_up d_given_up) (G_given_up : FnOk P w K mg base CX0 8 f_given_up d_given_up ["life", "moment"] spGivenUp) :
    FnOk P w K mg base CX0 9 f fd ["_law_life_here"] spRight := by
  have b_ring_walk : Binds K d_ring_walk ["_law_life_here", "_law_places"] [] := F_ring_walk.bindsN fun _ _ _ _ _ _ us hl => match us, hl with | [_, _], _ => rfl
  have b_exact : Binds K d_exact ["_law_mine", "_law_theirs"] [] := F_exact.bindsN fun _ _ _ _ _ _ us hl => match us, hl with | [_, _], _ => rfl
  have b_gone : Binds K d_gone ["_law_life_here", "_law_moment"] [] := F_gone.bindsN fun _ _ _ _ _ _ us hl => match us, hl with | [_, _], _ => rfl
  have b_still_needed : Binds K d_still_needed ["life", "moment"] [] := F_still_needed.bindsN fun _ _ _ _ _ _ us hl => match us, hl with | [_, _], _ => rfl
  have b_least_places : Binds K d_least_places ["life"] [] := F_least_places.bindsN fun _ _ _ _ _ _ us hl => match us, hl with | [_], _ => rfl
  have b_fits : Binds K d_fits ["life", "places"] [] := F_fits.bindsN fun _ _ _ _ _ _ us hl => match us, hl with | [_, _], _ => rfl
  have b_first_full : Binds K d_first_full ["life", "places"] [] := F_first_full.bindsN fun _ _ _ _ _ _ us hl => match us, hl with | [_, _], _ => rfl
  have b_given_up : Binds K d_given_up ["life", "moment"] [] := F_given_up.bindsN fun _ _ _ _ _ _ us hl => match us, hl with | [_, _], _ => rfl
  refine F.ok sc_life_right (fun vs H Q E h => ?_) (fun cdv A outer s H vs Q E hr h => ?_)
  · obtain ⟨a, es, rfl, _⟩ := h
    rfl
  · obtain ⟨a, es, rfl, hL, hV, h14, k⟩ := h
    obtain ⟨ts, ha, lt, ht⟩ := id hL
    have l60 := hV.len
    have hu : _ + 65 < cLine := Nat.lt_of_le_of_lt (Nat.add_le_add_left (by decide : 65 ≤ 200) _) (Nat.lt_of_le_of_lt (Nat.add_le_add_right (Nat.le_add_right _ _) _) hr.un)
    have nd := sc_life_right.nd
    refine ⟨_, PSs.nox (pss_cons (ps_set (i := 1) nd rfl (Or.inl rfl) (pe_callTy call_list_of (by rfl) Z.tlist (by decide +kernel) (pa_cons (pv 0) (pa_nil))))
      (pss_cons (ps_for PassesOwn.never rfl (pi_range2 (by rfl) Z.range (pa_cons (pe_int) (pa_cons (pe_int) (pa_nil)))) (pg_name (i := 2) nd rfl (Or.inl rfl))
        (pss_cons (ps_set (i := 3) nd rfl (Or.inl rfl) (pe_call G_ring_walk (hr.mono (by decide)) rfl g_ring_walk F_ring_walk.kp b_ring_walk .nil pass0 (pa_cons (pv 0) (pa_cons (pv 2) (pa_nil)))))
      (pss_one (ps_if (pt_not (pt_val (pe_call (GA_exact 3) (hr.mono (by decide)) rfl g_exact F_exact.kp b_exact .nil pass0 (pa_cons (pe_lst (pa_cons (pe_call G_fits (hr.mono (by decide)) rfl g_fits F_fits.kp b_fits .nil pass0 (pa_cons (pv 1) (pa_cons (pv 2) (pa_nil)))) (pa_cons (pe_call G_first_full (hr.mono (by decide)) rfl g_first_full F_first_full.kp b_first_full .nil pass0 (pa_cons (pv 1) (pa_cons (pv 2) (pa_nil)))) (pa_cons (pv 1) (pa_nil))))) (pa_cons (pe_lst (pa_cons (pe_cmpR op_isN (pv 3) (pe_non) (nomark _)) (pa_cons (pv 3) (pa_cons (pv 0) (pa_nil))))) (pa_nil)))))) (pss_one (ps_ret (pe_bl))) (pss_nil)))))
      (pss_cons (ps_set (i := 4) nd rfl (Or.inl rfl) (pe_ix ix_list (pe_lc (own := [("_law_places", 2)]) (g := gName 2) (tt := tTest (tOp (fun x y H Q => y = .non ∧ Q (.bl (decide (x = .non))) H) (tCall spRing [] E0 (tCons (tVar 0) (tCons (tVar 2) tNil))) (tC .non))) (te := tVar 2) (by rfl) nd (pi_range2 (by rfl) Z.range (pa_cons (pe_int) (pa_cons (pe_int) (pa_nil))))
          (blkOk_by (own := [("_law_places", 2)]) (N := N_life_right) (sc := defScope s_life_right) (by decide +kernel)) (fun _ _ _ _ _ => pg_name (i := 2) nd rfl (Or.inl rfl)) (fun _ _ _ _ _ => pts_one (pt_cmpR op_isN (pe_call G_ring_walk (hr.mono (by decide)) rfl g_ring_walk F_ring_walk.kp b_ring_walk .nil pass0 (pa_cons (pv 0) (pa_cons (pv 2) (pa_nil)))) (pe_non) (nomark _)))
          (fun _ _ _ _ _ => pv 2)) (pe_int) (fun _ _ => rfl)))
      (pss_cons (ps_if (pt_not (pt_val (pe_call (GA_exact 3) (hr.mono (by decide)) rfl g_exact F_exact.kp b_exact .nil pass0 (pa_cons (pe_lst (pa_cons (pe_call G_least_places (hr.mono (by decide)) rfl g_least_places F_least_places.kp b_least_places .nil pass0 (pa_cons (pv 1) (pa_nil))) (pa_cons (pe_call G_fits (hr.mono (by decide)) rfl g_fits F_fits.kp b_fits .nil pass0 (pa_cons (pv 0) (pa_cons (pv 4) (pa_nil)))) (pa_cons (pe_call G_first_full (hr.mono (by decide)) rfl g_first_full F_first_full.kp b_first_full .nil pass0 (pa_cons (pv 0) (pa_cons (pe_int) (pa_nil)))) (pa_nil))))) (pa_cons (pe_lst (pa_cons (pv 4) (pa_cons (pe_bl) (pa_cons (pe_non) (pa_nil))))) (pa_nil)))))) (pss_one (ps_ret (pe_bl))) (pss_nil))
      (pss_cons (ps_for PassesOwn.never rfl (pi_range1 (by rfl) Z.range (pa_cons (pe_op op_add (pe_callB call_len_seq (by rfl) Z.len (by decide +kernel) (pa_cons (pv 0) (pa_nil))) (pe_int)) (pa_nil))) (pg_name (i := 5) nd rfl (Or.inl rfl))
        (pss_cons (ps_set (i := 6) nd rfl (Or.inl rfl) (pe_call G_gone (hr.mono (by decide)) rfl g_gone F_gone.kp b_gone .nil pass0 (pa_cons (pv 0) (pa_cons (pv 5) (pa_nil)))))
      (pss_cons (ps_set (i := 3) nd rfl (Or.inl rfl) (pe_listRg rfl (by rfl) Z.tlist (prg_2 (by rfl) Z.range (pe_op op_add (pv 6) (pe_int)) (pe_op op_add (pe_bm PySem.F.plainAttrs_list PySem.F.slot_list_count PySem.F.type_list_count (mt_countD hu) (pe_slice sl_list (pv 0) (po_none) (po_some (pv 5))) (pa_cons (pe_tup (pa_cons (pe_str) (pa_nil))) (pa_nil))) (pe_int)))))
      (pss_cons (ps_set (i := 7) nd rfl (Or.inl rfl) (pe_call G_still_needed (hr.mono (by decide)) rfl g_still_needed F_still_needed.kp b_still_needed .nil pass0 (pa_cons (pv 1) (pa_cons (pv 5) (pa_nil)))))
      (pss_cons (ps_if (pt_not (pt_val (pe_call (GA_exact 3) (hr.mono (by decide)) rfl g_exact F_exact.kp b_exact .nil pass0 (pa_cons (pe_lst (pa_cons (pe_call G_given_up (hr.mono (by decide)) rfl g_given_up F_given_up.kp b_given_up .nil pass0 (pa_cons (pv 1) (pa_cons (pv 5) (pa_nil)))) (pa_cons (pv 7) (pa_nil)))) (pa_cons (pe_lst (pa_cons (pv 6) (pa_cons (pv 3) (pa_nil)))) (pa_nil)))))) (pss_one (ps_ret (pe_bl))) (pss_nil))
      (pss_cons (ps_expr (pe_bm PySem.F.plainAttrs_list PySem.F.slot_list_append PySem.F.type_list_append mt_append (pv 7) (pa_cons (pe_non) (pa_nil))))
      (pss_one (ps_if (pt_not (pt_val (pe_call (GA_exact 3) (hr.mono (by decide)) rfl g_exact F_exact.kp b_exact .nil pass0 (pa_cons (pe_call G_still_needed (hr.mono (by decide)) rfl g_still_needed F_still_needed.kp b_still_needed .nil pass0 (pa_cons (pv 1) (pa_cons (pv 5) (pa_nil)))) (pa_cons (pv 3) (pa_nil)))))) (pss_one (ps_ret (pe_bl))) (pss_nil)))))))))
      (pss_one (ps_ret (pe_cmpR (op_eqD hr.units) (pv 1) (pv 0) (nomark _))))))))), ?_⟩
    refine ⟨_, rfl, a, _, rfl, Or.inl (SqL.of ha), fun h0 hh0 => ?_⟩
    have s1 : Same H (upd H h0 (.lst (ts.map V.ref))) := Same.updf hh0
    have hL1 : LifeAt (upd H h0 (.lst (ts.map V.ref))) h0 es := hL.copy ha s1 upd_same
    obtain ⟨H1, eH1⟩ : ∃ X, X = upd H h0 (.lst (ts.map V.ref)) := ⟨_, rfl⟩
    rw [← eH1] at s1 hL1 ⊢
    have hA1 := hL.same s1
    refine ⟨1, 7, rfl, ⟨by omega, by omega, by omega, by omega⟩, ?_⟩
    refine for_range (lo := 1) (n := 6) (fun i σ H2 => Same H1 H2 ∧ ∃ v2 v3 v4 v5 v6 v7, σ = [some (.ref a), some (.ref h0), v2, v3, v4, v5, v6, v7]) ⟨Same.refl _, _, _, _, _, _, _, rfl⟩ ?_ ?_
    · rintro i σ H2 hi ⟨s2, v2, v3, v4, v5, v6, v7, rfl⟩
      have ep : (1 + (i : Int)) = ((1 + i : Nat) : Int) := by omega
      rw [ep]
      refine ⟨_, rfl, _, rfl, a, es, 1 + i, rfl, hA1.same s2, l60, by omega, by omega, fun H3 s3 => ?_⟩
      have s23 := s2.trans s3
      refine ⟨_, rfl, _, rfl, h0, es, 1 + i, rfl, hL1.same s23, hV, by omega, fun H4 s4 => ?_⟩
      have s24 := s23.trans s4
      refine ⟨_, rfl, _, rfl, h0, es, 1 + i, rfl, hL1.same s24, hV, by omega, fun H5 s5 => ?_⟩
      have s25 := s24.trans s5
      refine ⟨_, rfl, (by show 3 ≤ sizeLine; decide), fun l1 hl1 => ?_⟩
      have s6 : Same H5 (upd H5 l1 (.lst [.bl (full es (1 + i)).isNone, optV (full es (1 + i)), .ref h0])) := Same.updf hl1
      refine ⟨_, rfl, rfl, _, rfl, _, rfl, (by show 3 ≤ sizeLine; decide), fun l2 hl2 => ?_⟩
      obtain ⟨H6, eH6⟩ : ∃ X, X = upd H5 l1 (.lst [.bl (full es (1 + i)).isNone, optV (full es (1 + i)), .ref h0]) := ⟨_, rfl⟩
      have e6 : H6 l1 = some (.lst [.bl (full es (1 + i)).isNone, optV (full es (1 + i)), .ref h0]) := by rw [eH6]; exact upd_same
      rw [← eH6] at s6 hl2 ⊢
      have s7 : Same H6 (upd H6 l2 (.lst [.bl (decide (optV (full es (1 + i)) = V.non)), optV (full es (1 + i)), .ref a])) := Same.updf hl2
      have s27 := s25.trans (s6.trans s7)
      refine ⟨.ref l1, .ref l2, .list [.bool (full es (1 + i)).isNone, optD (full es (1 + i)), .list (es.map Ev.d)], rfl, ?_, ?_, fun H8 s8 => ⟨true, rfl, iteF ⟨s27.trans s8, _, _, _, _, _, _, rfl⟩⟩⟩
      · exact Tr.lst (s7 _ _ e6) rfl (Nat.le_of_ble_eq_true rfl) (tr_cons (Tr.flat (.bl _)) (tr_cons (Tr.flat (optFlat _)) (tr_cons ((hL1.same s27).tr 0 (by omega)) tr_nil)))
      · refine Tr.lst upd_same rfl (Nat.le_of_ble_eq_true rfl) (tr_cons (Tr.flat ?_) (tr_cons (Tr.flat (optFlat _)) (tr_cons ((hA1.same s27).tr 0 (by omega)) tr_nil)))
        rw [opt_non]
        exact .bl _
    · rintro σ H2 ⟨s2, v2, v3, v4, v5, v6, v7, rfl⟩
      obtain ⟨v0, hv1, hv2, hv3, hv4⟩ := first_fit hV h14
      refine via_nx (via_seq (via_asg ?_))
      refine ⟨1, 16, rfl, ⟨by omega, by omega, by omega, by omega⟩, fun D hD => ?_⟩
      refine lc_sel (walk_range (lo := 1) (n := 15)) (fun i => if (full es (1 + i)).isNone = true then some (.int ((1 + i : Nat) : Int)) else none) (by decide) hD (fun _ _ => trivial) ?_ ?_
      · rintro i v H3 H4 Qy Qn hi s3 ⟨rfl, hv⟩ ky kn
        have ep : (1 + (i : Int)) = ((1 + i : Nat) : Int) := by omega
        obtain rfl : v = .int ((1 + i : Nat) : Int) := hv.trans (congrArg V.int ep)
        refine ⟨rfl, _, rfl, _, rfl, a, es, 1 + i, rfl, (hA1.same s2).same s3, l60, by omega, by omega, fun H5 s5 => ⟨rfl, _, rfl, ?_⟩⟩
        rw [opt_non]
        cases c : (full es (1 + i)).isNone with
        | true => exact iteT ⟨_, rfl, ky _ _ s5 (by rw [if_pos c])⟩
        | false => exact iteF (kn _ s5 (by rw [if_neg (by rw [c]; exact Bool.false_ne_true)]))
      · intro H3 s3 hR
        have s13 := s2.trans s3
        have hd : ((List.range 15).filterMap fun i => if (full es (1 + i)).isNone = true then some (V.int ((1 + i : Nat) : Int)) else none)[0]? = some (.int (v0 : Int)) := by
          refine fm_first (i := v0 - 1) (by omega) ?_ fun j hj => ?_
          · rw [show 1 + (v0 - 1) = v0 by omega, if_pos hv3]
          · rw [if_neg (by rw [hv4 (1 + j) (by omega) (by omega)]; exact Bool.false_ne_true)]
        refine ⟨D, _, 0, _, rfl, rfl, SqL.of hR, atI_nat (j := 0) hd, ?_⟩
        refine ⟨_, rfl, h0, es, rfl, hL1.same s13, hV, fun m H4 s4 hm => ?_⟩
        obtain ⟨m1, m2, m3⟩ := least_spec hV hm
        have em : m = (v0 : Int) := by
          have a1 := (m3 v0 hv1).mp hv3
          rcases Int.lt_or_le m (v0 : Int) with q | q
          · obtain ⟨mn, rfl⟩ : ∃ mn : Nat, m = mn := ⟨m.toNat, by omega⟩
            have b1 := (m3 mn (by omega)).mpr (Int.le_refl _)
            rw [hv4 mn (by omega) (by omega)] at b1
            cases b1
          · omega
        subst em
        have s14 := s13.trans s4
        refine ⟨_, rfl, _, rfl, a, es, v0, rfl, hA1.same s14, hV, hv1, fun H5 s5 => ?_⟩
        rw [hv3]
        have s15 := s14.trans s5
        refine ⟨_, rfl, a, es, 60, rfl, hA1.same s15, hV, by decide, fun H6 s6 => ?_⟩
        have f60 : full es 60 = none := Option.isNone_iff_eq_none.mp ((m3 60 (by decide)).mpr (by omega))
        rw [f60]
        have s16 := s15.trans s6
        refine ⟨(by show 3 ≤ sizeLine; decide), fun l1 hl1 => ?_⟩
        have s7 : Same H6 (upd H6 l1 (.lst [.int (v0 : Int), .bl true, .non])) := Same.updf hl1
        refine ⟨_, rfl, (by show 3 ≤ sizeLine; decide), fun l2 hl2 => ?_⟩
        have s8 : Same (upd H6 l1 (.lst [.int (v0 : Int), .bl true, .non])) (upd (upd H6 l1 (.lst [.int (v0 : Int), .bl true, .non])) l2 (.lst [.int (v0 : Int), .bl true, .non])) := Same.updf hl2
        refine ⟨.ref l1, .ref l2, .list [.int (v0 : Int), .bool true, .none], rfl, Tr.lst (s8 _ _ upd_same) rfl (Nat.le_of_ble_eq_true rfl) (tr_cons (Tr.flat (.int _)) (tr_cons (Tr.flat (.bl _)) (tr_cons (Tr.flat .non) tr_nil))), Tr.lst upd_same rfl (Nat.le_of_ble_eq_true rfl) (tr_cons (Tr.flat (.int _)) (tr_cons (Tr.flat (.bl _)) (tr_cons (Tr.flat .non) tr_nil))), fun H9 s9 => ⟨true, rfl, iteF ?_⟩⟩
        have s19 := s16.trans (s7.trans (s8.trans s9))
        have hA9 := hA1.same s19
        obtain ⟨ts9, ha9, lt9, ht9⟩ := id hA9
        refine ⟨_, rfl, a, _, rfl, Or.inl (SqL.of ha9), _, _, rfl, rfl, ?_⟩
        rw [List.length_map, lt9]
        refine ⟨_, rfl, by omega, by omega, ?_⟩
        have tn : ((es.length : Int) + 1).toNat = es.length + 1 := by omega
        rw [tn]
        refine for_range (lo := 0) (n := es.length + 1) (fun i σ H2 => Same H9 H2 ∧ ∃ v2 v3 v4 v5 v6 v7, σ = [some (.ref a), some (.ref h0), v2, v3, v4, v5, v6, v7]) ⟨Same.refl _, _, _, _, _, _, _, rfl⟩ ?_ ?_
        · rintro i σ Hx hi ⟨sx, u2, u3, u4, u5, u6, u7, rfl⟩
          rw [Int.zero_add]
          have s1x := s19.trans sx
          have hAx := hA1.same s1x
          have od := hV.ord i (by omega)
          refine ⟨_, rfl, _, rfl, a, es, i, rfl, hAx, l60, by omega, fun Hy sy => ?_⟩
          have hAy := hAx.same sy
          obtain ⟨tsy, hay, lty, hty⟩ := id hAy
          refine ⟨_, rfl, _, _, rfl, rfl, ?_⟩
          refine ⟨_, rfl, _, rfl, (i : Int), rfl, a, _, rfl, SqL.of hay, fun q hq => ?_⟩
          rw [cut_to (by rw [List.length_map, lty]; omega)]
          have sq : Same Hy (upd Hy q (.lst ((tsy.map V.ref).take i))) := Same.updf hq
          have hLq : LifeAt (upd Hy q (.lst ((tsy.map V.ref).take i))) q (es.take i) := hAy.take hay sq i upd_same
          refine ⟨Or.inl ⟨rfl, _, SqL.of upd_same⟩, (by show 1 ≤ sizeLine; decide), fun t ht => ?_⟩
          have st : Same (upd Hy q (.lst ((tsy.map V.ref).take i))) (upd (upd Hy q (.lst ((tsy.map V.ref).take i))) t (.tup [.str "line"])) := Same.updf ht
          refine ⟨q, _, _, _, rfl, rfl, ((hLq.same st).tr 0 (by rw [List.length_take]; omega)).dp, (Ev.dp (e := .line) upd_same), shaped_life _, shaped_ev .line, ?_⟩
          rw [count_take]
          refine ⟨_, _, rfl, rfl, _, _, rfl, rfl, RgOk.of_le (by omega) (by omega) (by omega) (by omega), fun d hd => ?_⟩
          obtain ⟨Hz, eHz⟩ : ∃ X, X = upd (upd (upd Hy q (.lst ((tsy.map V.ref).take i))) t (.tup [.str "line"])) d (.lst (rgV (((stAt es i).g : Int) + 1) (((stAt es i).w : Int) + 1))) := ⟨_, rfl⟩
          have dz : Hz d = some (.lst (rgV (((stAt es i).g : Int) + 1) (((stAt es i).w : Int) + 1))) := by rw [eHz]; exact upd_same
          have sz : Same Hx Hz := by
            rw [eHz]
            exact sy.trans (sq.trans (st.trans (Same.updf hd)))
          refine (show _ from ?_)
          rw [← eHz]
          have s1z := s1x.trans sz
          refine ⟨_, rfl, _, rfl, h0, es, i, rfl, hL1.same s1z, hV, by omega, fun q1 H11 s11 hq1 e11 => ?_⟩
          refine ⟨_, rfl, _, rfl, h0, es, i, rfl, hL1.same (s1z.trans s11), hV, by omega, fun H12 s12 => ?_⟩
          refine ⟨_, rfl, (by show 2 ≤ sizeLine; decide), fun l1 hl1 => ?_⟩
          have s13' : Same H12 (upd H12 l1 (.lst [.int ((stAt es i).g : Int), .ref q1])) := Same.updf hl1
          refine ⟨_, rfl, _, rfl, (by show 2 ≤ sizeLine; decide), fun l2 hl2 => ?_⟩
          have s14' : Same (upd H12 l1 (.lst [.int ((stAt es i).g : Int), .ref q1])) (upd (upd H12 l1 (.lst [.int ((stAt es i).g : Int), .ref q1])) l2 (.lst [.int ((stAt es i).g : Int), .ref d])) := Same.updf hl2
          have s1114 := s12.trans (s13'.trans s14')
          have rl : ((((stAt es i).w : Int) + 1) - (((stAt es i).g : Int) + 1)).toNat ≤ 1000 := by omega
          have dtr : ∀ {HH : Hp} (n : Nat), Same Hz HH → Tr HH (n + 1) (.ref d) (.list (rgD (((stAt es i).g : Int) + 1) (((stAt es i).w : Int) + 1))) := fun n ss => rg_tr n (ss _ _ dz) rl
          refine ⟨.ref l1, .ref l2, .list [.int ((stAt es i).g : Int), .list (rgD (((stAt es i).g : Int) + 1) (((stAt es i).w : Int) + 1))], rfl,
            Tr.lst (s14' _ _ upd_same) rfl (Nat.le_of_ble_eq_true rfl) (tr_cons (Tr.flat (.int _)) (tr_cons (rg_tr 1 (s1114 _ _ e11) rl) tr_nil)), Tr.lst upd_same rfl (Nat.le_of_ble_eq_true rfl) (tr_cons (Tr.flat (.int _)) (tr_cons (dtr 1 (s11.trans s1114)) tr_nil)), fun H15 s15' => ⟨true, rfl, iteF ?_⟩⟩
          have e15 := s15' _ _ (s1114 _ _ e11)
          have sz15 := s11.trans (s1114.trans s15')
          have lsz : (rgV (((stAt es i).g : Int) + 1) (((stAt es i).w : Int) + 1)).length < sizeLine := by
            rw [rgV_length]
            have : (2000 : Nat) ≤ sizeLine := by decide
            omega
          refine ⟨_, rfl, Or.inl ⟨rfl, _, SqL.of e15⟩, q1, _, _, rfl, rfl, e15, lsz, ?_⟩
          obtain ⟨H16, eH16⟩ : ∃ X, X = upd H15 q1 (.lst (rgV (((stAt es i).g : Int) + 1) (((stAt es i).w : Int) + 1) ++ [.non])) := ⟨_, rfl⟩
          refine (show _ from ?_)
          rw [← eH16]
          have sz16 : Same Hz H16 := fun b o e => by
            rw [eH16, upd_ne (ne_of_none e hq1)]
            exact sz15 _ _ e
          refine ⟨_, rfl, _, rfl, h0, es, i, rfl, hL1.same (s1z.trans sz16), hV, by omega, fun q2 H17 s17 hq2 e17 => ?_⟩
          refine ⟨_, rfl, .ref q2, .ref d, _, rfl, rg_tr 2 e17 rl, dtr 2 (sz16.trans s17), fun H18 s18 => ⟨true, rfl, iteF ?_⟩⟩
          exact ⟨sx.trans (sz.trans (sz16.trans (s17.trans s18))), _, _, _, _, _, _, rfl⟩
        · rintro σ Hx ⟨sx, u2, u3, u4, u5, u6, u7, rfl⟩
          have s1x := s19.trans sx
          refine ⟨_, rfl, _, rfl, _, _, ((hL1.same s1x).tr 0 (by omega)).dp, ((hA1.same s1x).tr 0 (by omega)).dp, shaped_life _, shaped_life _, ?_⟩
          have : PyData.eqv (.list (es.map Ev.d)) (.list (es.map Ev.d)) = true := by
            simp only [PyData.eqv]
            exact eqv_life es
          rw [this]
          exact k Hx (s1.trans s1x)
end
end K37
set_option Elab.async false
set_option linter.all false
set_option maxRecDepth 100000
set_option maxHeartbeats 16000000
/-! The law. -/
namespace K37
open PySem PySem.Spec PyProof.Rows L2 KB
def off (H : Hp) (D : Addr) : Hp := fun b => if b = D then none else H b
theorem off_at {H : Hp} {D b : Addr} (n : b ≠ D) : off H D b = H b := if_neg n
theorem off_same {H H' : Hp} (D : Addr) (k : Same H H') : Same (off H D) (off H' D) := fun b o e => by
  by_cases n : b = D
  · unfold off at e
    rw [if_pos n] at e
    cases e
  · rw [off_at n] at e ⊢
    exact k _ _ e
theorem off_le (H : Hp) (D : Addr) : Same (off H D) H := fun b o e => by
  by_cases n : b = D
  · unfold off at e
    rw [if_pos n] at e
    cases e
  · rw [off_at n] at e
    exact e
theorem off_upd (H : Hp) (D : Addr) (o : HO) : off (upd H D o) D = off H D := by
  funext b
  unfold off
  by_cases n : b = D
  · rw [if_pos n, if_pos n]
  · rw [if_neg n, if_neg n, upd_ne n]
def rLenK (K : PySem.W.Frag) : List V → Hp → VK → Prop := fun xs H Q => ∃ (p : Addr) (ys : List V), xs = [.ref p] ∧ (SqL K H p ys ∨ SqT K H p ys) ∧ Q (.int ys.length) H
/-- a life that stands there -/
def LvAt (H : Hp) (x : V) (es : List Ev) : Prop := ∃ a, x = .ref a ∧ LifeAt H a es ∧ Valid es ∧ es.length ≤ 14
theorem LvAt.same {H H' : Hp} {x : V} {es : List Ev} (k : Same H H') (h : LvAt H x es) : LvAt H' x es := by
  obtain ⟨a, e, l, v⟩ := h
  exact ⟨a, e, l.same k, v⟩
/-- what is noted of a life -/
def noteD (es : List Ev) : PyData := .list [.list (rgD (((stAt es es.length).g : Int) + 1) (((stAt es es.length).w : Int) + 1)), optD (full es 2)]
theorem nil_life {H : Hp} {l : Addr} (h : H l = some (.lst [])) : LifeAt H l [] := ⟨[], h, rfl, fun i t e e1 => by simp at e1⟩
theorem three : Valid [.line, .stand 1, .root, .line, .line] := by
  refine ⟨by decide, fun i n h => ?_⟩
  match i with
  | 0 => cases h
  | 1 =>
    cases h
    exact ⟨by decide, by decide⟩
  | 2 => cases h
  | 3 => cases h
  | 4 => cases h
  | i + 5 => simp at h
theorem LifeAt.cut {H' : Hp} {q : Addr} {es : List Ev} {ts : List Addr} (lt : ts.length = es.length) (k : ∀ (i : Nat) (t : Addr) (e : Ev), ts[i]? = some t → es[i]? = some e → H' t = some (.tup e.v)) (m : Nat) (hq : H' q = some (.lst ((ts.map V.ref).take m))) : LifeAt H' q (es.take m) := by
  refine ⟨ts.take m, by rw [hq, List.map_take], by rw [List.length_take, List.length_take, lt], fun i t e e1 e2 => ?_⟩
  rw [List.getElem?_take] at e1 e2
  by_cases hi : i < m
  · rw [if_pos hi] at e1 e2
    exact k i t e e1 e2
  · rw [if_neg hi] at e1
    cases e1
/-- the greatest of the counts that don't do -/
theorem max_least {es : List Ev} {m x : Int} (hV : Valid es) (h14 : es.length ≤ 14) (h : IsLeast es m)
    (hx : x ∈ (1 : Int) :: ((List.range 14).filterMap fun i => if (full es (1 + i)).isNone = true then none else some ((2 + i : Nat) : Int)))
    (hm : ∀ y ∈ (1 : Int) :: ((List.range 14).filterMap fun i => if (full es (1 + i)).isNone = true then none else some ((2 + i : Nat) : Int)), y ≤ x) : x = m := by
  obtain ⟨m1, m2, m3⟩ := least_spec hV h
  have up : x ≤ m := by
    rcases List.mem_cons.mp hx with e | e
    · omega
    · rw [List.mem_filterMap] at e
      obtain ⟨i, hi, he⟩ := e
      by_cases c : (full es (1 + i)).isNone = true
      · rw [if_pos c] at he
        cases he
      · rw [if_neg c] at he
        have := Option.some.inj he
        have c2 : ¬ m ≤ ((1 + i : Nat) : Int) := fun z => c ((m3 (1 + i) (by omega)).mpr z)
        omega
  have dn : m ≤ x := by
    by_cases e : m ≤ 1
    · have := hm 1 (List.mem_cons_self ..)
      omega
    · obtain ⟨mn, rfl⟩ : ∃ mn : Nat, m = mn := ⟨m.toNat, by omega⟩
      refine hm _ (List.mem_cons_of_mem _ (List.mem_filterMap.mpr ⟨mn - 2, List.mem_range.mpr (by omega), ?_⟩))
      have c : ¬ (full es (1 + (mn - 2))).isNone = true := fun z => by
        have := (m3 (1 + (mn - 2)) (by omega)).mp z
        omega
      rw [if_neg c]
      rw [show 2 + (mn - 2) = mn by omega]
  omega

section
variable {K : PySem.W.Frag} {mg : Str → Option Value} {σ : L2.St} {H : Hp} {Q : VK} {L : Addr} {xs : List V} {Es : List (List Ev)}
theorem wip3 {σ : L2.St} (hl : σ.length = 10) : (∀ j, j ≠ 3 → ∀ (v : V), (((wipe σ [3]).set 3 (some v))[j]? = σ[j]?)) ∧ (∀ (v : V), (((wipe σ [3]).set 3 (some v))[3]? = some (some v))) ∧ ∀ v : V, wipe ((wipe σ [3]).set 3 (some v)) [3] = wipe σ [3] := by
  refine ⟨fun j hj v => ?_, fun v => ?_, fun v => ?_⟩
  · rw [List.getElem?_set_ne (fun e => hj e.symm)]
    show ((wipe σ []).set 3 none)[j]? = _
    rw [List.getElem?_set_ne (fun e => hj e.symm)]
    rfl
  · rw [List.getElem?_set_self]
    show 3 < ((wipe σ []).set 3 none).length
    rw [List.length_set]
    show 3 < σ.length
    omega
  · show (((σ.set 3 none).set 3 (some v)).set 3 none) = σ.set 3 none
    rw [List.set_set, List.set_set]
/-- one more that stands for a datum -/
theorem snoc_tr {H3 H8 : Hp} {D : Addr} {ys : List V} {y : V} {i : Nat} {ds : List PyData} {d : PyData} (ly : ys.length = i) (hd : ds[i]? = some d) (k : ∀ (j : Nat) (u : V) (e : PyData), ys[j]? = some u → ds[j]? = some e → Tr (off H3 D) 2 u e) (s : Same H3 H8) (h : Tr (off H8 D) 2 y d) :
    ∀ (j : Nat) (u : V) (e : PyData), (ys ++ [y])[j]? = some u → ds[j]? = some e → Tr (off (upd H8 D (.lst (ys ++ [y]))) D) 2 u e := fun j u e h1 h2 => by
  rw [off_upd]
  by_cases hj : j < ys.length
  · rw [List.getElem?_append_left hj] at h1
    exact (k j u e h1 h2).same (off_same D s)
  · rw [List.getElem?_append_right (by omega)] at h1
    have q1 := List.mem_of_getElem? h1
    have hz : j - ys.length < 1 := by
      have := (List.getElem?_eq_some_iff.mp h1).1
      simpa using this
    rw [List.mem_singleton] at q1
    rw [show j = i by omega, hd] at h2
    rw [q1, ← Option.some.inj h2]
    exact h
theorem note_tr {G : Hp} {l q : Addr} {es : List Ev} (hV : Valid es) (hl : G l = some (.lst [.ref q, optV (full es 2)])) (hq : G q = some (.lst (rgV (((stAt es es.length).g : Int) + 1) (((stAt es es.length).w : Int) + 1)))) : Tr G 2 (.ref l) (noteD es) := by
  have od := hV.ord es.length (Nat.le_refl _)
  have l60 := hV.len
  exact Tr.lst hl rfl (Nat.le_of_ble_eq_true rfl) (tr_cons (rg_tr 0 hq (by omega)) (tr_cons (Tr.flat (optFlat _)) tr_nil))
theorem noted_lc (e2 : σ[2]? = some (some (.ref L))) (hl : σ.length = 10) (hL : H L = some (.lst xs)) (lx : xs.length = Es.length) (l3 : xs.length ≤ 10) (kx : ∀ (i : Nat) (x : V) (es : List Ev), xs[i]? = some x → Es[i]? = some es → LvAt H x es)
    (k : ∀ (q : Addr) (H' : Hp), Same H H' → H q = none → Tr H' 3 (.ref q) (.list (Es.map noteD)) → Q (.ref q) H') : tLc (iList K (tVar 2)) (gName 3) tYes (tLst (tCons (tCall spStill [] E0 (tCons (tVar 3) (tCons (tCB (rLenK K) (tCons (tVar 3) tNil)) tNil))) (tCons (tCall spFirst [] E0 (tCons (tVar 3) (tCons (tC (.int 2)) tNil))) tNil))) [3] σ H Q := by
  obtain ⟨w, w3, ww⟩ := wip3 hl
  have sl : (2000 : Nat) ≤ sizeLine := by decide
  refine ⟨_, e2, L, rfl, ⟨_, SqL.of hL⟩, fun D hD => ?_⟩
  refine lc_it (walk_list (K := K) (a := L) (xs := xs)) (fun i H3 => Same H H3 ∧ ∃ ys : List V, H3 D = some (.lst ys) ∧ ys.length = i ∧ ∀ (j : Nat) (u : V) (e : PyData), ys[j]? = some u → (Es.map noteD)[j]? = some e → Tr (off H3 D) 2 u e)
    ⟨Same.updf hD, [], upd_same, rfl, fun j u e h => by simp at h⟩ (fun i H3 _ hh => SqL.of (hh.1 _ _ hL)) ?_ ?_
  · rintro i v H3 H4 hi ⟨s3, ys, hy, ly, ky⟩ ⟨rfl, hv⟩
    have he : Es[i]? = some Es[i] := List.getElem?_eq_getElem (by omega)
    obtain ⟨a, rfl, hA, hV, h14⟩ := (kx i v _ hv he).same s3
    obtain ⟨ts, ha, lt, ht⟩ := id hA
    have od := hV.ord Es[i].length (Nat.le_refl _)
    refine ⟨ww _, ?_⟩
    refine ⟨_, w3 _, _, w3 _, a, _, rfl, Or.inl (SqL.of ha), ?_⟩
    refine ⟨a, Es[i], Es[i].length, congrArg (fun z : Nat => [V.ref a, V.int (z : Int)]) (by rw [List.length_map, lt]), hA, hV, Nat.le_refl _, fun q H5 s5 hq e5 => ?_⟩
    refine ⟨_, w3 _, a, Es[i], 2, rfl, hA.same s5, hV, by decide, fun H6 s6 => ?_⟩
    have s3q := Same.refl H4
    have s36 := s5.trans s6
    refine ⟨(by show 2 ≤ sizeLine; decide), fun l hl2 => ?_⟩
    have s7 : Same H6 (upd H6 l (.lst [.ref q, optV (full Es[i] 2)])) := Same.updf hl2
    have s37 := s36.trans s7
    have nq : q ≠ D := fun z => by
      have := s3q _ _ hy
      rw [z, this] at hq
      cases hq
    have nl : l ≠ D := fun z => by
      have := s36 _ _ hy
      rw [z, this] at hl2
      cases hl2
    refine ⟨ys, s37 _ _ hy, by omega, fun b o e => ?_, ys ++ [.ref l], upd_same, by rw [List.length_append, ly]; rfl, ?_⟩
    · rw [upd_ne (ne_of_none e hD)]
      exact s37 _ _ (s3 _ _ e)
    · refine snoc_tr ly (by rw [List.getElem?_map, he]; rfl) ky s37 (note_tr (q := q) hV ?_ ?_)
      · rw [off_at nl]
        exact upd_same
      · rw [off_at nq]
        exact s7 _ _ (s6 _ _ e5)
  · rintro H3 ⟨s3, ys, hy, ly, ky⟩
    exact k D H3 s3 hD (Tr.lst hy (by rw [List.length_map, ly, lx]) (by rw [List.length_map]; omega) fun j u e h1 h2 => (ky j u e h1 h2).same (off_le H3 D))
theorem due_lc (e2 : σ[2]? = some (some (.ref L))) (hl : σ.length = 10) (hL : H L = some (.lst xs)) (lx : xs.length = Es.length) (l3 : xs.length ≤ 10) (kx : ∀ (i : Nat) (x : V) (es : List Ev), xs[i]? = some x → Es[i]? = some es → LvAt H x es)
    (k : ∀ (q : Addr) (H' : Hp), Same H H' → H q = none → Tr H' 3 (.ref q) (.list (Es.map noteD)) → Q (.ref q) H') : tLc (iList K (tVar 2)) (gName 3) tYes (tLst (tCons (tLstRg (tRg2 (tOp (rI0 fun i j => .int (i + j)) (tCall spGoneL [] E0 (tCons (tVar 3) (tCons (tCB (rLenK K) (tCons (tVar 3) tNil)) tNil))) (tC (.int 1))) (tOp (rI0 fun i j => .int (i + j)) (tBM K "list" (rCountD K) (tVar 3) (tCons (tTup (tCons (tC (.str "line")) tNil)) tNil)) (tC (.int 1))))) (tCons (tCall spRing [] E0 (tCons (tVar 3) (tCons (tC (.int 2)) tNil))) tNil))) [3] σ H Q := by
  obtain ⟨w, w3, ww⟩ := wip3 hl
  have sl : (2000 : Nat) ≤ sizeLine := by decide
  refine ⟨_, e2, L, rfl, ⟨_, SqL.of hL⟩, fun D hD => ?_⟩
  refine lc_it (walk_list (K := K) (a := L) (xs := xs)) (fun i H3 => Same H H3 ∧ ∃ ys : List V, H3 D = some (.lst ys) ∧ ys.length = i ∧ ∀ (j : Nat) (u : V) (e : PyData), ys[j]? = some u → (Es.map noteD)[j]? = some e → Tr (off H3 D) 2 u e)
    ⟨Same.updf hD, [], upd_same, rfl, fun j u e h => by simp at h⟩ (fun i H3 _ hh => SqL.of (hh.1 _ _ hL)) ?_ ?_
  · rintro i v H3 H4 hi ⟨s3, ys, hy, ly, ky⟩ ⟨rfl, hv⟩
    have he : Es[i]? = some Es[i] := List.getElem?_eq_getElem (by omega)
    obtain ⟨a, rfl, hA, hV, h14⟩ := (kx i v _ hv he).same s3
    obtain ⟨ts, ha, lt, ht⟩ := id hA
    have od := hV.ord Es[i].length (Nat.le_refl _)
    refine ⟨ww _, ?_⟩
    refine ⟨_, w3 _, _, w3 _, a, _, rfl, Or.inl (SqL.of ha), ?_⟩
    refine ⟨a, Es[i], Es[i].length, congrArg (fun z : Nat => [V.ref a, V.int (z : Int)]) (by rw [List.length_map, lt]), hA, hV.len, Nat.le_refl _, fun H5 s5 => ?_⟩
    refine ⟨_, _, rfl, rfl, _, w3 _, Or.inl ⟨rfl, _, SqL.of (s5 _ _ ha)⟩, (by show 1 ≤ sizeLine; decide), fun t ht2 => ?_⟩
    have st : Same H5 (upd H5 t (.tup [.str "line"])) := Same.updf ht2
    refine ⟨a, _, _, _, rfl, rfl, (((hA.same s5).same st).tr 0 (by omega)).dp, (Ev.dp (e := .line) upd_same), shaped_life _, shaped_ev .line, ?_⟩
    have hc := count_take Es[i] Es[i].length
    rw [List.take_length] at hc
    rw [hc]
    refine ⟨_, _, rfl, rfl, _, _, rfl, rfl, RgOk.of_le (by omega) (by omega) (by omega) (by omega), fun q hq => ?_⟩
    have sq := Same.updf (o := .lst (rgV (((stAt Es[i] Es[i].length).g : Int) + 1) (((stAt Es[i] Es[i].length).w : Int) + 1))) hq
    refine ⟨_, w3 _, a, Es[i], 2, rfl, ((hA.same s5).same st).same sq, hV.len, by decide, by decide, fun H6 s6 => ?_⟩
    have s3q := s5.trans st
    have s36 := s3q.trans (sq.trans s6)
    refine ⟨(by show 2 ≤ sizeLine; decide), fun l hl2 => ?_⟩
    have s7 : Same H6 (upd H6 l (.lst [.ref q, optV (full Es[i] 2)])) := Same.updf hl2
    have s37 := s36.trans s7
    have nq : q ≠ D := fun z => by
      have := s3q _ _ hy
      rw [z, this] at hq
      cases hq
    have nl : l ≠ D := fun z => by
      have := s36 _ _ hy
      rw [z, this] at hl2
      cases hl2
    refine ⟨ys, s37 _ _ hy, by omega, fun b o e => ?_, ys ++ [.ref l], upd_same, by rw [List.length_append, ly]; rfl, ?_⟩
    · rw [upd_ne (ne_of_none e hD)]
      exact s37 _ _ (s3 _ _ e)
    · refine snoc_tr ly (by rw [List.getElem?_map, he]; rfl) ky s37 (note_tr (q := q) hV ?_ ?_)
      · rw [off_at nl]
        exact upd_same
      · rw [off_at nq]
        exact s7 _ _ (s6 _ _ upd_same)
  · rintro H3 ⟨s3, ys, hy, ly, ky⟩
    exact k D H3 s3 hD (Tr.lst hy (by rw [List.length_map, ly, lx]) (by rw [List.length_map]; omega) fun j u e h1 h2 => (ky j u e h1 h2).same (off_le H3 D))
end
end K37
set_option Elab.async false
set_option linter.all false
set_option maxRecDepth 100000
set_option maxHeartbeats 16000000
/-! The law. -/
namespace K37
open PySem PySem.Spec PyProof.Rows L2 KB
def spLaw (K : PySem.W.Frag) : Sp := fun vs H Q _ => ∃ (a : Addr) (ns : List Int), vs = [.ref a] ∧ SqL K H a (ns.map V.int) ∧ ∀ H', Q (.bl true) H'
section
variable {P : Program} {w : World} {K : PySem.W.Frag} {mg : Str → Option Value} {base : Heap}
abbrev s_law : Stmt := top 39
abbrev N_law : List Str := ["_law_script", "_law_purse_here", "_law_lives", "_law_life_here", "_law_line", "_law_places", "_law_event", "_law_noted", "_law_due", "_law_late"]
theorem sc_law : FnScope N_law ["_law_script"] (defScope s_law) := ⟨rfl, rfl, rfl, by decide +kernel, rfl, by decide +kernel, by decide +kernel⟩
theorem ok_law {f : Addr} {fd : FuncData} (F : FnP K "law" s_law f fd) (Z : Free mg)
    {f_purse : Addr} {d_purse : FuncData} (g_purse : mg "_law_purse" = some (.ref f_purse)) (F_purse : FnP K "_law_purse" s_purse f_purse d_purse) (G_purse : FnOk P w K mg base CX0 1 f_purse d_purse ["_law_script", "_law_at"] (spPurse K))
    {f_life : Addr} {d_life : FuncData} (g_life : mg "_law_life" = some (.ref f_life)) (F_life : FnP K "_law_life" s_life f_life d_life) (G_life : FnOk P w K mg base CX0 3 f_life d_life ["_law_purse_here", "_law_most"] spLife)
    {f_exact : Addr} {d_exact : FuncData} (g_exact : mg "_law_exact" = some (.ref f_exact)) (F_exact : FnP K "_law_exact" s_exact f_exact d_exact) (GA_exact : ∀ n : Nat, FnOk P w K mg base CX0 (n + 1) f_exact d_exact ["_law_mine", "_law_theirs"] (spExact n))
    {f_draw : Addr} {d_draw : FuncData} (g_draw : mg "_law_draw" = some (.ref f_draw)) (F_draw : FnP K "_law_draw" s_draw f_draw d_draw) (G_draw : FnOk P w K mg base CX0 2 f_draw d_draw ["_law_purse_here", "_law_many"] spDraw)
    {f_still_needed : Addr} {d_still_needed : FuncData} (g_still_needed : mg "still_needed" = some (.ref f_still_needed)) (F_still_needed : FnP K "still_needed" s_still_needed f_still_needed d_still_needed) (G_still_needed : FnOk P w K mg base CX0 8 f_still_needed d_still_needed ["life", "moment"] spStill)
    {f_first_full : Addr} {d_first_full : FuncData} (g_first_full : mg "first_full" = some (.ref f_first_full)) (F_first_full : FnP K "first_full" s_first_full f_first_full d_first_full) (G_first_full : FnOk P w K mg base CX0 8 f_first_full d_first_full ["life", "places"] spFirst)
    {f_ring_walk : Addr} {d_ring_walk : FuncData} (g_ring_walk : mg "_law_ring_walk" = some (.ref f_ring_walk)) (F_ring_walk : FnP K "_law_ring_walk" s_ring_walk f_ring_walk d_ring_walk) (G_ring_walk : FnOk P w K mg base CX0 1 f_ring_walk d_ring_walk ["_law_life_here", "_law_places"] spRing)
    {f_is_life : Addr} {d_is_life : FuncData} (g_is_life : mg "is_life" = some (.ref f_is_life)) (F_is_life : FnP K "is_life" s_is_life f_is_life d_is_life) (G_is_life : FnOk P w K mg base CX0 5 f_is_life d_is_life ["value"] spIsLife)
    {f_life_right : Addr} {d_life_right : FuncData} (g_life_right : mg "_law_life_right" = some (.ref f_life_right)) (F_life_right : FnP K "_law_life_right" s_life_right f_life_right d_life_right) (G_life_right : FnOk P w K mg base CX0 9 f_life_right d_life_right ["_law_life_here"] spRight)
    {f_fits : Addr} {d_fits : FuncData} (g_fits : mg "fits" = some (.ref f_fits)) (F_fits : FnP K "fits" s_fits f_fits d_fits) (G_fits : FnOk P w K mg base CX0 8 f_fits d_fits ["life", "places"] spFits)
    {f_least_places : Addr} {d_least_places : FuncData} (g_least_places : mg "least_places" = some (.ref f_least_places)) (F_least_places : FnP K "least_places" s_least_places f_least_places d_least_places) (G_least_places : FnOk P w K mg base CX0 7 f_least_places d_least_places ["life"] spLeast)
    {f_gone : Addr} {d_gone : FuncData} (g_gone : mg "_law_gone" = some (.ref f_gone)) (F_gone : FnP K "_law_gone" s_gone f_gone d_gone) (G_gone : FnOk P w K mg base CX0 1 f_gone d_gone ["_law_life_here", "_law_moment"] spGoneL) :
    FnOk P w K mg base CX0 10 f fd ["_law_script"] (spLaw K) := by
  have b_purse : Binds K d_purse ["_law_script", "_law_at"] [] := F_purse.bindsN fun _ _ _ _ _ _ us hl => match us, hl with | [_, _], _ => rfl
  have b_life : Binds K d_life ["_law_purse_here", "_law_most"] [] := F_life.bindsN fun _ _ _ _ _ _ us hl => match us, hl with | [_, _], _ => rfl
  have b_exact : Binds K d_exact ["_law_mine", "_law_theirs"] [] := F_exact.bindsN fun _ _ _ _ _ _ us hl => match us, hl with | [_, _], _ => rfl
  have b_draw : Binds K d_draw ["_law_purse_here", "_law_many"] [] := F_draw.bindsN fun _ _ _ _ _ _ us hl => match us, hl with | [_, _], _ => rfl
  have b_still_needed : Binds K d_still_needed ["life", "moment"] [] := F_still_needed.bindsN fun _ _ _ _ _ _ us hl => match us, hl with | [_, _], _ => rfl
  have b_first_full : Binds K d_first_full ["life", "places"] [] := F_first_full.bindsN fun _ _ _ _ _ _ us hl => match us, hl with | [_, _], _ => rfl
  have b_ring_walk : Binds K d_ring_walk ["_law_life_here", "_law_places"] [] := F_ring_walk.bindsN fun _ _ _ _ _ _ us hl => match us, hl with | [_, _], _ => rfl
  have b_is_life : Binds K d_is_life ["value"] [] := F_is_life.bindsN fun _ _ _ _ _ _ us hl => match us, hl with | [_], _ => rfl
  have b_life_right : Binds K d_life_right ["_law_life_here"] [] := F_life_right.bindsN fun _ _ _ _ _ _ us hl => match us, hl with | [_], _ => rfl
  have b_fits : Binds K d_fits ["life", "places"] [] := F_fits.bindsN fun _ _ _ _ _ _ us hl => match us, hl with | [_, _], _ => rfl
  have b_least_places : Binds K d_least_places ["life"] [] := F_least_places.bindsN fun _ _ _ _ _ _ us hl => match us, hl with | [_], _ => rfl
  have b_gone : Binds K d_gone ["_law_life_here", "_law_moment"] [] := F_gone.bindsN fun _ _ _ _ _ _ us hl => match us, hl with | [_, _], _ => rfl
  refine F.ok sc_law (fun vs H Q E h => ?_) (fun cdv A outer s H vs Q E hr h => ?_)
  · obtain ⟨a, ns, rfl, _⟩ := h
    rfl
  · obtain ⟨a, ns, rfl, hS, k⟩ := h
    have hu : _ + 65 < cLine := Nat.lt_of_le_of_lt (Nat.add_le_add_left (by decide : 65 ≤ 200) _) (Nat.lt_of_le_of_lt (Nat.add_le_add_right (Nat.le_add_right _ _) _) hr.un)
    have nd := sc_law.nd
    refine ⟨_, PSs.nox (pss_cons (ps_set (i := 1) nd rfl (Or.inl rfl) (pe_call G_purse (hr.mono (by decide)) rfl g_purse F_purse.kp b_purse .nil pass0 (pa_cons (pv 0) (pa_cons (pe_int) (pa_nil)))))
      (pss_cons (ps_set (i := 2) nd rfl (Or.inl rfl) (pe_lst (pa_cons (pe_call G_life (hr.mono (by decide)) rfl g_life F_life.kp b_life .nil pass0 (pa_cons (pv 1) (pa_cons (pe_int) (pa_nil)))) (pa_cons (pe_call G_life (hr.mono (by decide)) rfl g_life F_life.kp b_life .nil pass0 (pa_cons (pv 1) (pa_cons (pe_int) (pa_nil)))) (pa_cons (pe_lst (pa_cons (pe_tup (pa_cons (pe_str) (pa_nil))) (pa_cons (pe_tup (pa_cons (pe_str) (pa_cons (pe_int) (pa_nil)))) (pa_cons (pe_tup (pa_cons (pe_str) (pa_nil))) (pa_cons (pe_tup (pa_cons (pe_str) (pa_nil))) (pa_cons (pe_tup (pa_cons (pe_str) (pa_nil))) (pa_nil))))))) (pa_nil))))))
      (pss_cons (ps_for PassesOwn.never rfl (pi_list (pe_op op_cat (pv 2) (pe_slice sl_list (pv 2) (po_none) (po_some (pe_int))))) (pg_name (i := 3) nd rfl (Or.inl rfl))
        (pss_one (ps_if (PW.pt (pw_or (pt_cmpR op_notBl (pe_call G_is_life (hr.mono (by decide)) rfl g_is_life F_is_life.kp b_is_life .nil pass0 (pa_cons (pv 3) (pa_nil))) (pe_bl) (nomark _)) (pw_or1 (pt_not (pt_val (pe_call G_life_right (hr.mono (by decide)) rfl g_life_right F_life_right.kp b_life_right .nil pass0 (pa_cons (pv 3) (pa_nil)))))))) (pss_one (ps_ret (pe_bl))) (pss_nil))))
      (pss_cons (ps_asg (pe_tup (pa_cons (pe_lst (pa_nil)) (pa_cons (pe_op op_add (pe_int) (pe_call G_draw (hr.mono (by decide)) rfl g_draw F_draw.kp b_draw .nil pass0 (pa_cons (pv 1) (pa_cons (pe_int) (pa_nil))))) (pa_nil)))) (pg_tup rfl (pgs_cons (pg_name (i := 4) nd rfl (Or.inr rfl)) (pgs_cons (pg_name (i := 5) nd rfl (Or.inl rfl)) (pgs_nil)))))
      (pss_cons (ps_for PassesOwn.never rfl (pi_list (pe_ix ix_list (pv 2) (pe_int) (fun _ _ => rfl))) (pg_name (i := 6) nd rfl (Or.inl rfl))
        (pss_cons (ps_expr (pe_bm PySem.F.plainAttrs_list PySem.F.slot_list_append PySem.F.type_list_append mt_append (pv 4) (pa_cons (pv 6) (pa_nil))))
      (pss_one (ps_if (pt_not (pt_val (pe_call (GA_exact 3) (hr.mono (by decide)) rfl g_exact F_exact.kp b_exact .nil pass0 (pa_cons (pe_lst (pa_cons (pe_call G_fits (hr.mono (by decide)) rfl g_fits F_fits.kp b_fits .nil pass0 (pa_cons (pv 4) (pa_cons (pv 5) (pa_nil)))) (pa_cons (pe_call G_least_places (hr.mono (by decide)) rfl g_least_places F_least_places.kp b_least_places .nil pass0 (pa_cons (pv 4) (pa_nil))) (pa_nil)))) (pa_cons (pe_lst (pa_cons (pe_cmpR op_isN (pe_call G_ring_walk (hr.mono (by decide)) rfl g_ring_walk F_ring_walk.kp b_ring_walk .nil pass0 (pa_cons (pv 4) (pa_cons (pv 5) (pa_nil)))) (pe_non) (nomark _)) (pa_cons (pe_callB (cr_max rfl) (by rfl) Z.max (by decide +kernel) (pa_cons (pe_op op_cat (pe_lst (pa_cons (pe_int) (pa_nil))) (pe_lc (own := [("_law_late", 9)]) (g := gName 9) (tt := tTest (tOp (fun x y H Q => y = .non ∧ Q (.bl (!decide (x = .non))) H) (tCall spRing [] E0 (tCons (tVar 4) (tCons (tOp (rI0 fun i j => .int (i - j)) (tVar 9) (tC (.int 1))) tNil))) (tC .non))) (te := tVar 9) (by rfl) nd (pi_range2 (by rfl) Z.range (pa_cons (pe_int) (pa_cons (pe_int) (pa_nil))))
          (blkOk_by (own := [("_law_late", 9)]) (N := N_law) (sc := defScope s_law) (by decide +kernel)) (fun _ _ _ _ _ => pg_name (i := 9) nd rfl (Or.inl rfl)) (fun _ _ _ _ _ => pts_one (pt_cmpR op_notN (pe_call G_ring_walk (hr.mono (by decide)) rfl g_ring_walk F_ring_walk.kp b_ring_walk .nil pass0 (pa_cons (pv 4) (pa_cons (pe_op op_sub (pv 9) (pe_int)) (pa_nil)))) (pe_non) (nomark _)))
          (fun _ _ _ _ _ => pv 9))) (pa_nil))) (pa_nil)))) (pa_nil)))))) (pss_one (ps_ret (pe_bl))) (pss_nil)))))
      (pss_cons (ps_setLc (i := 7) (own := [("_law_life_here", 3)]) (g := gName 3) (tt := tYes) (te := tLst (tCons (tCall spStill [] E0 (tCons (tVar 3) (tCons (tCB (rLenK K) (tCons (tVar 3) tNil)) tNil))) (tCons (tCall spFirst [] E0 (tCons (tVar 3) (tCons (tC (.int 2)) tNil))) tNil))) (by rfl) nd rfl rfl rfl (pi_list (pv 2))
          (blkOk_by (own := [("_law_life_here", 3)]) (N := N_law) (sc := defScope s_law) (by decide +kernel)) (fun _ _ _ _ _ => pg_name (i := 3) nd rfl (Or.inl rfl)) (fun _ _ _ _ _ => pts_nil)
          (fun _ _ _ _ _ => pe_lst (pa_cons (pe_call G_still_needed (hr.mono (by decide)) rfl g_still_needed F_still_needed.kp b_still_needed .nil pass0 (pa_cons (pv 3) (pa_cons (pe_callB call_len_seq (by rfl) Z.len (by decide +kernel) (pa_cons (pv 3) (pa_nil))) (pa_nil)))) (pa_cons (pe_call G_first_full (hr.mono (by decide)) rfl g_first_full F_first_full.kp b_first_full .nil pass0 (pa_cons (pv 3) (pa_cons (pe_int) (pa_nil)))) (pa_nil)))))
      (pss_cons (ps_setLc (i := 8) (own := [("_law_life_here", 3)]) (g := gName 3) (tt := tYes) (te := tLst (tCons (tLstRg (tRg2 (tOp (rI0 fun i j => .int (i + j)) (tCall spGoneL [] E0 (tCons (tVar 3) (tCons (tCB (rLenK K) (tCons (tVar 3) tNil)) tNil))) (tC (.int 1))) (tOp (rI0 fun i j => .int (i + j)) (tBM K "list" (rCountD K) (tVar 3) (tCons (tTup (tCons (tC (.str "line")) tNil)) tNil)) (tC (.int 1))))) (tCons (tCall spRing [] E0 (tCons (tVar 3) (tCons (tC (.int 2)) tNil))) tNil))) (by rfl) nd rfl rfl rfl (pi_list (pv 2))
          (blkOk_by (own := [("_law_life_here", 3)]) (N := N_law) (sc := defScope s_law) (by decide +kernel)) (fun _ _ _ _ _ => pg_name (i := 3) nd rfl (Or.inl rfl)) (fun _ _ _ _ _ => pts_nil)
          (fun _ _ _ _ _ => pe_lst (pa_cons (pe_listRg rfl (by rfl) Z.tlist (prg_2 (by rfl) Z.range (pe_op op_add (pe_call G_gone (hr.mono (by decide)) rfl g_gone F_gone.kp b_gone .nil pass0 (pa_cons (pv 3) (pa_cons (pe_callB call_len_seq (by rfl) Z.len (by decide +kernel) (pa_cons (pv 3) (pa_nil))) (pa_nil)))) (pe_int)) (pe_op op_add (pe_bm PySem.F.plainAttrs_list PySem.F.slot_list_count PySem.F.type_list_count (mt_countD hu) (pv 3) (pa_cons (pe_tup (pa_cons (pe_str) (pa_nil))) (pa_nil))) (pe_int)))) (pa_cons (pe_call G_ring_walk (hr.mono (by decide)) rfl g_ring_walk F_ring_walk.kp b_ring_walk .nil pass0 (pa_cons (pv 3) (pa_cons (pe_int) (pa_nil)))) (pa_nil)))))
      (pss_one (ps_ret (pe_and (pe_call (GA_exact 3) (hr.mono (by decide)) rfl g_exact F_exact.kp b_exact .nil pass0 (pa_cons (pv 7) (pa_cons (pv 8) (pa_nil)))) (pe_one (pe_call (GA_exact 3) (hr.mono (by decide)) rfl g_exact F_exact.kp b_exact .nil pass0 (pa_cons (pe_lst (pa_cons (pe_call G_fits (hr.mono (by decide)) rfl g_fits F_fits.kp b_fits .nil pass0 (pa_cons (pe_lst (pa_nil)) (pa_cons (pe_int) (pa_nil)))) (pa_cons (pe_call G_least_places (hr.mono (by decide)) rfl g_least_places F_least_places.kp b_least_places .nil pass0 (pa_cons (pe_lst (pa_nil)) (pa_nil))) (pa_cons (pe_call G_still_needed (hr.mono (by decide)) rfl g_still_needed F_still_needed.kp b_still_needed .nil pass0 (pa_cons (pe_lst (pa_nil)) (pa_cons (pe_int) (pa_nil)))) (pa_nil))))) (pa_cons (pe_lst (pa_cons (pe_bl) (pa_cons (pe_int) (pa_cons (pe_lst (pa_nil)) (pa_nil))))) (pa_nil))))))))))))))), ?_⟩
    refine ⟨_, rfl, a, ns, 0, rfl, hS, fun pu H1 s1 hpu P1 => ?_⟩
    -- the lives
    refine ⟨_, rfl, pu, 14, 0, rfl, by decide, P1, by decide, fun q1 es1 H2 M2 b2 hq1 nq1 L1 V1 len1 P2 l2 => ?_⟩
    refine ⟨_, rfl, pu, 9, M2, rfl, by decide, P2, by omega, fun q2 es2 H3 M3 b3 hq2 nq2 L2' V2 len2 P3 l3 => ?_⟩
    refine ⟨(by show 1 ≤ sizeLine; decide), fun t1 ht1 => ⟨(by show 2 ≤ sizeLine; decide), fun t2 ht2 => ⟨(by show 1 ≤ sizeLine; decide), fun t3 ht3 => ⟨(by show 1 ≤ sizeLine; decide), fun t4 ht4 => ⟨(by show 1 ≤ sizeLine; decide), fun t5 ht5 => ⟨(by show 5 ≤ sizeLine; decide), fun q3 hq3 => ⟨(by show 3 ≤ sizeLine; decide), fun L hL => ?_⟩⟩⟩⟩⟩⟩⟩
    obtain ⟨G1, eG1⟩ : ∃ X, X = upd H3 t1 (.tup [.str "line"]) := ⟨_, rfl⟩
    rw [← eG1] at ht2 ht3 ht4 ht5 hq3 hL ⊢
    obtain ⟨G2, eG2⟩ : ∃ X, X = upd G1 t2 (.tup [.str "stand", .int 1]) := ⟨_, rfl⟩
    rw [← eG2] at ht3 ht4 ht5 hq3 hL ⊢
    obtain ⟨G3, eG3⟩ : ∃ X, X = upd G2 t3 (.tup [.str "root"]) := ⟨_, rfl⟩
    rw [← eG3] at ht4 ht5 hq3 hL ⊢
    obtain ⟨G4, eG4⟩ : ∃ X, X = upd G3 t4 (.tup [.str "line"]) := ⟨_, rfl⟩
    rw [← eG4] at ht5 hq3 hL ⊢
    obtain ⟨G5, eG5⟩ : ∃ X, X = upd G4 t5 (.tup [.str "line"]) := ⟨_, rfl⟩
    rw [← eG5] at hq3 hL ⊢
    obtain ⟨G6, eG6⟩ : ∃ X, X = upd G5 q3 (.lst [.ref t1, .ref t2, .ref t3, .ref t4, .ref t5]) := ⟨_, rfl⟩
    rw [← eG6] at hL ⊢
    obtain ⟨G7, eG7⟩ : ∃ X, X = upd G6 L (.lst [.ref q1, .ref q2, .ref q3]) := ⟨_, rfl⟩
    rw [← eG7]
    have s1' : Same H3 G1 := by rw [eG1]; exact Same.updf ht1
    have s2' : Same G1 G2 := by rw [eG2]; exact Same.updf ht2
    have s3' : Same G2 G3 := by rw [eG3]; exact Same.updf ht3
    have s4' : Same G3 G4 := by rw [eG4]; exact Same.updf ht4
    have s5' : Same G4 G5 := by rw [eG5]; exact Same.updf ht5
    have s6' : Same G5 G6 := by rw [eG6]; exact Same.updf hq3
    have s7' : Same G6 G7 := by rw [eG7]; exact Same.updf hL
    have s67 := s6'.trans s7'
    have s57 := s5'.trans s67
    have s47 := s4'.trans s57
    have s37 := s3'.trans s47
    have s27 := s2'.trans s37
    have s17 := s1'.trans s27
    have eL : G7 L = some (.lst [.ref q1, .ref q2, .ref q3]) := by rw [eG7]; exact upd_same
    have e1 : G7 t1 = some (.tup [.str "line"]) := s27 _ _ (by rw [eG1]; exact upd_same)
    have e2 : G7 t2 = some (.tup [.str "stand", .int 1]) := s37 _ _ (by rw [eG2]; exact upd_same)
    have e3 : G7 t3 = some (.tup [.str "root"]) := s47 _ _ (by rw [eG3]; exact upd_same)
    have e4 : G7 t4 = some (.tup [.str "line"]) := s57 _ _ (by rw [eG4]; exact upd_same)
    have e5 : G7 t5 = some (.tup [.str "line"]) := s67 _ _ (by rw [eG5]; exact upd_same)
    have eq3 : G7 q3 = some (.lst [.ref t1, .ref t2, .ref t3, .ref t4, .ref t5]) := s7' _ _ (by rw [eG6]; exact upd_same)
    have A1 : LvAt G7 (.ref q1) es1 := ⟨q1, rfl, (L1.but P2 b3).same s17, V1, len1⟩
    have A2 : LvAt G7 (.ref q2) es2 := ⟨q2, rfl, L2'.same s17, V2, by omega⟩
    have A3 : LvAt G7 (.ref q3) [.line, .stand 1, .root, .line, .line] := by
      refine ⟨q3, rfl, ⟨[t1, t2, t3, t4, t5], eq3, rfl, fun i t e a b => ?_⟩, three, by decide⟩
      match i with
      | 0 => cases a; cases b; exact e1
      | 1 => cases a; cases b; exact e2
      | 2 => cases a; cases b; exact e3
      | 3 => cases a; cases b; exact e4
      | 4 => cases a; cases b; exact e5
      | i + 5 => simp at a
    have P7 : Purse G7 pu M3 := P3.same s17
    -- each life is right
    refine ⟨_, rfl, _, rfl, (1 : Int), rfl, L, _, rfl, SqL.of eL, fun c hc => ?_⟩
    have ec : cutV [V.ref q1, .ref q2, .ref q3] none (some 1) = [V.ref q1] := rfl
    rw [ec]
    have s8 : Same G7 (upd G7 c (.lst [.ref q1])) := Same.updf hc
    refine ⟨L, c, _, _, rfl, rfl, s8 _ _ eL, upd_same, (by show 4 ≤ sizeLine; decide), fun d hd => ?_⟩
    have s9 : Same (upd G7 c (.lst [.ref q1])) (upd (upd G7 c (.lst [.ref q1])) d (.lst [.ref q1, .ref q2, .ref q3, .ref q1])) := Same.updf hd
    obtain ⟨G9, eG9⟩ : ∃ X, X = upd (upd G7 c (.lst [.ref q1])) d (.lst [.ref q1, .ref q2, .ref q3, .ref q1]) := ⟨_, rfl⟩
    have ed : G9 d = some (.lst [.ref q1, .ref q2, .ref q3, .ref q1]) := by rw [eG9]; exact upd_same
    have s79 : Same G7 G9 := by rw [eG9]; exact s8.trans s9
    refine ⟨d, rfl, ⟨_, SqL.of (by rw [← ed, eG9]; rfl)⟩, ?_⟩
    refine (show _ from ?_)
    refine for_list (xs := [.ref q1, .ref q2, .ref q3, .ref q1]) (fun i σ Hx => Same G9 Hx ∧ ∃ v3, σ = [some (.ref a), some (.ref pu), some (.ref L), v3, none, none, none, none, none, none]) ⟨by rw [eG9]; exact Same.refl _, _, rfl⟩ (fun i σ Hx _ hh => SqL.of (hh.1 _ _ ed)) ?_ ?_
    · rintro i y σ Hx hy ⟨sx, v3, rfl⟩
      obtain ⟨es, b, rfl, hA, hV, h14⟩ : ∃ es, LvAt Hx y es := by
        have st := s79.trans sx
        match i with
        | 0 => cases hy; exact ⟨_, A1.same st⟩
        | 1 => cases hy; exact ⟨_, A2.same st⟩
        | 2 => cases hy; exact ⟨_, A3.same st⟩
        | 3 => cases hy; exact ⟨_, A1.same st⟩
        | i + 4 => simp at hy
      refine ⟨_, rfl, b, es, rfl, hA, hV, fun Hy sy => ⟨true, true, rfl, rfl, _, rfl, iteF ?_⟩⟩
      exact ⟨_, rfl, b, es, rfl, hA.same sy, hV, h14, fun Hz sz => ⟨true, rfl, iteF ⟨sx.trans (sy.trans sz), _, rfl⟩⟩⟩
    · rintro σ Hx ⟨sx, v3, rfl⟩
      have s7x := s79.trans sx
      -- a life that grows
      refine ⟨(by show 0 ≤ sizeLine; decide), fun l hl => ?_⟩
      have sl : Same Hx (upd Hx l (.lst [])) := Same.updf hl
      have Px := P7.same s7x
      refine ⟨_, rfl, pu, 4, M3, rfl, by decide, log_small (by decide) (by decide), Px.same sl, by rw [mixes_one (by decide) (by decide)]; omega, by rw [mixes_one (by decide) (by decide)]; decide, fun r Hy r0 r1 by1 Py => ?_⟩
      refine ⟨_, _, rfl, rfl, (by show 2 ≤ sizeLine; decide), fun T hT => ⟨T, [_, _], rfl, .inl (.inl upd_same), rfl, _, [_], rfl, _, [], rfl, rfl, ?_⟩⟩
      obtain ⟨pl, hpl⟩ : ∃ pl : Nat, (1 : Int) + r = pl := ⟨(1 + r).toNat, by omega⟩
      have sT : Same Hy (upd Hy T (.tup [.ref l, .int (1 + r)])) := Same.updf hT
      obtain ⟨Hz, eHz⟩ : ∃ X, X = upd Hy T (.tup [.ref l, .int (1 + r)]) := ⟨_, rfl⟩
      have eσ : ∀ (D : Ends) (f : L2.St → Hp → Prop), f [some (.ref a), some (.ref pu), some (.ref L), v3, some (.ref l), some (.int (pl : Int)), none, none, none, none] Hz → f [some (.ref a), some (.ref pu), some (.ref L), v3, some (.ref l), some (.int (1 + r)), none, none, none, none] (upd Hy T (.tup [.ref l, .int (1 + r)])) := fun D f h => by
        rw [hpl]
        rw [eHz, hpl] at h
        exact h
      have nl : l ≠ pu := fresh_ne Px hl
      have bz : But pu Hx Hz := by
        rw [eHz]
        exact ((But.of sl).trans by1).trans (But.of sT)
      have ezl : Hz l = some (.lst []) := by
        rw [eHz]
        exact sT _ _ (by1 _ _ nl upd_same)
      have Pz := Px
      have LV : ∀ (i : Nat) (x : V) (es : List Ev), ([.ref q1, .ref q2, .ref q3] : List V)[i]? = some x → ([es1, es2, [.line, .stand 1, .root, .line, .line]] : List (List Ev))[i]? = some es → LvAt Hz x es := fun i x es a b => by
        have up : ∀ {y : V} {fs : List Ev}, LvAt Hx y fs → LvAt Hz y fs := fun {y fs} h => by
          obtain ⟨b0, e0, h0, hh⟩ := h
          exact ⟨b0, e0, h0.but Px bz, hh⟩
        match i with
        | 0 => cases a; cases b; exact up (A1.same s7x)
        | 1 => cases a; cases b; exact up (A2.same s7x)
        | 2 => cases a; cases b; exact up (A3.same s7x)
        | i + 3 => simp at a
      have nLp : L ≠ pu := refs_ne_purse (ts := [q1, q2, q3]) P7 eL
      have eLz : Hz L = some (.lst [.ref q1, .ref q2, .ref q3]) := bz _ _ nLp (s7x _ _ eL)
      refine eσ { nx := fun _ _ => True, rt := Q } _ ?_
      obtain ⟨b1, eb1, hb1, _, _⟩ := LV 0 _ _ rfl rfl
      cases eb1
      obtain ⟨ts, hts, lt, kt⟩ := id hb1
      have lq : l ≠ q1 := fun z => by
        have := A1.same s7x
        obtain ⟨b2, eb2, ⟨ts2, hts2, _⟩, _⟩ := this
        cases eb2
        rw [z, hts2] at hl
        cases hl
      have tl : ∀ (i : Nat) (t : Addr) (e : Ev), ts[i]? = some t → es1[i]? = some e → t ≠ l := fun i t e a b z => by
        have := kt i t e a b
        rw [z, ezl] at this
        cases this
      refine ⟨_, rfl, L, _, 0, .ref q1, rfl, rfl, SqL.of eLz, atI_nat (j := 0) rfl, q1, rfl, ⟨_, SqL.of hts⟩, ?_⟩
      refine for_list (xs := ts.map V.ref) (fun i σ H8 => But l Hz H8 ∧ H8 l = some (.lst ((ts.map V.ref).take i)) ∧ ∃ v6, σ = [some (.ref a), some (.ref pu), some (.ref L), v3, some (.ref l), some (.int (pl : Int)), v6, none, none, none])
        ⟨But.refl _ _, ezl, _, rfl⟩ (fun i σ H8 _ hh => SqL.of (hh.1 _ _ (Ne.symm lq) hts)) ?_ ?_
      · rintro i y σ H8 hy ⟨b8, e8, v6, rfl⟩
        have hi : i < ts.length := by
          rcases Nat.lt_or_ge i ts.length with q | q
          · exact q
          · rw [List.getElem?_map, List.getElem?_eq_none q] at hy
            cases hy
        refine ⟨_, rfl, Or.inl ⟨rfl, _, SqL.of e8⟩, _, rfl, l, _, _, rfl, rfl, e8, ?_, ?_⟩
        · rw [List.length_take, List.length_map]
          have : (2000 : Nat) ≤ sizeLine := by decide
          omega
        have et : (ts.map V.ref).take i ++ [y] = (ts.map V.ref).take (i + 1) := by
          rw [List.take_succ, hy]
          rfl
        rw [et]
        obtain ⟨H9, eH9⟩ : ∃ X, X = upd H8 l (.lst ((ts.map V.ref).take (i + 1))) := ⟨_, rfl⟩
        have e9 : H9 l = some (.lst ((ts.map V.ref).take (i + 1))) := by rw [eH9]; exact upd_same
        have b9 : But l Hz H9 := by
          rw [eH9]
          exact b8.trans But.upd
        have hLl : LifeAt H9 l (es1.take (i + 1)) := LifeAt.cut lt (fun j t e a b => b9 _ _ (tl j t e a b) (kt j t e a b)) (i + 1) e9
        have hVl := V1.take (i + 1)
        have h14 : (es1.take (i + 1)).length ≤ 14 := by
          rw [List.length_take]
          omega
        refine (show _ from ?_)
        rw [← eH9]
        refine ⟨_, rfl, _, rfl, l, es1.take (i + 1), pl, rfl, hLl, hVl, by omega, fun Ha sa => ?_⟩
        refine ⟨_, rfl, l, es1.take (i + 1), rfl, hLl.same sa, hVl, fun m Hb sb hm => ?_⟩
        have sab := sa.trans sb
        refine ⟨(by show 2 ≤ sizeLine; decide), fun l1 hl1 => ?_⟩
        have s10 : Same Hb (upd Hb l1 (.lst [.bl (full (es1.take (i + 1)) pl).isNone, .int m])) := Same.updf hl1
        have s9a := sab.trans s10
        refine ⟨_, rfl, _, rfl, l, es1.take (i + 1), pl, rfl, hLl.same s9a, hVl.len, by omega, by omega, fun Hc sc => ⟨rfl, ?_⟩⟩
        have s9c := s9a.trans sc
        refine ⟨(by show 1 ≤ sizeLine; decide), fun c1 hc1 => ?_⟩
        have s11 : Same Hc (upd Hc c1 (.lst [.int 1])) := Same.updf hc1
        refine ⟨2, 16, rfl, ⟨by omega, by omega, by omega, by omega⟩, fun D hD => ?_⟩
        refine lc_sel (walk_range (lo := 2) (n := 14)) (fun j => if (full (es1.take (i + 1)) (1 + j)).isNone = true then none else some (.int ((2 + j : Nat) : Int))) (by decide) hD (fun _ _ => trivial) ?_ ?_
        · rintro j v H3' H4' Qy Qn hj s3 ⟨rfl, hv⟩ ky kn
          have ep : (2 + (j : Int)) = ((2 + j : Nat) : Int) := by omega
          obtain rfl : v = .int ((2 + j : Nat) : Int) := hv.trans (congrArg V.int ep)
          refine ⟨rfl, _, rfl, _, rfl, _, _, rfl, rfl, l, es1.take (i + 1), 1 + j, ?_, ((hLl.same s9c).same s11).same s3, hVl.len, by omega, by omega, fun H5' s5 => ⟨rfl, _, rfl, ?_⟩⟩
          · have : (((2 + j : Nat) : Int) - 1) = ((1 + j : Nat) : Int) := by omega
            show [V.ref l, V.int (((2 + j : Nat) : Int) - 1)] = _
            rw [this]
          · rw [opt_non]
            cases cc : (full (es1.take (i + 1)) (1 + j)).isNone with
            | true => exact iteF (kn _ s5 (by rw [if_pos cc]))
            | false => exact iteT ⟨_, rfl, ky _ _ s5 (by rw [if_neg (by rw [cc]; exact Bool.false_ne_true)])⟩
        · intro Hd sd hR
          have eR : ((List.range 14).filterMap fun j : Nat => if (full (es1.take (i + 1)) (1 + j)).isNone = true then none else some (V.int ((2 + j : Nat) : Int))) = ((List.range 14).filterMap fun j : Nat => if (full (es1.take (i + 1)) (1 + j)).isNone = true then none else some (((2 + j : Nat) : Int))).map V.int := by
            rw [List.map_filterMap]
            refine fm_congr fun j _ => ?_
            by_cases cc : (full (es1.take (i + 1)) (1 + j)).isNone = true
            · rw [if_pos cc, if_pos cc]
              rfl
            · rw [if_neg cc, if_neg cc]
              rfl
          rw [eR] at hR
          have s11d := s11.trans sd
          refine ⟨c1, D, _, _, rfl, rfl, sd _ _ upd_same, hR, ?_, fun c2 hc2 => ?_⟩
          · have h1 := List.length_filterMap_le (fun j : Nat => if (full (es1.take (i + 1)) (1 + j)).isNone = true then none else some (((2 + j : Nat) : Int))) (List.range 14)
            rw [List.length_range] at h1
            rw [List.length_map]
            show 1 + _ ≤ sizeLine
            have : (2000 : Nat) ≤ sizeLine := by decide
            omega
          have s12 := Same.updf (o := .lst ([V.int 1] ++ ((List.range 14).filterMap fun j : Nat => if (full (es1.take (i + 1)) (1 + j)).isNone = true then none else some (((2 + j : Nat) : Int))).map V.int)) hc2
          refine ⟨c2, 1 :: ((List.range 14).filterMap fun j : Nat => if (full (es1.take (i + 1)) (1 + j)).isNone = true then none else some (((2 + j : Nat) : Int))), rfl, SqL.of upd_same, Nat.succ_pos _, fun mx hmx hle => ?_⟩
          have emx := max_least hVl h14 hm hmx hle
          subst emx
          refine ⟨(by show 2 ≤ sizeLine; decide), fun l2 hl2 => ?_⟩
          have s13 := Same.updf (o := .lst [.bl (decide (optV (full (es1.take (i + 1)) pl) = V.non)), .int mx]) hl2
          have sfin := sc.trans (s11d.trans (s12.trans s13))
          refine ⟨.ref l1, .ref l2, .list [.bool (full (es1.take (i + 1)) pl).isNone, .int mx], rfl, Tr.lst (sfin _ _ upd_same) rfl (Nat.le_of_ble_eq_true rfl) (tr_cons (Tr.flat (.bl _)) (tr_cons (Tr.flat (.int _)) tr_nil)), ?_, fun He se => ⟨true, rfl, iteF ?_⟩⟩
          · refine Tr.lst upd_same rfl (Nat.le_of_ble_eq_true rfl) (tr_cons (Tr.flat ?_) (tr_cons (Tr.flat (.int _)) tr_nil))
            rw [opt_non]
            exact .bl _
          · have s9e := s9a.trans (sfin.trans se)
            exact ⟨b9.trans (But.of s9e), s9e _ _ e9, _, rfl⟩
      · rintro σ H8 ⟨b8, e8, v6, rfl⟩
        have LV8 : ∀ (i : Nat) (x : V) (es : List Ev), ([.ref q1, .ref q2, .ref q3] : List V)[i]? = some x → ([es1, es2, [.line, .stand 1, .root, .line, .line]] : List (List Ev))[i]? = some es → LvAt H8 x es := fun i x es a b => by
          obtain ⟨b0, e0, ⟨ts0, h0, lt0, k0⟩, hh⟩ := LV i x es a b
          have n0 : b0 ≠ l := fun z => by
            subst e0
            have old : ∃ o, Hx b0 = some o := by
              match i with
              | 0 => cases a; obtain ⟨y, ey, ⟨ts9, h9, _⟩, _⟩ := A1.same s7x; cases ey; exact ⟨_, h9⟩
              | 1 => cases a; obtain ⟨y, ey, ⟨ts9, h9, _⟩, _⟩ := A2.same s7x; cases ey; exact ⟨_, h9⟩
              | 2 => cases a; obtain ⟨y, ey, ⟨ts9, h9, _⟩, _⟩ := A3.same s7x; cases ey; exact ⟨_, h9⟩
              | i + 3 => simp at a
            obtain ⟨o, ho⟩ := old
            rw [z, hl] at ho
            cases ho
          refine ⟨b0, e0, ⟨ts0, b8 _ _ n0 h0, lt0, fun j t e a b => b8 _ _ (fun z => ?_) (k0 j t e a b)⟩, hh⟩
          have := k0 j t e a b
          rw [z, ezl] at this
          cases this
        have nLl : L ≠ l := fun z => by
          have := s7x _ _ eL
          rw [z, hl] at this
          cases this
        have eL8 := b8 _ _ nLl eLz
        refine via_nx (via_seq (via_asg ?_))
        refine noted_lc rfl rfl eL8 rfl (Nat.le_of_ble_eq_true rfl) LV8 fun n1 Ha sa hn1 T1 => ?_
        refine via_nx (via_seq (via_asg ?_))
        refine due_lc rfl rfl (sa _ _ eL8) rfl (Nat.le_of_ble_eq_true rfl) (fun i x es a b => (LV8 i x es a b).same sa) fun n2 Hb sb hn2 T2 => ?_
        refine ⟨_, rfl, _, rfl, .ref n1, .ref n2, _, rfl, T1.same sb, T2, fun Hc sc => ⟨true, rfl, iteT ?_⟩⟩
        -- the empty life
        refine ⟨(by show 0 ≤ sizeLine; decide), fun x1 hx1 => ?_⟩
        refine ⟨x1, [], 1, rfl, nil_life upd_same, Valid.nil, by decide, fun Hd sd => ?_⟩
        have f0 : (full [] 1).isNone = true := rfl
        rw [f0]
        refine ⟨(by show 0 ≤ sizeLine; decide), fun x2 hx2 => ?_⟩
        refine ⟨x2, [], rfl, nil_life upd_same, Valid.nil, fun m He se hm => ?_⟩
        have hm1 : m = 1 := hm.no rfl
        subst hm1
        refine ⟨(by show 0 ≤ sizeLine; decide), fun x3 hx3 => ?_⟩
        refine ⟨x3, [], 0, rfl, nil_life upd_same, Valid.nil, by decide, fun q Hf sf hq eq => ?_⟩
        refine ⟨(by show 3 ≤ sizeLine; decide), fun l1 hl1 => ?_⟩
        have sg : Same Hf (upd Hf l1 (.lst [.bl true, .int 1, .ref q])) := Same.updf hl1
        refine ⟨(by show 0 ≤ sizeLine; decide), fun x4 hx4 => ⟨(by show 3 ≤ sizeLine; decide), fun l2 hl2 => ?_⟩⟩
        have sh : Same (upd Hf l1 (.lst [.bl true, .int 1, .ref q])) (upd (upd Hf l1 (.lst [.bl true, .int 1, .ref q])) x4 (.lst [])) := Same.updf hx4
        have si := Same.updf (o := .lst [.bl true, .int 1, .ref x4]) hl2
        have shi := sh.trans si
        have eq' : Hf q = some (.lst []) := eq
        refine ⟨.ref l1, .ref l2, .list [.bool true, .int 1, .list []], rfl, Tr.lst (shi _ _ upd_same) rfl (by decide) (tr_cons (Tr.flat (.bl _)) (tr_cons (Tr.flat (.int _)) (tr_cons (Tr.lst (shi _ _ (sg _ _ eq')) rfl (by decide) tr_nil) tr_nil))), Tr.lst upd_same rfl (by decide) (tr_cons (Tr.flat (.bl _)) (tr_cons (Tr.flat (.int _)) (tr_cons (Tr.lst (si _ _ upd_same) rfl (by decide) tr_nil) tr_nil))), fun Hg _ => k Hg⟩
end
end K37
set_option Elab.async false
set_option linter.all false
set_option maxRecDepth 100000
set_option maxHeartbeats 16000000
/-! The end. -/
namespace K37
open PySem PySem.Spec PyProof.Rows L2 KB
section
variable {P : Program} {w : World} {K : PySem.W.Frag} {h : Heap} {mg : Str → Option Value} {base : Heap}
theorem facM (c : He.SaysD fa fn K) {f : He.Fa} (hf : f ∈ fa) : f.ok K = true := by
  have c1 := (He.ba (show ((fa.all fun f => f.ok K) && fn.all fun d => d.ok K) = true from congrArg (fun z : He.AlD => z.1) c)).1
  exact List.all_eq_true.mp c1 f hf
theorem facts {f : Addr} (X : K.In h) (G : h.Ns mainGlobals mg) (hfa : mg ("law" : Str) = some (.ref f)) (c : He.SaysD fa fn K) (ex : exB K = true) :
    ∃ fd : FuncData, (∀ (s : Shared) (v : Value), BindsTo s fd ⟨[v], []⟩ [("_law_script", v)]) ∧ ∀ base : Heap, K.In base → base.Ns mainGlobals mg → FnOk P w K mg base CX0 10 f fd ["_law_script"] (spLaw K) := by
  obtain ⟨d_is_whole_number, F_is_whole_number⟩ := c.def_ 0 (d := dT 6 "is_whole_number") rfl
  obtain ⟨d_is_count, F_is_count⟩ := c.def_ 1 (d := dT 7 "is_count") rfl
  obtain ⟨d_is_count_below, F_is_count_below⟩ := c.def_ 2 (d := dT 8 "is_count_below") rfl
  obtain ⟨d_is_count_from_one, F_is_count_from_one⟩ := c.def_ 3 (d := dT 9 "is_count_from_one") rfl
  obtain ⟨d_is_tuple_of, F_is_tuple_of⟩ := c.def_ 4 (d := dT 10 "is_tuple_of") rfl
  obtain ⟨d_need_count_from_one, F_need_count_from_one⟩ := c.def_ 5 (d := dT 12 "need_count_from_one") rfl
  obtain ⟨d_is_stand, F_is_stand⟩ := c.def_ 6 (d := dT 16 "is_stand") rfl
  obtain ⟨d_is_event, F_is_event⟩ := c.def_ 7 (d := dT 17 "is_event") rfl
  obtain ⟨d_is_life, F_is_life⟩ := c.def_ 8 (d := dT 18 "is_life") rfl
  obtain ⟨d_need_life, F_need_life⟩ := c.def_ 9 (d := dT 19 "need_life") rfl
  obtain ⟨d_need_life_and_places, F_need_life_and_places⟩ := c.def_ 10 (d := dT 20 "need_life_and_places") rfl
  obtain ⟨d_need_moment, F_need_moment⟩ := c.def_ 11 (d := dT 21 "need_moment") rfl
  obtain ⟨d_numbers_given_up, F_numbers_given_up⟩ := c.def_ 12 (d := dT 22 "numbers_given_up") rfl
  obtain ⟨d_line_places, F_line_places⟩ := c.def_ 13 (d := dT 23 "line_places") rfl
  obtain ⟨d_given_up, F_given_up⟩ := c.def_ 14 (d := dT 24 "given_up") rfl
  obtain ⟨d_still_needed, F_still_needed⟩ := c.def_ 15 (d := dT 25 "still_needed") rfl
  obtain ⟨d_wanted, F_wanted⟩ := c.def_ 16 (d := dT 26 "wanted") rfl
  obtain ⟨d_fits, F_fits⟩ := c.def_ 17 (d := dT 27 "fits") rfl
  obtain ⟨d_first_full, F_first_full⟩ := c.def_ 18 (d := dT 28 "first_full") rfl
  obtain ⟨d_least_places, F_least_places⟩ := c.def_ 19 (d := dT 29 "least_places") rfl
  obtain ⟨d_purse, F_purse⟩ := c.def_ 20 (d := dT 31 "_law_purse") rfl
  obtain ⟨d_mixed, F_mixed⟩ := c.def_ 21 (d := dT 32 "_law_mixed") rfl
  obtain ⟨d_draw, F_draw⟩ := c.def_ 22 (d := dT 33 "_law_draw") rfl
  obtain ⟨d_exact, F_exact⟩ := c.def_ 23 (d := dT 34 "_law_exact") rfl
  obtain ⟨d_life, F_life⟩ := c.def_ 24 (d := dT 35 "_law_life") rfl
  obtain ⟨d_ring_walk, F_ring_walk⟩ := c.def_ 25 (d := dT 36 "_law_ring_walk") rfl
  obtain ⟨d_gone, F_gone⟩ := c.def_ 26 (d := dT 37 "_law_gone") rfl
  obtain ⟨d_life_right, F_life_right⟩ := c.def_ 27 (d := dT 38 "_law_life_right") rfl
  obtain ⟨d_law, F_law⟩ := c.def_ 28 (d := dT 39 "law") rfl
  have el : ∀ {α : Type} {l : List α} {i : Nat} {a : α}, l[i]? = some a → a ∈ l := fun h => List.mem_of_getElem? h
  have gl : ∀ {x : Str}, He.Fa.glo x ∈ fa0 → mg x = some (.ref (He.ga K x)) := fun {x} hx => He.glo_ok X G (facM c (List.mem_append_left _ hx))
  have fr : ∀ {x : Str}, He.Fa.free x ∈ fa1 → mg x = none := fun {x} hx => He.free_ok X G (facM c (List.mem_append_right _ (List.mem_append_left _ hx)))
  have f2 : ∀ {y : He.Fa}, y ∈ fa2 → y.ok K = true := fun {y} hx => facM c (List.mem_append_right _ (List.mem_append_right _ hx))
  have Z : Free mg := ⟨fr (el (i := 0) rfl), fr (el (i := 1) rfl), fr (el (i := 2) rfl), fr (el (i := 3) rfl), fr (el (i := 4) rfl), fr (el (i := 5) rfl), fr (el (i := 6) rfl), fr (el (i := 7) rfl), fr (el (i := 8) rfl), fr (el (i := 9) rfl), fr (el (i := 10) rfl), fr (el (i := 11) rfl), fr (el (i := 12) rfl), fr (el (i := 13) rfl), fr (el (i := 14) rfl), fr (el (i := 15) rfl), fr (el (i := 16) rfl), fr (el (i := 17) rfl)⟩
  have g_is_whole_number := gl (x := "is_whole_number") (el (i := 0) rfl)
  have g_is_count := gl (x := "is_count") (el (i := 1) rfl)
  have g_is_count_below := gl (x := "is_count_below") (el (i := 2) rfl)
  have g_is_count_from_one := gl (x := "is_count_from_one") (el (i := 3) rfl)
  have g_is_tuple_of := gl (x := "is_tuple_of") (el (i := 4) rfl)
  have g_need_count_from_one := gl (x := "need_count_from_one") (el (i := 5) rfl)
  have g_is_stand := gl (x := "is_stand") (el (i := 6) rfl)
  have g_is_event := gl (x := "is_event") (el (i := 7) rfl)
  have g_is_life := gl (x := "is_life") (el (i := 8) rfl)
  have g_need_life := gl (x := "need_life") (el (i := 9) rfl)
  have g_need_life_and_places := gl (x := "need_life_and_places") (el (i := 10) rfl)
  have g_need_moment := gl (x := "need_moment") (el (i := 11) rfl)
  have g_numbers_given_up := gl (x := "numbers_given_up") (el (i := 12) rfl)
  have g_line_places := gl (x := "line_places") (el (i := 13) rfl)
  have g_given_up := gl (x := "given_up") (el (i := 14) rfl)
  have g_still_needed := gl (x := "still_needed") (el (i := 15) rfl)
  have g_wanted := gl (x := "wanted") (el (i := 16) rfl)
  have g_fits := gl (x := "fits") (el (i := 17) rfl)
  have g_first_full := gl (x := "first_full") (el (i := 18) rfl)
  have g_least_places := gl (x := "least_places") (el (i := 19) rfl)
  have g_purse := gl (x := "_law_purse") (el (i := 20) rfl)
  have g_mixed := gl (x := "_law_mixed") (el (i := 21) rfl)
  have g_draw := gl (x := "_law_draw") (el (i := 22) rfl)
  have g_exact := gl (x := "_law_exact") (el (i := 23) rfl)
  have g_life := gl (x := "_law_life") (el (i := 24) rfl)
  have g_ring_walk := gl (x := "_law_ring_walk") (el (i := 25) rfl)
  have g_gone := gl (x := "_law_gone") (el (i := 26) rfl)
  have g_life_right := gl (x := "_law_life_right") (el (i := 27) rfl)
  have g_law := gl (x := "law") (el (i := 28) rfl)
  have gLINE := He.glo_ok X G (f2 (y := .glo "LINE") (el (i := 0) rfl))
  have gROOT := He.glo_ok X G (f2 (y := .glo "ROOT") (el (i := 1) rfl))
  obtain ⟨x1, x2⟩ := He.ba ex
  have C : Cn K mg := ⟨gLINE, gROOT, fun H => He.tupB_ok x1 H, fun H => He.tupB_ok x2 H⟩
  have e12 := hfa.symm.trans g_law
  cases e12
  have bL := FunD.bindsA (ps := ["_law_script"]) F_law fun _ _ _ _ _ _ us hl => match us, hl with | [_], _ => rfl
  refine ⟨d_law, fun s v => bL s [v] rfl, fun base _ _ => ?_⟩
  have O_is_whole_number := ok_is_whole_number (P := P) (w := w) (base := base) F_is_whole_number Z  
  have O_is_count := ok_is_count (P := P) (w := w) (base := base) F_is_count Z g_is_whole_number F_is_whole_number O_is_whole_number 
  have O_is_count_below := ok_is_count_below (P := P) (w := w) (base := base) F_is_count_below Z g_is_count F_is_count O_is_count 
  have O_is_count_from_one := ok_is_count_from_one (P := P) (w := w) (base := base) F_is_count_from_one Z g_is_count F_is_count O_is_count 
  have O_is_tuple_of := ok_is_tuple_of (P := P) (w := w) (base := base) F_is_tuple_of Z  
  have O_need_count_from_one := ok_need_count_from_one (P := P) (w := w) (base := base) F_need_count_from_one Z g_is_count_from_one F_is_count_from_one O_is_count_from_one 
  have O_is_stand := ok_is_stand (P := P) (w := w) (base := base) F_is_stand Z g_is_tuple_of F_is_tuple_of O_is_tuple_of g_is_count F_is_count O_is_count 
  have O_is_event := ok_is_event (P := P) (w := w) (base := base) F_is_event Z g_is_stand F_is_stand O_is_stand C
  have O_is_life := ok_is_life (P := P) (w := w) (base := base) F_is_life Z g_is_event F_is_event O_is_event C
  have O_need_life := ok_need_life (P := P) (w := w) (base := base) F_need_life Z g_is_life F_is_life O_is_life 
  have O_need_life_and_places := ok_need_life_and_places (P := P) (w := w) (base := base) F_need_life_and_places Z g_need_life F_need_life O_need_life g_need_count_from_one F_need_count_from_one O_need_count_from_one 
  have O_need_moment := ok_need_moment (P := P) (w := w) (base := base) F_need_moment Z g_need_life F_need_life O_need_life g_is_count_below F_is_count_below O_is_count_below 
  have O_numbers_given_up := ok_numbers_given_up (P := P) (w := w) (base := base) F_numbers_given_up Z g_is_stand F_is_stand O_is_stand C
  have O_line_places := ok_line_places (P := P) (w := w) (base := base) F_line_places Z  C
  have O_given_up := ok_given_up (P := P) (w := w) (base := base) F_given_up Z g_need_moment F_need_moment O_need_moment g_numbers_given_up F_numbers_given_up O_numbers_given_up 
  have O_still_needed := ok_still_needed (P := P) (w := w) (base := base) F_still_needed Z g_need_moment F_need_moment O_need_moment g_numbers_given_up F_numbers_given_up O_numbers_given_up C
  have O_wanted := ok_wanted (P := P) (w := w) (base := base) F_wanted Z g_numbers_given_up F_numbers_given_up O_numbers_given_up g_line_places F_line_places O_line_places 
  have O_fits := ok_fits (P := P) (w := w) (base := base) F_fits Z g_need_life_and_places F_need_life_and_places O_need_life_and_places g_wanted F_wanted O_wanted 
  have O_first_full := ok_first_full (P := P) (w := w) (base := base) F_first_full Z g_need_life_and_places F_need_life_and_places O_need_life_and_places g_wanted F_wanted O_wanted 
  have O_least_places := ok_least_places (P := P) (w := w) (base := base) F_least_places Z g_need_life F_need_life O_need_life g_numbers_given_up F_numbers_given_up O_numbers_given_up g_line_places F_line_places O_line_places 
  have O_purse := ok_purse (P := P) (w := w) (base := base) F_purse Z
  have O_draw := ok_draw (P := P) (w := w) (base := base) F_draw Z F_mixed g_mixed
  have O_exact := ok_exact (P := P) (w := w) (base := base) F_exact Z g_exact
  have O_life := ok_life (P := P) (w := w) (base := base) F_life Z g_draw F_draw O_draw 
  have O_ring_walk := ok_ring_walk (P := P) (w := w) (base := base) F_ring_walk Z  
  have O_gone := ok_gone (P := P) (w := w) (base := base) F_gone Z  
  have O_life_right := ok_life_right (P := P) (w := w) (base := base) F_life_right Z g_ring_walk F_ring_walk O_ring_walk g_exact F_exact O_exact g_gone F_gone O_gone g_still_needed F_still_needed O_still_needed g_least_places F_least_places O_least_places g_fits F_fits O_fits g_first_full F_first_full O_first_full g_given_up F_given_up O_given_up 
  exact ok_law F_law Z g_purse F_purse O_purse g_life F_life O_life g_exact F_exact O_exact g_draw F_draw O_draw g_still_needed F_still_needed O_still_needed g_first_full F_first_full O_first_full g_ring_walk F_ring_walk O_ring_walk g_is_life F_is_life O_is_life g_life_right F_life_right O_life_right g_fits F_fits O_fits g_least_places F_least_places O_least_places g_gone F_gone O_gone 
end
end K37
open PySem PySem.W PySem.Calls PyProof.Rows
theorem PySem.Challenge.cw_weavestore_k37_whole_lives_of_rings_holds : PySem.Challenge.rw_weavestore_k37_whole_lives_of_rings.Holds := by
  w_on; o_law
  refine HandSHeadRun.head_any (r := OpenLaw.row PySem.Challenge.rw_weavestore_k37_whole_lives_of_rings) (q := view (OpenLaw.row PySem.Challenge.rw_weavestore_k37_whole_lives_of_rings).prog [39]) (H := K37.hk) (ob := K37.ob) (M := 20000) (loose := K37.names) (d := HandSHeadRun.topDef (OpenLaw.row PySem.Challenge.rw_weavestore_k37_whole_lives_of_rings).prog 39) (kwd := []) K37.ob_eq
    (by kernel_rfl) (fun s => by kernel_rfl) K37.run (by kernel_rfl) (by kernel_rfl) (by kernel_rfl) (by rfl) (by first | assumption | decide +kernel) (by decide +kernel) ⟨rfl, rfl, rfl, rfl, rfl, by decide +kernel⟩ ?hw ?hc
  case hw => w_witness2
  case hc =>
    refine L2.walk_ofE (l := PySem.Challenge.rw_weavestore_k37_whole_lives_of_rings) (n := 63) (k := 10) (x := "_law_script") (CX := L2.CX0) rfl (by decide) (by kernel_rfl) ⟨rfl, by decide, by decide⟩ ?F (fun _ _ _ _ h => h)
    intro w mg fa h Y G hmg0
    obtain ⟨K, KX, c, ex⟩ := Y
    have hmg : mg ("law" : PySem.Str) = some (.ref fa) := by
      have e : (HandSHeadRun.topDef (OpenLaw.row PySem.Challenge.rw_weavestore_k37_whole_lives_of_rings).prog 39).name = ("law" : PySem.Str) := by kernel_rfl
      rw [← e]
      exact hmg0
    obtain ⟨fd, hb, hF⟩ := K37.facts (P := (PySem.Challenge.rw_weavestore_k37_whole_lives_of_rings).prog) (w := w) KX G hmg c ex
    exact ⟨K, fd, K37.spLaw K, KX, hb, fun H a ns hl _ hS => ⟨a, ns, rfl, hS, fun _ => rfl⟩, hF⟩
