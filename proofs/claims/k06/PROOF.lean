import PyProof.Rows.All
import Wide.All
import OpenK.AllK
import Wide.FinOn
import KE.KStateDown
import KE.KIsAll
import HandS.Words
import HandS.Head0
import HandS.Head1
import HandS.Head2
import HandS.HeadHook1
import HandS.HeadHook2
import PySem.Challenge.RW_weavestore_k06_whole_pictures_and_told_p
import HandS.ForMost
import HandS.Wide
import HandS.WideBits
import HandS.Ends
import HandS.HeadEnd
import HandS.Exc
import HandS.Defaults
import HandS.Walk
import HandS.IsInst
import HandS.Style
import HandS.Zip
import HandS.Conv
import HandS.Deep
import HandS.SortKw
import HandS.SetBool
import HandS.Strs
import HandS.TupSets
import HandS.Set
import HandS.SetKeys
import HandS.Spec
import KE.KSetDisp
import HandS.DictEq
import HandS.DictComp
import HandS.More
import HandS.Dict
import HandS.ListItems
import HandS.Iter
import PyProof.NeData
import KE.SortData
import PyProof.MinMaxWalk
import PyProof.WalkInts
import HandS.Text
import HandS.NoneIn
set_option Elab.async false
set_option linter.all false
set_option maxRecDepth 100000
set_option maxHeartbeats 0
/-! What is read of the heap that the module's top leaves, and the run of it. -/
namespace K06
open PySem PySem.Spec PyProof.Rows L2
def top (i : Nat) : Stmt := PySem.Challenge.pw_weavestore_k06_whole_pictures_and_told_p.main.body.getD i (.Pass ⟨0, 0, 0, 0⟩)
def exB (K : PySem.W.Frag) : Bool := true
def dT (i : Nat) (x : Str) : He.DefD := ⟨(x, none), x, x, defArgs (top i), defBody (top i), defScope (top i), [], []⟩
def fn0 : List He.DefD := [dT 6 "is_whole_number", dT 7 "is_count", dT 8 "is_count_below", dT 9 "is_tuple_of", dT 11 "need_count", dT 12 "need_changed_and_unread", dT 14 "is_code", dT 15 "is_row_of_signs", dT 16 "need_code", dT 17 "need_position", dT 18 "shows_two", dT 19 "all_twos", dT 20 "is_picture", dT 21 "twos", dT 22 "told_pages"]
def fn1 : List He.DefD := [dT 23 "in_all", dT 24 "told_page", dT 25 "unlike_cells_of_three", dT 26 "parted_cells", dT 27 "cells_unlike", dT 28 "cells_parted", dT 29 "need_two_positions", dT 31 "_law_purse", dT 32 "_law_mixed", dT 33 "_law_draw", dT 34 "_law_purses", dT 35 "_law_one_of", dT 36 "_law_shuffled", dT 37 "_law_same", dT 38 "_law_exact"]
def fn2 : List He.DefD := [dT 39 "_law_turned_cells", dT 40 "_law_line_page", dT 41 "_law_random_code", dT 42 "_law_drawn_code", dT 43 "_law_may_leave", dT 44 "_law_twos", dT 45 "_law_told", dT 46 "_law_unlike", dT 47 "_law_parted", dT 48 "_law_triples", dT 49 "_law_some_picture", dT 50 "_law_all_lists", dT 51 "_law_list_right", dT 52 "_law_pictures_right", dT 53 "_law_cells_right"]
def fn3 : List He.DefD := [dT 54 "_law_others_right", dT 55 "law"]
def fn : List He.DefD := fn0 ++ (fn1 ++ (fn2 ++ (fn3)))
def gn0 : List Str := ["is_whole_number", "is_count", "is_count_below", "is_tuple_of", "need_count", "need_changed_and_unread", "is_code", "is_row_of_signs", "need_code", "need_position", "shows_two", "all_twos", "is_picture", "twos", "told_pages"]
def gn1 : List Str := ["in_all", "told_page", "unlike_cells_of_three", "parted_cells", "cells_unlike", "cells_parted", "need_two_positions", "_law_purse", "_law_mixed", "_law_draw", "_law_purses", "_law_one_of", "_law_shuffled", "_law_same", "_law_exact"]
def gn2 : List Str := ["_law_turned_cells", "_law_line_page", "_law_random_code", "_law_drawn_code", "_law_may_leave", "_law_twos", "_law_told", "_law_unlike", "_law_parted", "_law_triples", "_law_some_picture", "_law_all_lists", "_law_list_right", "_law_pictures_right", "_law_cells_right"]
def gn3 : List Str := ["_law_others_right", "law"]
def gn : List Str := gn0 ++ (gn1 ++ (gn2 ++ (gn3)))
def fa0 : List He.Fa := gn.map He.Fa.glo
def fa1 : List He.Fa := [.free "sum", .free "int", .free "max", .free "min", .free "len", .free "range", .free "isinstance", .free "all", .free "any", .free "zip", .free "divmod", .free "reversed", .free "enumerate", .free "set", .free "list", .free "tuple", .free "dict", .free "bool", .free "str", .free "sorted"]
def fa2 : List He.Fa := []
def fa : List He.Fa := fa0 ++ (fa1 ++ fa2)
def names0 : List Str := ["StoreError", "InvalidCode", "InvalidPage", "InvalidCount", "is_whole_number", "is_count", "is_count_below", "is_tuple_of", "need_count", "need_changed_and_unread", "is_code", "is_row_of_signs", "need_code", "need_position", "shows_two"]
def names1 : List Str := ["all_twos", "is_picture", "twos", "told_pages", "in_all", "told_page", "unlike_cells_of_three", "parted_cells", "cells_unlike", "cells_parted", "need_two_positions", "_law_purse", "_law_mixed", "_law_draw", "_law_purses"]
def names2 : List Str := ["_law_one_of", "_law_shuffled", "_law_same", "_law_exact", "_law_turned_cells", "_law_line_page", "_law_random_code", "_law_drawn_code", "_law_may_leave", "_law_twos", "_law_told", "_law_unlike", "_law_parted", "_law_triples", "_law_some_picture"]
def names3 : List Str := ["_law_all_lists", "_law_list_right", "_law_pictures_right", "_law_cells_right", "_law_others_right"]
def names : List Str := names0 ++ (names1 ++ (names2 ++ (names3)))
abbrev R : PySem.W.OpenRow := PySem.W.OpenLaw.row PySem.Challenge.rw_weavestore_k06_whole_pictures_and_told_p
abbrev qv : Program := PySem.W.view R.prog [55]
abbrev AlX : Type := He.AlD × Bool
def obX (K : PySem.W.Frag) : AlX := (He.obsD fa fn K, exB K)
/-- what an object of these names, one step on -/
def tgt (g : Addr → Option Obj) (a : Addr) : List Addr := match g a with
  | some o => (match o.data with
    | .cls cd => [cd.ns]
    | .func fd => He.refV fd.code ++ He.refV fd.defaults
    | .dict es _ => es.toList.flatMap fun e => He.refV e.val
    | _ => [])
  | none => []
def as1 (g : Addr → Option Obj) : List Addr := tgt g mainGlobals
def as2 (g : Addr → Option Obj) : List Addr := (as1 g).flatMap (tgt g)
def as3 (g : Addr → Option Obj) : List Addr := (as2 g).flatMap (tgt g)
def as4 (g : Addr → Option Obj) : List Addr := (as3 g).flatMap (tgt g)
def obG (g : Addr → Option Obj) : AlX := obX (He.frG g (sysModules :: mainGlobals :: (as1 g ++ (as2 g ++ (as3 g ++ as4 g)))))
def hk : PySem.W.Hook where
  α := AlX
  obs := fun s => obG s.heap.get?
  val := fun _ => (He.valD fn, true)
  says := fun _ h => ∃ K : PySem.W.Frag, K.In h ∧ He.SaysD fa fn K ∧ exB K = true
  of := fun _ _ e => ⟨_, He.frG_in, congrArg (fun z : AlX => z.1) e, congrArg (fun z : AlX => z.2) e⟩
  keeps := fun _ _ _ ⟨K, hK, c⟩ k => ⟨K, PySem.W.Frag.In.keeps hK k, c⟩
def ob (s : PySem.W.SharedT) : AlX := obG (HandSHeadRun.getT s)
theorem ob_eq (s : PySem.W.SharedT) : ob s = hk.obs s.abs := by
  have e : HandSHeadRun.getT s = s.abs.heap.get? := funext (HandSHeadRun.getT_eq s)
  show obG (HandSHeadRun.getT s) = obG s.abs.heap.get?
  rw [e]
theorem run (w : World) : HandSHeadRun.RunEq R qv hk ob 20000 names w := by
  intro os
  kernel_rfl
end K06
set_option Elab.async false
set_option linter.all false
set_option maxRecDepth 100000
set_option maxHeartbeats 4000000
/-! What does not speak of a law: purses, what is left as it was, walks. -/
namespace L2
open PySem PySem.Spec PyProof.Rows
theorem Same.updf {H : Hp} {p : Addr} {o : HO} (h : H p = none) : Same H (L2.upd H p o) := fun b o' e => by
  rw [upd_ne (ne_of_none e h)]
  exact e
/-- a comprehension whose turns change nothing that stands: what it gives at each turn, if anything -/
theorem lc_sel {J : It} {n : Nat} {G : Hp → Prop} {Y : Nat → Hp → V → Hp → Prop} (w : Walk J n G Y) {g : TG} {tt : TT} {te : TE} {vs : List Nat} {σ : St} {H1 : Hp} {D : Addr} {Qd : Hp → Prop} (f : Nat → Option V) (hn : n ≤ 100000) (hD : H1 D = none)
    (hG : ∀ H, Same H1 H → G H)
    (hs : ∀ i x H H' (Qy : V → Hp → Prop) (Qn : Hp → Prop), i < n → Same H1 H → Y i H x H' → (∀ y H4, Same H H4 → f i = some y → Qy y H4) → (∀ H4, Same H H4 → f i = none → Qn H4) →
      g x (wipe σ vs) H' fun σ2 H2 => wipe σ2 vs = wipe σ vs ∧ tt σ2 H2 fun b H3 => if b = true then te σ2 H3 Qy else Qn H3)
    (hd : ∀ H, Same H1 H → H D = some (.lst ((List.range n).filterMap f)) → Qd H) :
    ∃ W : Nat → Nat → Hp → Prop, (∃ m, W 0 m (upd H1 D (.lst []))) ∧ ∀ i m H, W i m H →
      (J.stop i H ∧ Qd H) ∨ (J.go i H ∧ ∃ Nx : Hp → Prop, (∀ H', Nx H' → ∃ m', m' < m ∧ W (i + 1) m' H') ∧ ∀ x H', J.yld i H x H' → g x (wipe σ vs) H' fun σ2 H2 => wipe σ2 vs = wipe σ vs ∧ tt σ2 H2 fun b H3 =>
        if b = true then te σ2 H3 fun y H4 => ∃ acc, H4 D = some (.lst acc) ∧ acc.length < sizeLine ∧ Nx (upd H4 D (.lst (acc ++ [y]))) else Nx H3) := by
  refine lc_it w (fun i H => Same H1 H ∧ H D = some (.lst ((List.range i).filterMap f))) ⟨Same.updf hD, upd_same⟩ (fun i H _ h => hG H h.1) (fun i x H H' hi hP hy => ?_) (fun H h => hd H h.1 h.2)
  refine hs i x H H' _ _ hi hP.1 hy (fun y H4 s4 e => ?_) (fun H4 s4 e => ?_)
  · refine ⟨_, s4 _ _ hP.2, ?_, fun b o eb => ?_, ?_⟩
    · have l1 : ((List.range i).filterMap f).length ≤ i := by
        have := List.length_filterMap_le f (List.range i)
        rw [List.length_range] at this
        exact this
      have l2 : (100000 : Nat) < sizeLine := by decide
      omega
    · rw [upd_ne (ne_of_none eb hD)]
      exact s4 _ _ (hP.1 _ _ eb)
    · rw [upd_same, List.range_succ, List.filterMap_append, List.filterMap_cons, e]
      rfl
  · refine ⟨hP.1.trans s4, ?_⟩
    rw [List.range_succ, List.filterMap_append, List.filterMap_cons, e, List.filterMap_nil, List.append_nil]
    exact s4 _ _ hP.2
/-- a pair's two names: the tuple is new -/
theorem pair_st {i j : Nat} {xs ys : Nat → Option V} {t : Nat} {σ : St} {H H' : Hp} {v : V} {Q : St → Hp → Prop} (y : YPair xs ys t H v H') {K : PySem.W.Frag}
    (k : ∀ x z, xs t = some x → ys t = some z → Same H H' → ∃ T, v = .ref T ∧ SqT K H' T [x, z] ∧ Q ((σ.set i (some x)).set j (some z)) H') :
    ∃ x z T, v = .ref T ∧ SqT K H' T [x, z] ∧ Q ((σ.set i (some x)).set j (some z)) H' := by
  obtain ⟨T, x, z, h1, h2, h3, h4, h5⟩ := y
  obtain ⟨T', e1, e2, e3⟩ := k x z h4 h5 (by rw [h3]; exact Same.updf h2)
  exact ⟨x, z, T', e1, e2, e3⟩
end L2
namespace KB
open PySem PySem.Spec PyProof.Rows L2
/-- built-in names that the module leaves free -/
structure Free (mg : Str → Option Value) : Prop where
  sum : mg "sum" = none
  int : mg "int" = none
  max : mg "max" = none
  min : mg "min" = none
  len : mg "len" = none
  range : mg "range" = none
  isi : mg "isinstance" = none
  all : mg "all" = none
  any : mg "any" = none
  zip : mg "zip" = none
  divmod : mg "divmod" = none
  reversed : mg "reversed" = none
  enumerate : mg "enumerate" = none
  tset : mg "set" = none
  tlist : mg "list" = none
  ttuple : mg "tuple" = none
  tdict : mg "dict" = none
  tbool : mg "bool" = none
theorem op_powL {X : Cx} : OpR X (binaryOp .Pow) (rI (fun i n => 0 ≤ n ∧ (Builtin.Int.intBits i : Int) * n ≤ 2 ^ 27) fun i j => .int (i ^ j.toNat)) :=
  opI fun _ _ _ _ _ _ _ hc q => pow_int hc.1 hc.2 q
/-- a purse: what is left of a great number, the seed, how often it was mixed, the place -/
structure Purse (H : Hp) (p : Addr) (N : Nat) : Prop where
  at_ : ∃ A B c i : Int, H p = some (.lst [.int A, .int B, .int c, .int i]) ∧ (0 ≤ B ∧ B < 2147483648) ∧ 0 ≤ A ∧ 0 ≤ c ∧ c ≤ (N : Int)
theorem Purse.mono {H : Hp} {p : Addr} {N M : Nat} (h : Purse H p N) (l : N ≤ M) : Purse H p M := by
  obtain ⟨A, B, c, i, e, hB, h1, h2, h3⟩ := h
  exact ⟨A, B, c, i, e, hB, h1, h2, by omega⟩
theorem Purse.same {H H' : Hp} {p : Addr} {N : Nat} (k : Same H H') (h : Purse H p N) : Purse H' p N := by
  obtain ⟨A, B, c, i, e, r⟩ := h
  exact ⟨A, B, c, i, k _ _ e, r⟩
/-- all but p stands as it did -/
def But (p : Addr) (H H' : Hp) : Prop := ∀ b o, b ≠ p → H b = some o → H' b = some o
theorem But.refl (p : Addr) (H : Hp) : But p H H := fun _ _ _ e => e
theorem But.trans {p : Addr} {H H1 H2 : Hp} (a : But p H H1) (b : But p H1 H2) : But p H H2 := fun x o n e => b x o n (a x o n e)
theorem But.of {p : Addr} {H H' : Hp} (k : Same H H') : But p H H' := fun b o _ e => k b o e
theorem But.upd {p : Addr} {H : Hp} {o : HO} : But p H (L2.upd H p o) := fun b o' n e => by
  rw [upd_ne n]
  exact e
theorem Same.upd {H : Hp} {p : Addr} {o : HO} (h : H p = none) : Same H (L2.upd H p o) := fun b o' e => by
  rw [upd_ne (ne_of_none e h)]
  exact e
theorem cut_map (ns : List Int) (lo hi : Option Int) : cutV (ns.map V.int) lo hi = ((ns.drop (HT.sIx (ns.map V.int).length 0 lo)).take (HT.sIx (ns.map V.int).length (ns.map V.int).length hi - HT.sIx (ns.map V.int).length 0 lo)).map V.int := by
  unfold cutV
  rw [List.map_take, List.map_drop]
def spPurse (K : PySem.W.Frag) : Sp := fun vs H Q _ => ∃ (a : Addr) (ns : List Int) (i : Int), vs = [.ref a, .int i] ∧ SqL K H a (ns.map V.int) ∧
  ∀ p H', Same H H' → H p = none → Purse H' p 0 → Q (.ref p) H'
/-- any rest there is -/
def spMixed : Sp := fun vs H Q _ => ∃ B c i : Int, vs = [.int B, .int c, .int i] ∧ (0 ≤ c ∧ c ≤ 2 ^ 60) ∧ ∀ r : Int, 0 ≤ r → r < 2147483587 → Q (.int r) H
/-- how often a draw of one of m mixes -/
def mixes (m : Int) : Nat := (1 + (Builtin.Int.intBits m : Int) / 28).toNat
def spDraw : Sp := fun vs H Q _ => ∃ (p : Addr) (m : Int) (N : Nat), vs = [.ref p, .int m] ∧ 1 ≤ m ∧ m.natAbs.log2 < 9000 ∧ Purse H p N ∧ N + mixes m ≤ 2 ^ 50 ∧ mixes m ≤ 2 ^ 50 ∧
  ∀ (r : Int) (H' : Hp), 0 ≤ r → r < m → But p H H' → Purse H' p (N + mixes m) → Q (.int r) H'
theorem mixes_one {m : Int} (h0 : 1 ≤ m) (h : m < 2 ^ 27) : mixes m = 1 := by
  have e : Builtin.Int.intBits m ≤ 27 := PyProof.Rows.intBits_le (by omega)
  unfold mixes
  omega
theorem log_small {m : Int} (h0 : 1 ≤ m) (h : m < 2 ^ 27) : m.natAbs.log2 < 9000 := by
  have e : m.natAbs < 2 ^ 27 := by omega
  have := PySem.Flt.log2_lt_of (by decide) e
  omega
theorem But.seq {K : PySem.W.Frag} {p a : Addr} {H H' : Hp} {xs : List V} (k : But p H H') (n : a ≠ p) (h : SqL K H a xs) : SqL K H' a xs := by
  rcases h with (h | ⟨o, h⟩) | h
  · exact .inl (.inl (k _ _ n h))
  · exact .inl (.inr ⟨o, k _ _ n h⟩)
  · exact .inr h
/-- purses(script, 1): the list of one purse -/
def spPurses (K : PySem.W.Frag) : Sp := fun vs H Q _ => ∃ (a : Addr) (ns : List Int), vs = [.ref a, .int 1] ∧ SqL K H a (ns.map V.int) ∧
  ∀ q p H', Same H H' → H p = none → H q = none → p ≠ q → H' q = some (.lst [.ref p]) → Purse H' p 0 → Q (.ref q) H'
def spOne (K : PySem.W.Frag) : Sp := fun vs H Q _ => ∃ (p q : Addr) (xs : List V) (N : Nat), vs = [.ref p, .ref q] ∧ q ≠ p ∧ SqL K H q xs ∧ 1 ≤ xs.length ∧ xs.length ≤ 1000000 ∧ Purse H p N ∧ N ≤ 2 ^ 40 ∧
  ∀ x H', x ∈ xs → But p H H' → Purse H' p (N + 1) → Q x H'

theorem none_back {H H' : Hp} {q : Addr} (k : Same H H') (h : H' q = none) : H q = none := by
  cases e : H q with
  | none => rfl
  | some o =>
    have := k _ _ e
    rw [h] at this
    cases this
theorem mixes_le {m : Int} (h0 : 1 ≤ m) (h : m < 2 ^ 62) : mixes m ≤ 3 := by
  have e : Builtin.Int.intBits m ≤ 62 := PyProof.Rows.intBits_le (by omega)
  unfold mixes
  omega
theorem via_nx {f b c : L2.St → Hp → Prop} {r : VK} {σ : L2.St} {H : Hp} (h : f σ H) : (Ends.mk f r b c).nx σ H := h
theorem via_seq {t u : TS} {D : Ends} {σ : L2.St} {H : Hp} (h : t { D with nx := u D } σ H) : tSeq t u D σ H := h
theorem via_asg {te : TE} {g : TG} {D : Ends} {σ : L2.St} {H : Hp} (h : te σ H fun x H1 => g x σ H1 D.nx) : tAsg te g D σ H := h
theorem fresh_ne {X : Hp} {pu b : Addr} {M : Nat} (h : Purse X pu M) (hb : X b = none) : b ≠ pu := fun e => by
  obtain ⟨A0, B, c, i, e2, _⟩ := h
  rw [e, e2] at hb
  cases hb
theorem But.none {pu b : Addr} {X Y : Hp} (k : But pu X Y) (ne : b ≠ pu) (h : Y b = none) : X b = none := by
  cases e : X b with
  | none => rfl
  | some o =>
    have := k _ _ ne e
    rw [h] at this
    cases this
theorem Purse.same' {H H' : Hp} {p : Addr} {N : Nat} (k : H' p = H p) (h : Purse H p N) : Purse H' p N := by
  obtain ⟨A, B, c, i, e, r⟩ := h
  exact ⟨A, B, c, i, k.trans e, r⟩

/-- a statement that is never come to -/
theorem ps_dead {X : Cx} {st : Stmt} : PS X st (fun _ _ _ => False) := ⟨fun _ _ _ _ _ _ h => h.elim⟩
end KB
set_option Elab.async false
set_option linter.all false
set_option maxRecDepth 100000
set_option maxHeartbeats 4000000
/-! Data on the tracked heap; what is counted; the greatest of a list that may be empty. -/
namespace L2
open PySem PySem.Spec PyProof.Rows
open RZ
theorem walk_zipT {K : PySem.W.Frag} {a b : Addr} {xs ys : List V} {n : Nat} (hn : n = min xs.length ys.length) : Walk (ItzT K a b) n (fun H => SqT K H a xs ∧ SqT K H b ys) (YPair (fun i => xs[i]?) (fun i => ys[i]?)) where
  goes := fun i _ hi q => ⟨xs, ys, xs[i]'(by omega), ys[i]'(by omega), q.1, q.2, List.getElem?_eq_getElem _, List.getElem?_eq_getElem _⟩
  stops := fun _ q => ⟨xs, ys, q.1, q.2, by omega⟩
  yields := fun i H v H' _ q y => by
    obtain ⟨T, x, z, e1, e2, e3, e4, e5⟩ := y
    exact ⟨T, x, z, e1, e2, e3, e4 _ q.1, e5 _ q.2⟩
section
variable {X : Cx}
/-- how often a datum stands in a list of data -/
def rCountD (K : PySem.W.Frag) : V → List V → Hp → VK → Prop := fun x zs H Q => ∃ (a : Addr) (y : V) (d : PyData) (ds : List PyData), x = V.ref a ∧ zs = [y] ∧ Dp K H (V.ref a) (.list ds) ∧ Dp K H y d ∧ SeqAt.shaped (.list ds) = true ∧ SeqAt.shaped d = true ∧
  Q (.int ((ds.countP fun z => PyData.eqv z d : Nat) : Int)) H
theorem mt_countD (hu : X.A.units + 65 < cLine) : MtR X "list.count" (rCountD X.K) := by
  intro pins s σ H x zs v us Q I rx rz h
  obtain ⟨a, y, d, ds, rfl, rfl, hL, hY, sL, sY, q⟩ := h
  obtain ⟨w, rfl, rw'⟩ := rz.one
  cases rx
  obtain ⟨bs, rY⟩ := Dp.reads I d y w hY rw'
  have cL : PyData.canLayAll0 ds = true := SeqAt.canLay_of_shaped sL
  cases hL with
  | lst hs hA =>
    obtain ⟨its, rv, ⟨⟨c0, d0, dat, sl0⟩, k0, hob, hcl, _, hda⟩, _⟩ := I.list hs
    dsimp only at hcl hda
    subst hcl hda
    obtain ⟨as, rA⟩ := Dp.readsAll I ds _ its hA rv
    have em : its.map (SeqAt.readOf s.heap) = ds := SeqAt.readsAll_map ds its as cL rA
    refine call_meets PySem.F.slot_list_count ⟨_, hob, rfl⟩ PySem.F.entry_list_count (PySem.F.args_list_count_2 _ _)
      (SeqAt.list_countAt a its.toArray k0 d0 sl0 w fun u => PyData.eqv (SeqAt.readOf s.heap u) d) ⟨hob, ?_, ?_⟩
    · exact SeqAt.items_eqAt (vs := its.toArray) (show ReadsAll s.heap its.toArray.toList ds as from rA) rY cL (SeqAt.canLay_of_shaped sY) (room_in_shaped sY hu)
    · refine ⟨.int (its.toArray.toList.countP fun u => PyData.eqv (SeqAt.readOf s.heap u) d : Nat), H, I.tok _, ⟨_, rfl⟩, ?_⟩
      have e : ((its.toArray.toList.countP fun u => PyData.eqv (SeqAt.readOf s.heap u) d : Nat) : Int) = ((ds.countP fun z => PyData.eqv z d : Nat) : Int) := by
        rw [← em, List.countP_map]
        rfl
      rw [e]
      exact q
end
end L2
namespace KB
open PySem PySem.Spec PyProof.Rows L2
/-- a value that is no object -/
inductive FlatD : V → PyData → Prop
  | non : FlatD .non .none
  | bl (b : Bool) : FlatD (.bl b) (.bool b)
  | int (i : Int) : FlatD (.int i) (.int i)
  | str (x : Str) : FlatD (.str x) (.str x)
/-- a value that stands for a datum: lists and tuples, each tracked, nested at most so deep -/
def Tr (H : Hp) : Nat → V → PyData → Prop
  | 0, x, d => FlatD x d
  | n + 1, x, d => FlatD x d ∨ ∃ (a : Addr) (xs : List V) (ds : List PyData), x = .ref a ∧ xs.length = ds.length ∧ ds.length ≤ 1000 ∧ ((H a = some (.lst xs) ∧ d = .list ds) ∨ (H a = some (.tup xs) ∧ d = .tuple ds)) ∧
      ∀ (i : Nat) (u : V) (e : PyData), xs[i]? = some u → ds[i]? = some e → Tr H n u e
theorem Tr.same {H H' : Hp} (k : Same H H') : ∀ {n : Nat} {x : V} {d : PyData}, Tr H n x d → Tr H' n x d
  | 0, _, _, h => h
  | n + 1, _, _, h => by
    rcases h with h | ⟨a, xs, ds, e1, e2, e3, e4, e5⟩
    · exact .inl h
    · exact .inr ⟨a, xs, ds, e1, e2, e3, e4.elim (fun z => .inl ⟨k _ _ z.1, z.2⟩) (fun z => .inr ⟨k _ _ z.1, z.2⟩), fun i u e h1 h2 => Tr.same k (e5 i u e h1 h2)⟩
theorem Tr.up {H : Hp} : ∀ {n : Nat} {x : V} {d : PyData}, Tr H n x d → Tr H (n + 1) x d
  | 0, _, _, h => .inl h
  | n + 1, _, _, h => by
    rcases h with h | ⟨a, xs, ds, e1, e2, e3, e4, e5⟩
    · exact .inl h
    · exact .inr ⟨a, xs, ds, e1, e2, e3, e4, fun i u e h1 h2 => Tr.up (e5 i u e h1 h2)⟩
theorem Tr.flat {H : Hp} {n : Nat} {x : V} {d : PyData} (h : FlatD x d) : Tr H n x d := by
  cases n with
  | zero => exact h
  | succ n => exact .inl h
theorem Tr.lst {H : Hp} {n : Nat} {a : Addr} {xs : List V} {ds : List PyData} (h : H a = some (.lst xs)) (l : xs.length = ds.length) (s : ds.length ≤ 1000) (k : ∀ (i : Nat) (u : V) (e : PyData), xs[i]? = some u → ds[i]? = some e → Tr H n u e) : Tr H (n + 1) (.ref a) (.list ds) :=
  .inr ⟨a, xs, ds, rfl, l, s, .inl ⟨h, rfl⟩, k⟩
theorem Tr.tup {H : Hp} {n : Nat} {a : Addr} {xs : List V} {ds : List PyData} (h : H a = some (.tup xs)) (l : xs.length = ds.length) (s : ds.length ≤ 1000) (k : ∀ (i : Nat) (u : V) (e : PyData), xs[i]? = some u → ds[i]? = some e → Tr H n u e) : Tr H (n + 1) (.ref a) (.tuple ds) :=
  .inr ⟨a, xs, ds, rfl, l, s, .inr ⟨h, rfl⟩, k⟩
/-- item by item -/
theorem tr_cons {H : Hp} {n : Nat} {x : V} {xs : List V} {d : PyData} {ds : List PyData} (h : Tr H n x d) (k : ∀ (i : Nat) (u : V) (e : PyData), xs[i]? = some u → ds[i]? = some e → Tr H n u e) : ∀ (i : Nat) (u : V) (e : PyData), (x :: xs)[i]? = some u → (d :: ds)[i]? = some e → Tr H n u e
  | 0, _, _, h1, h2 => by
    obtain rfl := Option.some.inj h1
    obtain rfl := Option.some.inj h2
    exact h
  | i + 1, u, e, h1, h2 => k i u e h1 h2
theorem tr_nil {H : Hp} {n : Nat} : ∀ (i : Nat) (u : V) (e : PyData), ([] : List V)[i]? = some u → ([] : List PyData)[i]? = some e → Tr H n u e := fun i u e h1 h2 => by simp at h1
theorem tr_snoc {H : Hp} {n : Nat} {x : V} {xs : List V} {d : PyData} {ds : List PyData} (l : xs.length = ds.length) (k : ∀ (i : Nat) (u : V) (e : PyData), xs[i]? = some u → ds[i]? = some e → Tr H n u e) (h : Tr H n x d) :
    ∀ (i : Nat) (u : V) (e : PyData), (xs ++ [x])[i]? = some u → (ds ++ [d])[i]? = some e → Tr H n u e := fun i u e h1 h2 => by
  by_cases hi : i < xs.length
  · rw [List.getElem?_append_left hi] at h1
    rw [List.getElem?_append_left (by omega)] at h2
    exact k i u e h1 h2
  · rw [List.getElem?_append_right (by omega)] at h1
    rw [List.getElem?_append_right (by omega)] at h2
    cases hj : i - xs.length with
    | zero =>
      rw [hj] at h1
      rw [show i - ds.length = 0 by omega] at h2
      obtain rfl := Option.some.inj h1
      obtain rfl := Option.some.inj h2
      exact h
    | succ j =>
      rw [hj] at h1
      simp at h1
theorem FlatD.dp {K : PySem.W.Frag} {H : Hp} {x : V} {d : PyData} (h : FlatD x d) : Dp K H x d := by
  cases h
  · exact .non
  · exact .bl _
  · exact .int _
  · exact .str _
theorem dpAll_of {K : PySem.W.Frag} {H : Hp} : ∀ {xs : List V} {ds : List PyData}, xs.length = ds.length → (∀ (i : Nat) (u : V) (e : PyData), xs[i]? = some u → ds[i]? = some e → Dp K H u e) → DpAll K H xs ds
  | [], [], _, _ => .nil
  | [], _ :: _, h, _ => by simp at h
  | _ :: _, [], h, _ => by simp at h
  | x :: xs, d :: ds, h, k => .cons (k 0 x d rfl rfl) (dpAll_of (by simpa using h) fun i u e h1 h2 => k (i + 1) u e h1 h2)
theorem Tr.dp {K : PySem.W.Frag} {H : Hp} : ∀ {n : Nat} {x : V} {d : PyData}, Tr H n x d → Dp K H x d
  | 0, _, _, h => FlatD.dp h
  | n + 1, _, _, h => by
    rcases h with h | ⟨a, xs, ds, rfl, e2, e3, e4, e5⟩
    · exact FlatD.dp h
    · rcases e4 with ⟨h, rfl⟩ | ⟨h, rfl⟩
      · exact .lst (SqL.of h) (dpAll_of e2 fun i u e h1 h2 => (e5 i u e h1 h2).dp)
      · exact .tup (SqT.of h) (dpAll_of e2 fun i u e h1 h2 => (e5 i u e h1 h2).dp)
/-- alike: both stand for one datum -/
def spExact (n : Nat) : Sp := fun vs H Q _ => ∃ (x y : V) (d : PyData), vs = [x, y] ∧ Tr H n x d ∧ Tr H n y d ∧ ∀ H', Same H H' → Q (.bl true) H'
theorem FlatD.ty {K : PySem.W.Frag} {H : Hp} {x : V} {d : PyData} (h : FlatD x d) : ∃ t, TyX K H x (.type t) ∧ kitB t "list" = some false ∧ kitB t "tuple" = some false ∧ kitB t "dict" = some false ∧ ∃ i b, kitB t "int" = some i ∧ kitB t "bool" = some b := by
  cases h with
  | non => exact ⟨"NoneType", .base .non, by decide +kernel, by decide +kernel, by decide +kernel, false, false, by decide +kernel, by decide +kernel⟩
  | bl b => exact ⟨"bool", .base (.bl b), by decide +kernel, by decide +kernel, by decide +kernel, true, true, by decide +kernel, by decide +kernel⟩
  | int i => exact ⟨"int", .base (.int i), by decide +kernel, by decide +kernel, by decide +kernel, true, false, by decide +kernel, by decide +kernel⟩
  | str z => exact ⟨"str", .base (.str z), by decide +kernel, by decide +kernel, by decide +kernel, false, false, by decide +kernel, by decide +kernel⟩
theorem FlatD.scal {x : V} {d : PyData} (h : FlatD x d) : scal x x = true := by
  cases h <;> rfl
theorem FlatD.eq {x y : V} {d : PyData} (h : FlatD x d) (h' : FlatD y d) : x = y := by
  cases h <;> cases h' <;> rfl
theorem FlatD.noL {x : V} {ds : List PyData} (h : FlatD x (.list ds)) : False := nomatch h
theorem FlatD.noT {x : V} {ds : List PyData} (h : FlatD x (.tuple ds)) : False := nomatch h
/-- all of a list that is true at each place -/
theorem all_bits {K : PySem.W.Frag} {n : Nat} {H : Hp} {D : Addr} (hR : H D = some (.lst ((List.range n).filterMap fun _ => some (V.bl true)))) : ∃ bs : List Bool, SqL K H D (bs.map V.bl) ∧ bs.all id = true := by
  refine ⟨List.replicate n true, ?_, ?_⟩
  · have e : ((List.range n).filterMap fun _ => some (V.bl true)) = (List.replicate n true).map V.bl := by
      rw [List.filterMap_eq_map', List.map_const', List.length_range, List.map_replicate]
    rw [e] at hR
    exact SqL.of hR
  · rw [List.all_eq_true]
    intro b hb
    exact (List.eq_of_mem_replicate hb)
end KB
set_option Elab.async false
set_option linter.all false
set_option maxRecDepth 100000
set_option maxHeartbeats 4000000
namespace K06
open PySem PySem.Spec PyProof.Rows L2 KB
abbrev FnP (K : PySem.W.Frag) (x : Str) (st : Stmt) (f : Addr) (fd : FuncData) : Prop := FunD K x x (defArgs st) (defBody st) (defScope st) [] [] f fd
abbrev sPurse : Stmt := top 31
abbrev sMixed : Stmt := top 32
abbrev sDraw : Stmt := top 33
section
variable {P : Program} {w : World} {K : PySem.W.Frag} {mg : Str → Option Value} {base : Heap} {f fM : Addr} {fd fdM : FuncData}
theorem scPurse : FnScope ["_law_script", "_law_at", "_law_seed"] ["_law_script", "_law_at"] (defScope sPurse) := ⟨rfl, rfl, rfl, by decide +kernel, rfl, by decide +kernel, by decide +kernel⟩
theorem ok_purse (F : FnP K "_law_purse" sPurse f fd) (Z : Free mg) : FnOk P w K mg base CX0 1 f fd ["_law_script", "_law_at"] (spPurse K) := by
  refine F.ok scPurse (fun vs H Q E h => ?_) (fun cdv A outer s H vs Q E hr h => ?_)
  · obtain ⟨a, ns, i, rfl, _⟩ := h
    rfl
  · obtain ⟨a, ns, i, rfl, hS, k⟩ := h
    have nd := scPurse.nd
    refine ⟨_, PSs.nox (pss_cons (ps_set (i := 2) nd rfl (Or.inl rfl) (pe_callB (cr_sum rfl) (by rfl) Z.sum (by decide +kernel) (pa_cons (pe_slice sl_list (pv 0) (po_some (pv 1)) (po_some (pe_op op_add (pv 1) pe_int))) pa_nil)))
      (pss_one (ps_ret (pe_lst (pa_cons (pe_op op_mod (pe_callTy call_int1 (by rfl) Z.int (by decide +kernel) (pa_cons (pe_callB (call_max2 rfl) (by rfl) Z.max (by decide +kernel)
          (pa_cons (pe_op op_sub (pv 2) (pe_op op_pow pe_int pe_int)) (pa_cons pe_int pa_nil))) pa_nil)) (pe_op op_powL (pe_op op_pow pe_int pe_int) pe_int))
        (pa_cons (pe_op op_mod (pe_callTy call_int1 (by rfl) Z.int (by decide +kernel) (pa_cons (pv 2) pa_nil)) pe_int) (pa_cons pe_int (pa_cons (pv 1) pa_nil)))))))), ?_⟩
    refine ⟨_, rfl, _, rfl, i, rfl, ?_⟩
    refine ⟨_, rfl, _, _, rfl, rfl, ?_⟩
    refine ⟨i + 1, rfl, a, _, rfl, hS, fun q hq => ?_⟩
    rw [cut_map]
    refine ⟨q, _, rfl, SqL.of upd_same, ?_⟩
    -- the list
    refine ⟨_, rfl, _, _, rfl, rfl, ⟨by decide, by decide, by decide⟩, _, _, rfl, rfl, ?_⟩
    refine ⟨_, _, rfl, Or.inl ⟨_, rfl, ?_⟩⟩
    refine ⟨_, _, rfl, rfl, ⟨by decide, by decide, by decide⟩, ?_⟩
    refine ⟨_, _, rfl, rfl, ⟨by decide, by decide +kernel⟩, ?_⟩
    refine ⟨_, _, rfl, rfl, (by show (0 : Int) < _; decide +kernel), ?_⟩
    refine ⟨_, rfl, Or.inl ⟨_, rfl, ?_⟩⟩
    refine ⟨_, _, rfl, rfl, (by show (0 : Int) < _; decide), ?_⟩
    refine ⟨_, rfl, (by show 4 ≤ sizeLine; decide), fun p hp => ?_⟩
    refine k p _ (Same.trans (Same.upd hq) (Same.upd hp)) ?_ ⟨_, _, 0, i, upd_same, ⟨Int.emod_nonneg _ (by decide), Int.lt_trans (Int.emod_lt_of_pos _ (by decide)) (by decide)⟩, Int.emod_nonneg _ (by decide +kernel), Int.le_refl _, Int.le_refl _⟩
    rw [upd_ne (fun e => by rw [e, upd_same] at hp; cases hp)] at hp
    exact hp
theorem scMixed : FnScope ["_law_seed", "_law_spin", "_law_at", "_law_mixed_here"] ["_law_seed", "_law_spin", "_law_at"] (defScope sMixed) := ⟨rfl, rfl, rfl, by decide +kernel, rfl, by decide +kernel, by decide +kernel⟩
theorem ok_mixed (F : FnP K "_law_mixed" sMixed f fd) (Z : Free mg) : FnOk P w K mg base CX0 1 f fd ["_law_seed", "_law_spin", "_law_at"] spMixed := by
  refine F.ok scMixed (fun vs H Q E h => ?_) (fun cdv A outer s H vs Q E hr h => ?_)
  · obtain ⟨B, c, i, rfl, _⟩ := h
    rfl
  · obtain ⟨B, c, i, rfl, ⟨hc0, hc1⟩, k⟩ := h
    have nd := scMixed.nd
    refine ⟨_, PSs.nox (pss_cons (ps_set (i := 3) nd rfl (Or.inl rfl) (pe_op op_add (pe_op op_mul (pv 0) pe_int) (pe_op op_mul (pe_op op_mul pe_int (pv 1)) (pv 1))))
      (pss_cons (ps_set (i := 3) nd rfl (Or.inl rfl) (pe_op op_mod (pe_callTy call_int1 (by rfl) Z.int (by decide +kernel) (pa_cons (pe_op op_add (pe_op op_add (pv 3) (pe_op op_mul pe_int (pv 2))) (pv 1)) pa_nil)) pe_int))
      (pss_cons (ps_set (i := 3) nd rfl (Or.inl rfl) (pe_op op_mod (pe_callTy call_int1 (by rfl) Z.int (by decide +kernel) (pa_cons (pe_op op_add (pe_op op_mul (pv 3) (pv 3)) pe_int) pa_nil)) pe_int))
      (pss_one (ps_ret (pe_op op_mod (pe_callTy call_int1 (by rfl) Z.int (by decide +kernel) (pa_cons (pe_op op_mul (pv 3) pe_int) pa_nil)) pe_int)))))), ?_⟩
    have c64 : -(2 ^ 64) < c ∧ c < 2 ^ 64 := ⟨by omega, by omega⟩
    refine ⟨_, rfl, _, _, rfl, rfl, Or.inr ⟨by decide, by decide⟩, ?_⟩
    refine ⟨_, rfl, _, _, rfl, rfl, Or.inl ⟨by decide, by decide⟩, ?_⟩
    refine ⟨_, rfl, _, _, rfl, rfl, Or.inr c64, ?_⟩
    refine ⟨_, _, rfl, rfl, ?_⟩
    refine ⟨_, rfl, _, rfl, _, _, rfl, rfl, Or.inl ⟨by decide, by decide⟩, ?_⟩
    refine ⟨_, _, rfl, rfl, _, rfl, _, _, rfl, rfl, ?_⟩
    refine Or.inl ⟨_, rfl, ?_⟩
    refine ⟨_, _, rfl, rfl, (by show (0 : Int) < _; decide), ?_⟩
    generalize hm : (B * 69069 + 104729 * c * c + 7919 * i + c) % 2147483647 = m
    have h1 : 0 ≤ m := by rw [← hm]; exact Int.emod_nonneg _ (by decide)
    have h2 : m < 2147483647 := by rw [← hm]; exact Int.emod_lt_of_pos _ (by decide)
    refine ⟨_, rfl, _, rfl, _, _, rfl, rfl, Or.inl ⟨by omega, by omega⟩, ?_⟩
    refine ⟨_, _, rfl, rfl, Or.inl ⟨_, rfl, ?_⟩⟩
    refine ⟨_, _, rfl, rfl, (by show (0 : Int) < _; decide), ?_⟩
    refine ⟨_, rfl, _, _, rfl, rfl, Or.inr ⟨by decide, by decide⟩, Or.inl ⟨_, rfl, ?_⟩⟩
    refine ⟨_, _, rfl, rfl, (by show (0 : Int) < _; decide), ?_⟩
    exact k _ (Int.emod_nonneg _ (by decide)) (Int.emod_lt_of_pos _ (by decide))
theorem scDraw : FnScope ["_law_purse_here", "_law_many", "_law_drawn", "_law_found", "_law_piece"] ["_law_purse_here", "_law_many"] (defScope sDraw) := ⟨rfl, rfl, rfl, by decide +kernel, rfl, by decide +kernel, by decide +kernel⟩
theorem ok_draw (F : FnP K "_law_draw" sDraw f fd) (Z : Free mg) (FM : FnP K "_law_mixed" sMixed fM fdM) (gM : mg "_law_mixed" = some (.ref fM)) : FnOk P w K mg base CX0 2 f fd ["_law_purse_here", "_law_many"] spDraw := by
  have GM : FnOk P w K mg base CX0 1 fM fdM ["_law_seed", "_law_spin", "_law_at"] spMixed := ok_mixed FM Z
  have bM : Binds K fdM ["_law_seed", "_law_spin", "_law_at"] [] := FM.bindsN fun _ _ _ _ _ _ us hl => match us, hl with | [_, _, _], _ => rfl
  refine F.ok scDraw (fun vs H Q E h => ?_) (fun cdv A outer s H vs Q E hr h => ?_)
  · obtain ⟨p, m, N, rfl, _⟩ := h
    rfl
  · obtain ⟨p, m, N, rfl, hm1, hm2, hP, hN, hN2, k⟩ := h
    obtain ⟨A0, B, c, i, hp, hB, hA, hc, hcN⟩ := id hP
    have nd := scDraw.nd
    refine ⟨_, PSs.nox (pss_cons (ps_if (pt_cmpR op_gt (pe_ix ix_list (pv 0) pe_int (fun _ _ => rfl)) pe_int (nomark _))
        (pss_cons (ps_set (i := 2) nd rfl (Or.inl rfl) (pe_op op_mod (pe_callTy call_int1 (by rfl) Z.int (by decide +kernel) (pa_cons (pe_ix ix_list (pv 0) pe_int (fun _ _ => rfl)) pa_nil)) (pv 1)))
        (pss_cons (ps_asg (pe_op op_fdivW (pe_ix ix_list (pv 0) pe_int (fun _ _ => rfl)) (pv 1)) (pg_sub (pv 0) pe_int set_list))
        (pss_one (ps_ret (pv 2))))) pss_nil)
      (pss_cons (ps_set (i := 3) nd rfl (Or.inl rfl) pe_int)
      (pss_cons (ps_for PassesOwn.never rfl (pi_range1 rfl Z.range (pa_cons (pe_op op_add pe_int (pe_op op_fdiv (pe_bits (pv 1)) pe_int)) pa_nil)) (pg_name (i := 4) nd rfl (Or.inl rfl))
        (pss_cons (ps_asg (pe_op op_add (pe_ix ix_list (pv 0) pe_int (fun _ _ => rfl)) pe_int) (pg_sub (pv 0) pe_int set_list))
        (pss_one (ps_set (i := 3) nd rfl (Or.inl rfl) (pe_op op_add (pe_op op_mul (pv 3) pe_int) (pe_call GM hr rfl gM FM.kp bM .nil pass0
          (pa_cons (pe_ix ix_list (pv 0) pe_int (fun _ _ => rfl)) (pa_cons (pe_ix ix_list (pv 0) pe_int (fun _ _ => rfl)) (pa_cons (pe_ix ix_list (pv 0) pe_int (fun _ _ => rfl)) pa_nil)))))))))
      (pss_one (ps_ret (pe_op op_mod (pe_callTy call_int1 (by rfl) Z.int (by decide +kernel) (pa_cons (pv 3) pa_nil)) (pv 1))))))), ?_⟩
    -- if purse[0] > 0
    refine ⟨_, rfl, p, _, 0, .int A0, rfl, rfl, SqL.of hp, rfl, ?_⟩
    refine ⟨_, _, rfl, rfl, _, rfl, ?_⟩
    refine ite2 (fun hpos => ?_) (fun hneg => ?_)
    · refine ⟨_, rfl, p, _, 0, .int A0, rfl, rfl, SqL.of hp, rfl, Or.inl ⟨_, rfl, ?_⟩⟩
      refine ⟨_, rfl, _, _, rfl, rfl, (by show (0 : Int) < m; omega), ?_⟩
      refine ⟨_, rfl, p, _, 0, .int A0, rfl, rfl, SqL.of hp, rfl, ?_⟩
      refine ⟨_, rfl, _, _, rfl, rfl, ⟨by omega, hm2⟩, ?_⟩
      refine ⟨_, rfl, p, _, 0, 0, rfl, rfl, hp, rfl, ?_⟩
      refine ⟨_, rfl, ?_⟩
      refine k _ _ (Int.emod_nonneg _ (by omega)) (Int.emod_lt_of_pos _ (by omega)) But.upd ⟨A0 / m, B, c, i, upd_same, hB, Int.ediv_nonneg hA (by omega), hc, by omega⟩
    · -- found = 0; for piece in range(..)
      have hb : (0 : Int) ≤ 1 + (Builtin.Int.intBits m : Int) / 28 := by omega
      have hM : ((mixes m : Nat) : Int) = 1 + (Builtin.Int.intBits m : Int) / 28 := by
        unfold mixes
        exact Int.toNat_of_nonneg hb
      refine ⟨_, rfl, _, rfl, _, _, rfl, rfl, ⟨by decide, by decide⟩, _, _, rfl, rfl, ?_⟩
      refine ⟨1 + (Builtin.Int.intBits m : Int) / 28, rfl, by omega, by omega, ?_⟩
      refine for_range (lo := 0) (n := (1 + (Builtin.Int.intBits m : Int) / 28).toNat) (fun j σ H2 => ∃ (g : Int) (v2 v4 : Option V), σ = [some (.ref p), some (.int m), v2, some (.int g), v4] ∧ But p H H2 ∧
          ∃ c' : Int, H2 p = some (.lst [.int A0, .int B, .int c', .int i]) ∧ 0 ≤ c' ∧ c' ≤ (N : Int) + (j : Int))
        ⟨0, none, none, rfl, But.refl _ _, c, hp, hc, by omega⟩ ?_ ?_
      · rintro j σ H2 hj ⟨g, v2, v4, rfl, kb, c', hp2, h0, h1⟩
        have hj2 : (j : Int) < 2 ^ 50 := by
          have : j < mixes m := hj
          omega
        refine ⟨_, rfl, p, _, 2, .int c', rfl, rfl, SqL.of hp2, rfl, ?_⟩
        refine ⟨_, _, rfl, rfl, ?_⟩
        refine ⟨_, rfl, p, _, 2, 2, rfl, rfl, hp2, rfl, ?_⟩
        have hp3 : (L2.upd H2 p (.lst (List.set [V.int A0, .int B, .int c', .int i] 2 (.int (c' + 1))))) p = some (.lst [.int A0, .int B, .int (c' + 1), .int i]) := upd_same
        refine ⟨_, rfl, _, _, rfl, rfl, Or.inr ⟨by decide, by decide⟩, ?_⟩
        refine ⟨_, rfl, p, _, 1, .int B, rfl, rfl, SqL.of hp3, rfl, ?_⟩
        refine ⟨_, rfl, p, _, 2, .int (c' + 1), rfl, rfl, SqL.of hp3, rfl, ?_⟩
        refine ⟨_, rfl, p, _, 3, .int i, rfl, rfl, SqL.of hp3, rfl, ?_⟩
        refine ⟨B, c' + 1, i, rfl, ⟨by omega, by omega⟩, fun r hr0 hr1 => ?_⟩
        refine ⟨_, _, rfl, rfl, ?_⟩
        exact ⟨_, v2, _, rfl, But.trans kb But.upd, c' + 1, hp3, by omega, by omega⟩
      · rintro σ H2 ⟨g, v2, v4, rfl, kb, c', hp2, h0, h1⟩
        refine ⟨_, rfl, Or.inl ⟨_, rfl, ?_⟩⟩
        refine ⟨_, rfl, _, _, rfl, rfl, (by show (0 : Int) < m; omega), ?_⟩
        refine k _ _ (Int.emod_nonneg _ (by omega)) (Int.emod_lt_of_pos _ (by omega)) kb ⟨A0, B, c', i, hp2, hB, hA, h0, ?_⟩
        have : ((N + mixes m : Nat) : Int) = (N : Int) + (mixes m : Int) := by omega
        rw [this]
        exact h1
end
abbrev sPurses : Stmt := top 34
abbrev sOne : Stmt := top 35
section
variable {P : Program} {w : World} {K : PySem.W.Frag} {mg : Str → Option Value} {base : Heap} {f fP fD : Addr} {fd fdP fdD : FuncData}
theorem scPurses : FnScope ["_law_script", "_law_few", "_law_at"] ["_law_script", "_law_few"] (defScope sPurses) := ⟨rfl, rfl, rfl, by decide +kernel, rfl, by decide +kernel, by decide +kernel⟩
theorem ok_purses (F : FnP K "_law_purses" sPurses f fd) (Z : Free mg) (GP : FnOk P w K mg base CX0 1 fP fdP ["_law_script", "_law_at"] (spPurse K)) (FP : FnP K "_law_purse" sPurse fP fdP) (gP : mg "_law_purse" = some (.ref fP)) :
    FnOk P w K mg base CX0 2 f fd ["_law_script", "_law_few"] (spPurses K) := by
  have bP : Binds K fdP ["_law_script", "_law_at"] [] := FP.bindsN fun _ _ _ _ _ _ us hl => match us, hl with | [_, _], _ => rfl
  refine F.ok scPurses (fun vs H Q E h => ?_) (fun cdv A outer s H vs Q E hr h => ?_)
  · obtain ⟨a, ns, rfl, _⟩ := h
    rfl
  · obtain ⟨a, ns, rfl, hS, k⟩ := h
    have nd := scPurses.nd
    refine ⟨_, PSs.nox (pss_one (ps_ret (pe_lc (own := [("_law_at", 2)]) (g := gName 2) (tt := tYes) (by rfl) nd (pi_range1 rfl Z.range (pa_cons (pe_callB (call_max2 rfl) (by rfl) Z.max (by decide +kernel) (pa_cons pe_int
        (pa_cons (pe_callB (call_min2 rfl) (by rfl) Z.min (by decide +kernel) (pa_cons (pv 1) (pa_cons (pe_callB call_len_seq (by rfl) Z.len (by decide +kernel) (pa_cons (pv 0) pa_nil)) pa_nil))) pa_nil))) pa_nil))
      (blkOk_by (own := [("_law_at", 2)]) (N := ["_law_script", "_law_few", "_law_at"]) (sc := defScope sPurses) (by decide +kernel)) (fun _ _ _ _ _ => pg_name (i := 2) nd rfl (Or.inl rfl)) (fun _ _ _ _ _ => pts_nil)
      (fun _ _ _ _ _ => pe_call GP hr rfl gP FP.kp bP .nil pass0 (pa_cons (pv 0) (pa_cons (pv 2) pa_nil)))))), ?_⟩
    refine ⟨_, rfl, _, rfl, a, _, rfl, Or.inl hS, _, _, rfl, ?_⟩
    refine ⟨_, _, rfl, ?_⟩
    have hone : ∀ n : Int, 0 ≤ n → (if (if n < 1 then n else 1) > 1 then (if n < 1 then n else 1) else (1 : Int)) = 1 := fun n hn => by
      by_cases c : n < 1
      · rw [if_pos c, if_neg (by omega)]
      · rw [if_neg c, if_neg (by omega)]
    refine ⟨1, congrArg (fun z => [V.int z]) (hone _ (Int.natCast_nonneg _)), by decide, by decide, fun D hD => ?_⟩
    refine lc_range (lo := 0) (n := 1) (fun j H2 => (j = 0 ∧ H2 = upd H D (.lst [])) ∨ (j = 1 ∧ ∃ p, H2 D = some (.lst [.ref p]) ∧ Same H H2 ∧ H p = none ∧ p ≠ D ∧ Purse H2 p 0)) (Or.inl ⟨rfl, rfl⟩) ?_ ?_
    · intro j H2 hj hP
      rcases hP with ⟨rfl, rfl⟩ | ⟨rfl, _⟩
      · refine ⟨rfl, _, rfl, _, rfl, a, ns, _, rfl, (Same.upd hD).seq hS, fun p H3 hk hp hpu => ?_⟩
        have hne : p ≠ D := fun e => by
          rw [e, upd_same] at hp
          cases hp
        refine ⟨[], hk _ _ upd_same, by decide, Or.inr ⟨rfl, p, upd_same, fun b o e => ?_, ?_, hne, ?_⟩⟩
        · rw [upd_ne (ne_of_none e hD)]
          exact hk _ _ (by rw [upd_ne (ne_of_none e hD)]; exact e)
        · rw [upd_ne hne] at hp
          exact hp
        · obtain ⟨A0, B, c, i, e, r⟩ := hpu
          exact ⟨A0, B, c, i, by rw [upd_ne hne]; exact e, r⟩
      · omega
    · intro H2 hP
      rcases hP with ⟨h, _⟩ | ⟨_, p, h1, h2, h3, h4, h5⟩
      · omega
      · exact k D p H2 h2 h3 hD h4 h1 h5
theorem scOne : FnScope ["_law_purse_here", "_law_some"] ["_law_purse_here", "_law_some"] (defScope sOne) := ⟨rfl, rfl, rfl, by decide +kernel, rfl, by decide +kernel, by decide +kernel⟩
theorem ok_one (F : FnP K "_law_one_of" sOne f fd) (Z : Free mg) (GD : FnOk P w K mg base CX0 2 fD fdD ["_law_purse_here", "_law_many"] spDraw) (FD : FnP K "_law_draw" sDraw fD fdD) (gD : mg "_law_draw" = some (.ref fD)) :
    FnOk P w K mg base CX0 3 f fd ["_law_purse_here", "_law_some"] (spOne K) := by
  have bD : Binds K fdD ["_law_purse_here", "_law_many"] [] := FD.bindsN fun _ _ _ _ _ _ us hl => match us, hl with | [_, _], _ => rfl
  refine F.ok scOne (fun vs H Q E h => ?_) (fun cdv A outer s H vs Q E hr h => ?_)
  · obtain ⟨p, q, xs, N, rfl, _⟩ := h
    rfl
  · obtain ⟨p, q, xs, N, rfl, hqp, hS, hl1, hl2, hP, hN, k⟩ := h
    refine ⟨_, PSs.nox (pss_one (ps_ret (pe_ix ix_list (pv 1) (pe_call GD hr rfl gD FD.kp bD .nil pass0 (pa_cons (pv 0) (pa_cons (pe_callB call_len_seq (by rfl) Z.len (by decide +kernel) (pa_cons (pv 1) pa_nil)) pa_nil))) (fun _ _ => rfl)))), ?_⟩
    have hm := mixes_one (m := (xs.length : Int)) (by omega) (by omega)
    refine ⟨_, rfl, _, rfl, _, rfl, q, xs, rfl, Or.inl hS, ?_⟩
    refine ⟨p, (xs.length : Int), N, rfl, by omega, log_small (by omega) (by omega), hP, by omega, by omega, fun r H' h0 h1 kb hP' => ?_⟩
    obtain ⟨j, rfl⟩ : ∃ j : Nat, r = j := ⟨r.toNat, by omega⟩
    have hj : j < xs.length := by omega
    refine ⟨q, xs, _, xs[j], rfl, rfl, kb.seq hqp hS, atI_nat (by rw [List.getElem?_eq_getElem hj]), ?_⟩
    rw [hm] at hP'
    exact k _ _ (List.getElem_mem hj) kb hP'
end
abbrev s_purse := sPurse
abbrev s_mixed := sMixed
abbrev s_draw := sDraw
end K06
set_option Elab.async false
set_option linter.all false
set_option maxRecDepth 100000
set_option maxHeartbeats 4000000
/-! Set comprehensions of any members, of one clause or two: the loop of a clause once and for all. -/
namespace KB
open PySem PySem.Spec PyProof.Rows L2
/-- no error leaves -/
abbrev F0 : Value → Shared → Prop := fun _ _ => False
/-- the tests of a clause -/
abbrev tests (ifs : List Expr) (env : Env) : Sem Bool := forIn ifs true fun q r => if r = true then (do let b ← isTrue q env (eval q env); pure (ForInStep.yield b)) else pure (ForInStep.yield r)
/-- the loop c of a clause over it, the rest of a turn being B -/
structure Cl (P : Program) (w : World) (A : Around) (c : Code) (it : Value) (tg : Expr) (env : Env) (ifs : List Expr) (B : (Shared → Prop) → Shared → Prop) : Prop where
  quiet : c.quiet = true
  mono : ∀ (N N' : Shared → Prop) (s : Shared), (∀ s', N s' → N' s') → B N s → B N' s
  den : ∀ (Q : PySem.Fin → Shared → Prop) (E : Value → Shared → Prop) (s : Shared), wpAny (model P w) A (pyNext it) (fun r s1 => match r with
      | none => Q (.done .next) s1
      | some v => wpAny (model P w) A (letOwnedTupleGo tg it v) (fun _ s2 => wpAny (model P w) A (assign tg env v) (fun _ s3 => wpAny (model P w) A (tests ifs env) (fun b s4 =>
          if b = true then B (fun s5 => Q (.again c) s5) s4 else Q (.again c) s4) F0 s3) F0 s2) F0 s1) F0 s → wpAny (model P w) (A.under c) ((model P w).den c) Q E s
/-- what of the slots is known stays known, but for those of vs -/
def Kp (vs : List Nat) (σ σ' : L2.St) : Prop := σ'.length = σ.length ∧ ∀ (j : Nat) (v : V), (wipe σ vs)[j]? = some (some v) → σ'[j]? = some (some v)
theorem Kp.refl (vs : List Nat) (σ : L2.St) : Kp vs σ σ := ⟨rfl, fun _ _ e => (wipe_some e).1⟩
theorem Kp.wipe {vs vs1 : List Nat} (h : ∀ i ∈ vs1, i ∈ vs) (σ : L2.St) : Kp vs σ (wipe σ vs1) := ⟨wipe_length _ _, fun j v e => by
  obtain ⟨e1, e2⟩ := wipe_some e
  rw [wipe_out fun z => e2 (h j z)]
  exact e1⟩
/-- the turns of a clause; tb: the rest of a turn, by what has to hold behind it -/
def tCl (g : TG) (tt : TT) (tb : L2.St → Hp → (Hp → Prop) → Prop) (vs : List Nat) (σ : L2.St) (Z : Hp → Prop) (J : It) (H : Hp) : Prop :=
  ∃ W : Nat → Nat → Hp → Prop, (∃ m, W 0 m H) ∧ ∀ i m G, W i m G → (J.stop i G ∧ Z G) ∨ (J.go i G ∧ ∃ N : Hp → Prop, (∀ G', N G' → ∃ m', m' < m ∧ W (i + 1) m' G') ∧
    ∀ x G', J.yld i G x G' → g x (wipe σ vs) G' fun σ2 H2 => wipe σ2 vs = wipe σ vs ∧ tt σ2 H2 fun b H3 => if b = true then tb σ2 H3 N else N H3)
section
variable {X : Cx} {c : Code} {it : Addr} {tg : Expr} {ifs : List Expr} {B : (Shared → Prop) → Shared → Prop} {J : It} {fp : List Addr} {tn : Nat → Heap → Prop} {g : TG} {tt : TT}
  {tb : L2.St → Hp → (Hp → Prop) → Prop} {vs : List Nat} {pins : List (Addr × Obj)} {σ : L2.St} {H : Hp} {s : Shared} {Z : Hp → Prop} {R : Result → Shared → Prop}
theorem cl_run (hc : X.calm = true) (hx : X.xe = F0) (L : Cl X.prog X.w X.A c (.ref it) tg X.env ifs B) (T : Turn X.prog X.w X.K tg J fp it tn) (pg : PG X tg g) (pt : PTs X ifs tt)
    (pb : ∀ (pl : List (Addr × Obj)) (s1 : Shared) (τ : L2.St) (G : Hp) (N : Hp → Prop), Inv X pl τ G s1 → (∀ b ∈ pl, b ∈ pins ∨ b.1 ∈ fp) → tb τ G N → B (fun s2 => ∃ τ' G', Inv X pl τ' G' s2 ∧ Kp vs τ τ' ∧ N G') s1)
    (I : Inv X pins (wipe σ vs) H s) (fr : ∀ b ∈ fp, FpOk X pins H b) (t0 : tn 0 s.heap) (q : tCl g tt tb vs σ Z J H) (k : ∀ s' G, Inv X pins (wipe σ vs) G s' → (∀ b ∈ fp, G b = none) → Z G → R (.ok .next) s') :
    codeAny (model X.prog X.w) X.A c R s := by
  obtain ⟨W, ⟨m0, w0⟩, turn⟩ := q
  refine codeAny_loop L.quiet (fun n u => ∃ i G, Inv X pins (wipe σ vs) G u ∧ tn i u.heap ∧ (∀ b ∈ fp, G b = none) ∧ W i n G) ?_ m0 ⟨0, H, I, t0, fun b hb => (fr b hb).1, w0⟩
  rintro n s1 ⟨i, G, I1, t1, n1, w1⟩
  refine L.den _ _ _ ?_
  have ok1 : ∀ b ∈ fp, FpOk X pins G b := fun b hb => ⟨n1 b hb, (fr b hb).2⟩
  rcases turn i n G w1 with ⟨stp, z⟩ | ⟨go, N, hN, step⟩
  · refine thnF (T.done X rfl rfl rfl hc i pins s1 _ G F0 I1 ok1 t1 stp) fun r s2 ⟨er, I2⟩ => ?_
    subst er
    exact k _ _ I2 n1 z
  · refine thnF (T.item X rfl rfl rfl hc i pins s1 _ G F0 I1 ok1 t1 go) fun r s2 ⟨u, er, h2⟩ => ?_
    subst er
    refine thnF h2 fun _ s3 ⟨x, G3, I3, r3, y3, t3, n3⟩ => ?_
    have J3 := I3.pinned (fun b hb => ⟨n3 b hb, (fr b hb).2⟩) (T.obj _ _ t3)
    have a1 := pg.run _ s3 _ G3 x u _ J3 r3 (step x G3 y3)
    rw [hx] at a1
    refine thnF a1 fun _ s4 ⟨τ, G4, I4, ew, q4⟩ => ?_
    have a2 := pt.run _ s4 τ G4 _ I4 q4
    rw [hx] at a2
    refine thnF a2 fun ok s5 ⟨G5, I5, q5⟩ => ?_
    have fin : ∀ (τ' : L2.St) (G' : Hp) (s' : Shared), Inv X (pins ++ pinsAt fp s3.heap) τ' G' s' → Kp vs τ τ' → N G' → ∃ m, m < n ∧ ∃ i G, Inv X pins (wipe σ vs) G s' ∧ tn i s'.heap ∧ (∀ b ∈ fp, G b = none) ∧ W i m G := fun τ' G' s' I' kp nx => by
      obtain ⟨m', hm, w'⟩ := hN G' nx
      have at_ : ∀ b ∈ fp, ∀ o, s3.heap.get? b = some o → s'.heap.get? b = some o ∧ G' b = none := fun b hb o e => by
        have z := I'.pin (b, o) (List.mem_append_right _ (List.mem_append_right _ (mem_pinsAt hb e)))
        exact ⟨z.1, z.2.1⟩
      refine ⟨m', hm, i + 1, G', I'.unpinned.weak ?_ (fun j v e => kp.2 j v (by rw [ew]; exact e)), T.keep _ _ _ t3 fun b hb o e => (at_ b hb o e).1, fun b hb => ?_, w'⟩
      · rw [kp.1, ← wipe_length τ vs, ew]
      · obtain ⟨o, e, _⟩ := T.obj _ _ t3 b hb
        exact (at_ b hb o e).2
    cases ok with
    | false => exact ⟨rfl, fin _ _ _ I5 (Kp.refl _ _) q5⟩
    | true =>
      have mem : ∀ b ∈ pins ++ pinsAt fp s3.heap, b ∈ pins ∨ b.1 ∈ fp := fun b hb => by
        rcases List.mem_append.mp hb with z | z
        · exact .inl z
        · refine .inr ?_
          obtain ⟨a, ha, e⟩ := List.mem_filterMap.mp z
          obtain ⟨o, _, rfl⟩ := Option.map_eq_some_iff.mp e
          exact ha
      refine L.mono _ _ _ (fun s6 ⟨τ', G6, I6, kp, nx⟩ => ?_) (pb _ s5 τ G5 N I5 mem q5)
      exact ⟨rfl, fin _ _ _ I6 kp nx⟩
end
end KB
set_option Elab.async false
set_option linter.all false
set_option maxRecDepth 100000
set_option maxHeartbeats 4000000
namespace KB
open PySem PySem.Spec PyProof.Rows L2
abbrev sc1 (elt t0 i0 : Expr) (if0 : List Expr) (scope : Scope) (pos : Pos) : Expr := .SetComp elt [⟨t0, i0, if0, 0⟩] scope pos
abbrev sc2 (elt t0 i0 t1 i1 : Expr) (if0 if1 : List Expr) (scope : Scope) (pos : Pos) : Expr := .SetComp elt [⟨t0, i0, if0, 0⟩, ⟨t1, i1, if1, 0⟩] scope pos
section
variable {P : Program} {w : World} {A : Around} {env : Env} {elt t0 i0 t1 i1 : Expr} {if0 if1 : List Expr} {scope : Scope} {pos : Pos} {it acc : Value}
theorem turn1 : compTurn (sc1 elt t0 i0 if0 scope pos) 0 it acc env = (do
      standAt i0.pos
      match ← pyNext it with
      | none => pure (.done .next)
      | some u =>
        letOwnedTupleGo t0 it u
        assign t0 env u
        let mut b := true
        for q in if0 do
          if b then b ← isTrue q env (eval q env)
        if b then
          (do let y ← eval elt env; standAt elt.pos; let _ ← call (.builtin "set.add") [acc, y])
        again (.compLoop (sc1 elt t0 i0 if0 scope pos) 0 it acc env)) := by rfl
theorem turn2i : compTurn (sc2 elt t0 i0 t1 i1 if0 if1 scope pos) 1 it acc env = (do
      standAt i1.pos
      match ← pyNext it with
      | none => pure (.done .next)
      | some u =>
        letOwnedTupleGo t1 it u
        assign t1 env u
        let mut b := true
        for q in if1 do
          if b then b ← isTrue q env (eval q env)
        if b then
          (do let y ← eval elt env; standAt elt.pos; let _ ← call (.builtin "set.add") [acc, y])
        again (.compLoop (sc2 elt t0 i0 t1 i1 if0 if1 scope pos) 1 it acc env)) := by rfl
theorem turn2o : compTurn (sc2 elt t0 i0 t1 i1 if0 if1 scope pos) 0 it acc env = (do
      standAt i0.pos
      match ← pyNext it with
      | none => pure (.done .next)
      | some u =>
        letOwnedTupleGo t0 it u
        assign t0 env u
        let mut b := true
        for q in if0 do
          if b then b ← isTrue q env (eval q env)
        if b then
          let y ← eval i1 env
          standAt i1.pos
          let y ← foldedSetIterable i1 env y
          let _ ← runOwn (.compStart (sc2 elt t0 i0 t1 i1 if0 if1 scope pos) 1 (← holding [y] (pyIter y)) acc env) env
        again (.compLoop (sc2 elt t0 i0 t1 i1 if0 if1 scope pos) 0 it acc env)) := by rfl
/-- a member is made and put in -/
def bAdd (P : Program) (w : World) (A : Around) (elt : Expr) (env : Env) (acc : Value) : (Shared → Prop) → Shared → Prop := fun N s =>
  wpAny (model P w) A (eval elt env) (fun y s1 => wpAny (model P w) A (call (.builtin "set.add") [acc, y]) (fun _ s2 => N s2) F0 s1) F0 s
theorem noF {α : Type} {t : Sem α} {Q : α → Shared → Prop} {M : Model} {E : Value → Shared → Prop} {s : Shared} (h : wpAny M A t Q F0 s) : wpAny M A t Q E s := wpAny_mono h (fun _ _ x => x) fun _ _ z => z.elim
theorem bAdd_mono (N N' : Shared → Prop) (s : Shared) (h : ∀ s', N s' → N' s') (b : bAdd P w A elt env acc N s) : bAdd P w A elt env acc N' s :=
  wpAny_mono b (fun _ _ x => wpAny_mono x (fun _ s' z => h s' z) fun _ _ z => z) fun _ _ z => z
theorem cl_add1 : Cl P w A (.compLoop (sc1 elt t0 i0 if0 scope pos) 0 it acc env) it t0 env if0 (bAdd P w A elt env acc) := by
  refine ⟨rfl, bAdd_mono, fun Q E s h => ?_⟩
  show wpAny _ A ((compTurn (sc1 elt t0 i0 if0 scope pos) 0 it acc env).onRaise _) _ _ s
  refine wpAny_noted ?_
  rw [turn1]
  refine wpAny_bind (wpAny_standAt (wpAny_bind (noF (wpAny_mono h (fun r s1 h1 => ?_) fun _ _ z => z))))
  cases r with
  | none => exact wpAny_pure h1
  | some u =>
    refine wpAny_bind (noF (wpAny_mono h1 (fun _ s2 h2 => wpAny_bind (noF (wpAny_mono h2 (fun _ s3 h3 => wpAny_bind (noF (wpAny_mono h3 (fun b s4 h4 => ?_) fun _ _ z => z))) fun _ _ z => z))) fun _ _ z => z))
    cases b with
    | false => exact wpAny_pure h4
    | true => exact wpAny_bind (wpAny_bind (noF (wpAny_mono h4 (fun y s5 h5 => wpAny_bind (wpAny_standAt (wpAny_bind (noF (wpAny_mono h5 (fun _ s6 h6 => wpAny_pure (wpAny_pure h6)) fun _ _ z => z))))) fun _ _ z => z)))
theorem cl_add2 : Cl P w A (.compLoop (sc2 elt t0 i0 t1 i1 if0 if1 scope pos) 1 it acc env) it t1 env if1 (bAdd P w A elt env acc) := by
  refine ⟨rfl, bAdd_mono, fun Q E s h => ?_⟩
  show wpAny _ A ((compTurn (sc2 elt t0 i0 t1 i1 if0 if1 scope pos) 1 it acc env).onRaise _) _ _ s
  refine wpAny_noted ?_
  rw [turn2i]
  refine wpAny_bind (wpAny_standAt (wpAny_bind (noF (wpAny_mono h (fun r s1 h1 => ?_) fun _ _ z => z))))
  cases r with
  | none => exact wpAny_pure h1
  | some u =>
    refine wpAny_bind (noF (wpAny_mono h1 (fun _ s2 h2 => wpAny_bind (noF (wpAny_mono h2 (fun _ s3 h3 => wpAny_bind (noF (wpAny_mono h3 (fun b s4 h4 => ?_) fun _ _ z => z))) fun _ _ z => z))) fun _ _ z => z))
    cases b with
    | false => exact wpAny_pure h4
    | true => exact wpAny_bind (wpAny_bind (noF (wpAny_mono h4 (fun y s5 h5 => wpAny_bind (wpAny_standAt (wpAny_bind (noF (wpAny_mono h5 (fun _ s6 h6 => wpAny_pure (wpAny_pure h6)) fun _ _ z => z))))) fun _ _ z => z)))
/-- the second clause is run -/
def bIn (P : Program) (w : World) (A : Around) (e i1 : Expr) (env : Env) (acc : Value) : (Shared → Prop) → Shared → Prop := fun N s =>
  wpAny (model P w) A (eval i1 env) (fun y s1 => wpAny (model P w) A (pyIter y) (fun j s2 => codeAny (model P w) A (.compStart e 1 j acc env) (fun r s' => match r with
    | .ok _ => N s'
    | .error _ => False) s2) F0 s1) F0 s
theorem bIn_mono {e : Expr} (N N' : Shared → Prop) (s : Shared) (h : ∀ s', N s' → N' s') (b : bIn P w A e i1 env acc N s) : bIn P w A e i1 env acc N' s :=
  wpAny_mono b (fun _ _ x => wpAny_mono x (fun _ _ y => codeAny_mono y fun r s' z => match r, z with
    | .ok _, z => h s' z
    | .error _, z => z) fun _ _ z => z) fun _ _ z => z
theorem cl_in (hs : ∀ x, foldedSetIterable i1 env x = pure x) : Cl P w A (.compLoop (sc2 elt t0 i0 t1 i1 if0 if1 scope pos) 0 it acc env) it t0 env if0 (bIn P w A (sc2 elt t0 i0 t1 i1 if0 if1 scope pos) i1 env acc) := by
  refine ⟨rfl, bIn_mono, fun Q E s h => ?_⟩
  show wpAny _ A ((compTurn (sc2 elt t0 i0 t1 i1 if0 if1 scope pos) 0 it acc env).onRaise _) _ _ s
  refine wpAny_noted ?_
  rw [turn2o]
  refine wpAny_bind (wpAny_standAt (wpAny_bind (noF (wpAny_mono h (fun r s1 h1 => ?_) fun _ _ z => z))))
  cases r with
  | none => exact wpAny_pure h1
  | some u =>
    refine wpAny_bind (noF (wpAny_mono h1 (fun _ s2 h2 => wpAny_bind (noF (wpAny_mono h2 (fun _ s3 h3 => wpAny_bind (noF (wpAny_mono h3 (fun b s4 h4 => ?_) fun _ _ z => z))) fun _ _ z => z))) fun _ _ z => z))
    cases b with
    | false => exact wpAny_pure h4
    | true =>
      refine wpAny_bind (noF (wpAny_mono h4 (fun y s5 h5 => ?_) fun _ _ z => z))
      refine wpAny_bind (wpAny_standAt (wpAny_bind (wpAny_of_eq (hs y) (wpAny_bind (wpAny_holding (noF (wpAny_mono h5 (fun j s6 h6 => ?_) fun _ _ z => z)))))))
      refine wpAny_bind (wpAny_runOwn ?_)
      rw [Around.mark_none]
      refine codeAny_mono h6 fun r s7 z => ?_
      cases r with
      | ok f => first
        | exact wpAny_pure z
        | exact wpAny_bind (wpAny_pure (wpAny_pure z))
      | error e => exact z.elim
theorem start2 {R : Result → Shared → Prop} {s : Shared} (h0 : codeAny (model P w) A (.compLoop (sc2 elt t0 i0 t1 i1 if0 if1 scope pos) 1 it acc env) R s)
    (h : wpAny (model P w) A (pyIter it) (fun j s' => codeAny (model P w) A (.compLoop (sc2 elt t0 i0 t1 i1 if0 if1 scope pos) 1 j acc env) R s') F0 s) :
    codeAny (model P w) A (.compStart (sc2 elt t0 i0 t1 i1 if0 if1 scope pos) 1 it acc env) R s := by
  refine codeAny_of_tree ?_
  show wpAny _ _ ((compStart (sc2 elt t0 i0 t1 i1 if0 if1 scope pos) 1 it acc env).onRaise _) _ _ s
  refine wpAny_notedAt ?_
  unfold compStart
  show wpAny _ _ (ask >>= _) _ _ s
  refine wpAny_bind (wpAny_askSetting (wpAny_ite ?_))
  split
  · first
      | exact wpAny_bind (wpAny_pure (wpAny_pure ⟨rfl, h0⟩))
      | exact wpAny_pure ⟨rfl, h0⟩
  · refine wpAny_bind (wpAny_rule ?_)
    show wpAny _ _ (standAt i1.pos >>= _) _ _ s
    exact wpAny_bind (wpAny_standAt (wpAny_bind (noF (wpAny_mono h (fun j s' h' => wpAny_pure ⟨rfl, h'⟩) fun _ _ z => z))))
end
end KB
set_option Elab.async false
set_option linter.all false
set_option maxRecDepth 100000
set_option maxHeartbeats 4000000
namespace KB
open PySem PySem.Spec PyProof.Rows L2
/-- the set's methods: what add asks and does -/
abbrev AddR := V → List V → Hp → VK → Prop
/-- a member is made, and put into the set at D -/
def tAdd (r : AddR) (te : TE) (D : Addr) : L2.St → Hp → (Hp → Prop) → Prop := fun τ G N => te τ G fun y G1 => r (.ref D) [y] G1 fun _ G2 => N G2
/-- the second clause -/
def tInn (r : AddR) (wi1 : TI) (g1 : TG) (tt1 : TT) (te : TE) (vs1 : List Nat) (D : Addr) : L2.St → Hp → (Hp → Prop) → Prop := fun τ G N => wi1 τ G fun J1 G1 => tCl g1 tt1 (tAdd r te D) vs1 τ N J1 G1
/-- {elt for t0 in i0 if ..}, D the new set -/
def tSc1 (O0 : Addr → HO) (r : AddR) (wi : TI) (g : TG) (tt : TT) (te : TE) (vs : List Nat) : TE := fun σ H Q => wi σ H fun J H1 => ∀ D, H1 D = none → tCl g tt (tAdd r te D) vs σ (fun G => Q (.ref D) G) J (upd H1 D (O0 D))
/-- {elt for t0 in i0 if .. for t1 in i1 if ..} -/
def tSc2 (O0 : Addr → HO) (r : AddR) (wi : TI) (g : TG) (tt : TT) (wi1 : TI) (g1 : TG) (tt1 : TT) (te : TE) (vs vs1 : List Nat) : TE := fun σ H Q =>
  wi σ H fun J H1 => ∀ D, H1 D = none → tCl g tt (tInn r wi1 g1 tt1 te vs1 D) vs σ (fun G => Q (.ref D) G) J (upd H1 D (O0 D))
abbrev freshSet (w : World) : Obj := { cls := .type "set", dict := none, data := .set #[] 0 (.fresh 0 0 (!w.params.followText "set-order")) }
theorem ev_sc (elt : Expr) (gs : List Comprehension) (scope : Scope) (pos : Pos) (env : Env) : eval (.SetComp elt gs scope pos) env = comprehension (.SetComp elt gs scope pos) scope env (firstIterPos gs pos) (newSet (.type "set")) (firstAsync gs) (firstIter gs env) := rfl
section
variable {X : Cx} {O0 : Addr → HO} {r : AddR} {elt t0 i0 t1 i1 : Expr} {if0 if1 : List Expr} {scope : Scope} {own : List (Str × Nat)} {vs1 : List Nat} {pos : Pos} {wi wi1 : TI} {g g1 : TG} {tt tt1 : TT} {te : TE}
/-- what stands in the block, in its context -/
abbrev InBlk (X : Cx) (scope : Scope) (p : Cx → Prop) : Prop := ∀ (s : Shared) (H : Hp) (C : Addr) (cl : List (Str × Addr)) (fp : List Addr), p (X.blk s H scope (compEnvC scope cl C X.env) fp)
/-- put in: the rest of a turn -/
theorem add_ok {Y : Cx} {D : Addr} {vs : List Nat} (hx : Y.xe = F0) (he : PE Y elt te) (ha : MtR Y "set.add" r) (pl : List (Addr × Obj)) (s : Shared) (τ : L2.St) (G : Hp) (N : Hp → Prop) (I : Inv Y pl τ G s) (q : tAdd r te D τ G N) :
    bAdd Y.prog Y.w Y.A elt Y.env (.ref D) (fun s2 => ∃ τ' G', Inv Y pl τ' G' s2 ∧ Kp vs τ τ' ∧ N G') s := by
  have a1 := he.run pl s τ G _ I q
  rw [hx] at a1
  refine wpAny_mono a1 (fun u s1 ⟨y, G1, I1, r1, q1⟩ => ?_) fun _ _ z => z
  have a2 := ha pl s1 τ G1 (.ref D) [y] (.ref D) [u] _ I1 rfl (.cons r1 .nil) q1
  rw [hx] at a2
  exact wpAny_mono a2 (fun _ s2 ⟨z, G2, I2, r2, q2⟩ => ⟨τ, G2, I2, Kp.refl _ _, q2⟩) fun _ _ z => z
/-- the second clause: the rest of a turn of the first -/
theorem inn_ok {Y : Cx} {D : Addr} {vs : List Nat} (hc : Y.calm = true) (hx : Y.xe = F0) (hv : ∀ i ∈ vs1, i ∈ vs) (hi1 : PI Y t1 i1 wi1) (hg1 : PG Y t1 g1) (ht1 : PTs Y if1 tt1) (he : PE Y elt te) (ha : MtR Y "set.add" r)
    (pl : List (Addr × Obj)) (s : Shared) (τ : L2.St) (G : Hp) (N : Hp → Prop) (I : Inv Y pl τ G s) (q : tInn r wi1 g1 tt1 te vs1 D τ G N) :
    bIn Y.prog Y.w Y.A (sc2 elt t0 i0 t1 i1 if0 if1 scope pos) i1 Y.env (.ref D) (fun s2 => ∃ τ' G', Inv Y pl τ' G' s2 ∧ Kp vs τ τ' ∧ N G') s := by
  have a1 := hi1.run pl s τ G _ I q
  rw [hx] at a1
  refine wpAny_mono a1 (fun u s1 a2 => wpAny_mono a2 (fun j s2 h2 => ?_) fun _ _ z => z) fun _ _ z => z
  obtain ⟨it, fp, tn, J, G1, e, I1, T, st, fr, q1⟩ := h2
  subst e
  have run := cl_run (R := fun rr s' => match rr with
      | .ok _ => ∃ τ' G', Inv Y pl τ' G' s' ∧ Kp vs τ τ' ∧ N G'
      | .error _ => False) hc hx (cl_add2 (elt := elt) (t0 := t0) (i0 := i0) (i1 := i1) (if0 := if0) (scope := scope) (pos := pos) (acc := .ref D)) T hg1 ht1
    (fun pl' s' τ' G' N' I' _ q' => add_ok (vs := vs1) hx he ha pl' s' τ' G' N' I' q') (I1.weak (wipe_length _ _) fun i v e => (wipe_some e).1) fr st q1
    fun s' G' I' _ z => ⟨_, G', I', Kp.wipe hv τ, z⟩
  exact start2 run (T.self Y.A 0 _ _ _ st run)
/-- from the block's loop to the def's context -/
theorem blk_ok {e : Expr} (hcl : ∃ gs, e = .SetComp elt (⟨t0, i0, if0, 0⟩ :: gs) scope pos) (hN : X.N.Nodup) (hi : PI X t0 i0 wi) (ok : BlkOk X.N X.env.scope scope own)
    (new : ∀ (H : Hp) (h : Heap), ObjOk X.prog X.w H (h.push (freshSet X.w)) h.objs.size (O0 h.objs.size)) {tb : Addr → L2.St → Hp → (Hp → Prop) → Prop}
    (loop : ∀ (s : Shared) (H : Hp) (C : Addr) (cl : List (Str × Addr)) (fp : List Addr) (it : Addr) (tn : Nat → Heap → Prop) (J : It) (D : Addr) (σ : L2.St) (s1 : Shared) (Z : Hp → Prop) (R : Result → Shared → Prop),
      Inv (X.blk s H scope (compEnvC scope cl C X.env) fp) [] (wipe σ (own.map (·.2))) H s1 → Turn X.prog X.w X.K t0 J fp it tn → (∀ b ∈ fp, FpOk (X.blk s H scope (compEnvC scope cl C X.env) fp) [] H b) → tn 0 s1.heap → tCl g tt (tb D) (own.map (·.2)) σ Z J H →
      (∀ s' G, Inv (X.blk s H scope (compEnvC scope cl C X.env) fp) [] (wipe σ (own.map (·.2))) G s' → Z G → R (.ok .next) s') → codeAny (model X.prog X.w) X.A (.compLoop e 0 (.ref it) (.ref D) (compEnvC scope cl C X.env)) R s1)
    (hs : ∀ x, foldedSetIterable i0 X.env x = pure x) : PE X e (fun σ H Q => wi σ H fun J H1 => ∀ D, H1 D = none → tCl g tt (tb D) (own.map (·.2)) σ (fun G => Q (.ref D) G) J (upd H1 D (O0 D))) := by
  obtain ⟨gs, rfl⟩ := hcl
  refine ⟨fun pins s σ H Q I h => ?_⟩
  rw [ev_sc]
  have hfree : ∀ y ∈ scope.names, y.2 = .free → ∃ c, X.env.cells.lookup y.1 = some c := fun y hy e => I.ok.has _ (ok.free y hy e)
  refine wpAny_comprehension_free (use := none) rfl hs (closure_ok hfree) ok.kind (fun y hy e => by rw [ok.uniq y hy, e]) (thn (hi.run pins s σ H _ I h) fun xv s1 hx => thn hx fun itv s2 h2 => ?_)
  obtain ⟨it, fp, tn, J, H2, e, I2, T, st, fr, q⟩ := h2
  subst e
  refine PpSet.newSet_ok (newEnv_comp ?_)
  have hDn : H2 s2.heap.objs.size = none := I2.hok.fresh (Nat.le_refl _)
  have q0 := q _ hDn
  generalize hD : s2.heap.objs.size = D at hDn q0
  have I3 : Inv X pins σ (upd H2 D (O0 D)) { s2 with heap := s2.heap.push (freshSet X.w) } :=
    I2.laid (t' := s2.toks) (fun b o e => Heap.get?_push_of_some _ e) (Nat.le_of_eq hD) (hD ▸ new _ _)
  generalize h3 : ({ s2 with heap := s2.heap.push (freshSet X.w) } : Shared) = s3 at I3
  have e3 : s3.heap = s2.heap.push (freshSet X.w) := by rw [← h3]
  have lt : ∀ b ∈ fp, b < s2.heap.objs.size := fun b hb => by
    obtain ⟨o, e, _⟩ := T.obj _ _ st b hb
    exact Heap.lt_size e
  have fr3 : ∀ b ∈ fp, FpOk X pins (upd H2 D (O0 D)) b ∧ b < s3.heap.objs.size := fun b hb => by
    have l := lt b hb
    refine ⟨⟨?_, (fr b hb).2⟩, by rw [e3, Heap.size_push]; exact Nat.lt_succ_of_lt l⟩
    rw [upd_ne (by rw [← hD]; exact Nat.ne_of_lt l)]
    exact (fr b hb).1
  have st3 : tn 0 s3.heap := T.keep _ _ _ st fun b _ o e => by rw [e3]; exact Heap.get?_push_of_some _ e
  have I4 := block_start I3 ok hN fr3
  have st4 : tn 0 (pushCells (s3.heap.push { cls := .type "dict", data := .dict #[] }) scope.names) := T.keep _ _ _ st3 fun b _ o e => pushCells_keeps _ _ _ _ (Heap.get?_push_of_some _ e)
  have fr4 : ∀ b ∈ fp, FpOk (X.blk s3 (upd H2 D (O0 D)) scope (compEnvC scope (cellsFrom (s3.heap.objs.size + 1) scope.names (cloFrom X.env.cells scope.names [])) s3.heap.objs.size X.env) fp) [] (upd H2 D (O0 D)) b := fun b hb =>
    ⟨(fr3 b hb).1.1, (I4.ok.exf b hb).1, I4.ok.exfs b hb, .inl hb, fun x c e => (I4.ok.exf b hb).2 x c e, fun p hp => absurd (show p ∈ ([] : List (Addr × Obj)) ++ [] from hp) (by simp)⟩
  have run := loop s3 (upd H2 D (O0 D)) _ _ fp it tn J D σ _ _ (compPost (model X.prog X.w) X.A X.xe none (EP X pins σ Q) (.ref D) s3.heap.objs.size) I4 T fr4 st4 q0 fun s' G I' z => by
    have I7 : Inv X pins σ G s' := I3.call' (ch := fp) I'.os I'.base I'.hok I'.bare fun b hb => ⟨(fr3 b hb).1.2.2.2.1, (fr3 b hb).1.2.1, (fr3 b hb).1.2.2.2.2.1, (fr3 b hb).1.2.2.2.2.2⟩
    have nC : G s3.heap.objs.size = none := I'.free
    obtain ⟨m, hm, _⟩ := I'.loc
    obtain ⟨f0, f1, f2, f3, f4, f5⟩ := I3.fpOk (Nat.le_refl _) nC
    exact ⟨m, hm, fun h' sb => ⟨.ref D, G, I7.turned (t' := s'.toks) (fun b o hb e => (sb.2 b hb).trans e) f0 f1 f3 f4 f5, rfl, z⟩⟩
  have fin := PpSet.codeAny_compStart_set run (T.self X.A 0 _ _ _ st4 run)
  subst h3
  subst hD
  exact fin
end
end KB
set_option Elab.async false
set_option linter.all false
set_option maxRecDepth 100000
set_option maxHeartbeats 4000000
namespace KB
open PySem PySem.Spec PyProof.Rows L2
section
variable {X : Cx} {O0 : Addr → HO} {r : AddR} {elt t0 i0 t1 i1 : Expr} {if0 if1 : List Expr} {scope : Scope} {own : List (Str × Nat)} {vs1 : List Nat} {pos : Pos} {wi wi1 : TI} {g g1 : TG} {tt tt1 : TT} {te : TE}
theorem pe_sc1R (hc : X.calm = true) (hN : X.N.Nodup) (hi : PI X t0 i0 wi) (ok : BlkOk X.N X.env.scope scope own) (hg : ∀ (s : Shared) (H : Hp) (C : Addr) (cl : List (Str × Addr)) (fp : List Addr), PG (X.blk s H scope (compEnvC scope cl C X.env) fp) t0 g) (ht : ∀ (s : Shared) (H : Hp) (C : Addr) (cl : List (Str × Addr)) (fp : List Addr), PTs (X.blk s H scope (compEnvC scope cl C X.env) fp) if0 tt) (he : ∀ (s : Shared) (H : Hp) (C : Addr) (cl : List (Str × Addr)) (fp : List Addr), PE (X.blk s H scope (compEnvC scope cl C X.env) fp) elt te)
    (new : ∀ (H : Hp) (h : Heap), ObjOk X.prog X.w H (h.push (freshSet X.w)) h.objs.size (O0 h.objs.size)) (ha : ∀ (s : Shared) (H : Hp) (C : Addr) (cl : List (Str × Addr)) (fp : List Addr), MtR (X.blk s H scope (compEnvC scope cl C X.env) fp) "set.add" r) (hs : ∀ x, foldedSetIterable i0 X.env x = pure x := by intro _; rfl) :
    PE X (sc1 elt t0 i0 if0 scope pos) (tSc1 O0 r wi g tt te (own.map (·.2))) :=
  blk_ok (tb := fun D => tAdd r te D) ⟨_, rfl⟩ hN hi ok new (fun s H C cl fp it tn J D σ s1 Z R I T fr st q k =>
    cl_run (X := X.blk s H scope (compEnvC scope cl C X.env) fp) hc rfl (cl_add1 (elt := elt) (i0 := i0) (scope := scope) (pos := pos) (acc := .ref D)) T (hg s H C cl fp) (ht s H C cl fp)
      (fun pl s' τ G N I' _ q' => add_ok (Y := X.blk s H scope (compEnvC scope cl C X.env) fp) rfl (he s H C cl fp) (ha s H C cl fp) pl s' τ G N I' q') I fr st q fun s' G I' _ z => k s' G I' z) hs
theorem pe_sc2R (hc : X.calm = true) (hN : X.N.Nodup) (hi : PI X t0 i0 wi) (ok : BlkOk X.N X.env.scope scope own) (hv : ∀ i ∈ vs1, i ∈ own.map (·.2)) (hg : ∀ (s : Shared) (H : Hp) (C : Addr) (cl : List (Str × Addr)) (fp : List Addr), PG (X.blk s H scope (compEnvC scope cl C X.env) fp) t0 g) (ht : ∀ (s : Shared) (H : Hp) (C : Addr) (cl : List (Str × Addr)) (fp : List Addr), PTs (X.blk s H scope (compEnvC scope cl C X.env) fp) if0 tt)
    (hi1 : ∀ (s : Shared) (H : Hp) (C : Addr) (cl : List (Str × Addr)) (fp : List Addr), PI (X.blk s H scope (compEnvC scope cl C X.env) fp) t1 i1 wi1) (hg1 : ∀ (s : Shared) (H : Hp) (C : Addr) (cl : List (Str × Addr)) (fp : List Addr), PG (X.blk s H scope (compEnvC scope cl C X.env) fp) t1 g1) (ht1 : ∀ (s : Shared) (H : Hp) (C : Addr) (cl : List (Str × Addr)) (fp : List Addr), PTs (X.blk s H scope (compEnvC scope cl C X.env) fp) if1 tt1) (he : ∀ (s : Shared) (H : Hp) (C : Addr) (cl : List (Str × Addr)) (fp : List Addr), PE (X.blk s H scope (compEnvC scope cl C X.env) fp) elt te)
    (new : ∀ (H : Hp) (h : Heap), ObjOk X.prog X.w H (h.push (freshSet X.w)) h.objs.size (O0 h.objs.size)) (ha : ∀ (s : Shared) (H : Hp) (C : Addr) (cl : List (Str × Addr)) (fp : List Addr), MtR (X.blk s H scope (compEnvC scope cl C X.env) fp) "set.add" r) (hs : ∀ x, foldedSetIterable i0 X.env x = pure x := by intro _; rfl) (hs1 : ∀ env x, foldedSetIterable i1 env x = pure x := by intro _ _; rfl) :
    PE X (sc2 elt t0 i0 t1 i1 if0 if1 scope pos) (tSc2 O0 r wi g tt wi1 g1 tt1 te (own.map (·.2)) vs1) :=
  blk_ok (tb := fun D => tInn r wi1 g1 tt1 te vs1 D) ⟨_, rfl⟩ hN hi ok new (fun s H C cl fp it tn J D σ s1 Z R I T fr st q k =>
    cl_run (X := X.blk s H scope (compEnvC scope cl C X.env) fp) hc rfl (cl_in (elt := elt) (t0 := t0) (i0 := i0) (t1 := t1) (if0 := if0) (if1 := if1) (scope := scope) (pos := pos) (acc := .ref D) (hs1 _)) T (hg s H C cl fp) (ht s H C cl fp)
      (fun pl s' τ G N I' _ q' => inn_ok (Y := X.blk s H scope (compEnvC scope cl C X.env) fp) hc rfl hv (hi1 s H C cl fp) (hg1 s H C cl fp) (ht1 s H C cl fp) (he s H C cl fp) (ha s H C cl fp) pl s' τ G N I' q') I fr st q fun s' G I' _ z => k s' G I' z) hs
/-- of ints -/
theorem pe_sc1I (hc : X.calm = true) (hN : X.N.Nodup) (hi : PI X t0 i0 wi) (ok : BlkOk X.N X.env.scope scope own) (hg : ∀ (s : Shared) (H : Hp) (C : Addr) (cl : List (Str × Addr)) (fp : List Addr), PG (X.blk s H scope (compEnvC scope cl C X.env) fp) t0 g) (ht : ∀ (s : Shared) (H : Hp) (C : Addr) (cl : List (Str × Addr)) (fp : List Addr), PTs (X.blk s H scope (compEnvC scope cl C X.env) fp) if0 tt) (he : ∀ (s : Shared) (H : Hp) (C : Addr) (cl : List (Str × Addr)) (fp : List Addr), PE (X.blk s H scope (compEnvC scope cl C X.env) fp) elt te) (hs : ∀ x, foldedSetIterable i0 X.env x = pure x := by intro _; rfl) :
    PE X (sc1 elt t0 i0 if0 scope pos) (tSc1 (fun D => SetO X.w D (fun _ => false) 0) (rSAdd X.w) wi g tt te (own.map (·.2))) :=
  pe_sc1R hc hN hi ok hg ht he (fun _ _ => setO_new (setR_fresh X.w)) (fun _ _ _ _ _ => mt_sadd) hs
theorem pe_sc2I (hc : X.calm = true) (hN : X.N.Nodup) (hi : PI X t0 i0 wi) (ok : BlkOk X.N X.env.scope scope own) (hv : ∀ i ∈ vs1, i ∈ own.map (·.2)) (hg : ∀ (s : Shared) (H : Hp) (C : Addr) (cl : List (Str × Addr)) (fp : List Addr), PG (X.blk s H scope (compEnvC scope cl C X.env) fp) t0 g) (ht : ∀ (s : Shared) (H : Hp) (C : Addr) (cl : List (Str × Addr)) (fp : List Addr), PTs (X.blk s H scope (compEnvC scope cl C X.env) fp) if0 tt)
    (hi1 : ∀ (s : Shared) (H : Hp) (C : Addr) (cl : List (Str × Addr)) (fp : List Addr), PI (X.blk s H scope (compEnvC scope cl C X.env) fp) t1 i1 wi1) (hg1 : ∀ (s : Shared) (H : Hp) (C : Addr) (cl : List (Str × Addr)) (fp : List Addr), PG (X.blk s H scope (compEnvC scope cl C X.env) fp) t1 g1) (ht1 : ∀ (s : Shared) (H : Hp) (C : Addr) (cl : List (Str × Addr)) (fp : List Addr), PTs (X.blk s H scope (compEnvC scope cl C X.env) fp) if1 tt1) (he : ∀ (s : Shared) (H : Hp) (C : Addr) (cl : List (Str × Addr)) (fp : List Addr), PE (X.blk s H scope (compEnvC scope cl C X.env) fp) elt te)
    (hs : ∀ x, foldedSetIterable i0 X.env x = pure x := by intro _; rfl) (hs1 : ∀ env x, foldedSetIterable i1 env x = pure x := by intro _ _; rfl) :
    PE X (sc2 elt t0 i0 t1 i1 if0 if1 scope pos) (tSc2 (fun D => SetO X.w D (fun _ => false) 0) (rSAdd X.w) wi g tt wi1 g1 tt1 te (own.map (·.2)) vs1) :=
  pe_sc2R hc hN hi ok hv hg ht hi1 hg1 ht1 he (fun _ _ => setO_new (setR_fresh X.w)) (fun _ _ _ _ _ => mt_sadd) hs hs1
end
/-- a clause over what a Walk tells: I holds ahead of each turn -/
theorem cl_walk {J : It} {n : Nat} {G0 : Hp → Prop} {Y : Nat → Hp → V → Hp → Prop} {g : TG} {tt : TT} {tb : L2.St → Hp → (Hp → Prop) → Prop} {vs : List Nat} {σ : L2.St} {Z : Hp → Prop} {H : Hp} (w : Walk J n G0 Y) (I : Nat → Hp → Prop) (h0 : I 0 H) (hp : ∀ i G, i ≤ n → I i G → G0 G)
    (turn : ∀ (i : Nat) (x : V) (G G' : Hp), i < n → I i G → Y i G x G' → g x (wipe σ vs) G' fun σ2 H2 => wipe σ2 vs = wipe σ vs ∧ tt σ2 H2 fun b H3 => if b = true then tb σ2 H3 (I (i + 1)) else I (i + 1) H3) (fin : ∀ G, I n G → Z G) :
    tCl g tt tb vs σ Z J H := by
  refine ⟨fun i m G => m = n - i ∧ i ≤ n ∧ I i G, ⟨n, by simp, Nat.zero_le _, h0⟩, ?_⟩
  rintro i m G ⟨rfl, hi, z⟩
  by_cases lt : i < n
  · exact .inr ⟨w.goes i G lt (hp i G hi z), I (i + 1), fun G' z' => ⟨n - (i + 1), by omega, rfl, lt, z'⟩, fun x G' y => turn i x G G' lt z (w.yields i G x G' lt (hp i G hi z) y)⟩
  · obtain rfl : i = n := by omega
    exact .inl ⟨w.stops G (hp i G hi z), fin G z⟩
end KB
set_option Elab.async false
set_option linter.all false
set_option maxRecDepth 100000
set_option maxHeartbeats 4000000
/-! Sets of tuples of whole numbers: a new one, add, len. -/
namespace KB
open PySem PySem.Spec PyProof.Rows L2
theorem setTO_get {P : Program} {w : World} {H : Hp} {h : Heap} {a : Addr} {L : List (Addr × List Int)} (k : ObjOk P w H h a (SetTO P w a L)) : SetT0 P w h a L := by
  exact k.1
theorem call_addT {P : Program} {w : World} {A : Around} {E : Value → Shared → Prop} {s : Shared} {a x : Addr} {L : List (Addr × List Int)} {k : List Int} {es : Array (Int × Value)} {ep : Nat} {t : SetTable} {Q : Value → Shared → Prop}
    (R : SetTR P w s.heap a L es ep t) (hx : L2.IsT P w s.heap k x) (hu : A.in1.units < cLine) (fw : L.length + 1 < 64)
    (q : ∀ (h' : Heap) (tk : Nat) (L' : List (Addr × List Int)), Heap.SameBut a s.heap h' → SetT0 P w h' a L' → (k ∈ L.map (·.2) → L' = L) → (k ∉ L.map (·.2) → L'.Perm ((x, k) :: L)) →
      Q .none { heap := h', gens := s.gens, drawn := s.drawn, toks := tk, os := s.os }) :
    wpAny (model P w) A (call (.builtin "set.add") [.ref a, .ref x]) Q E s := by
  obtain ⟨o, ho, ex, od⟩ := R.ob
  refine wpAny_call_entry F.slot_set_add ⟨o, ho, ex.1⟩ F.entry_set_add ?_ (F.args_set_add_2 _ _)
  show wpAny (model P w) A.in1 (do
    let y ← (do let a' ← Builtin.Frozenset.addrOf (.ref a); pure (a', Value.ref x))
    let _ ← setAdd y.1 y.2
    ret Value.none) _ E s
  refine wpAny_bind ?_
  rw [show (do let a' ← Builtin.Frozenset.addrOf (.ref a); pure (a', Value.ref x) : Sem (Addr × Value)) = pure (a, Value.ref x) from by simp [Builtin.Frozenset.addrOf]]
  refine wpAny_pure ?_
  refine wpAny_bind ?_
  show wpAny (model P w) A.in1 (setAdd a (.ref x)) _ E s
  unfold setAdd
  refine wpAny_holding ?_
  refine wpAny_bind ?_
  refine wpAny_pyHash_tuple (knd := intKind P w) hu hx ?_
  refine add_at (s := { heap := s.heap, gens := s.gens, drawn := s.drawn, toks := s.toks + (k.length + 1), os := s.os }) (x := x) R hx hu fw fun b h' L' es' ep' t' sb R' k1 k2 => ?_
  refine wpAny_pure ⟨_, rfl, q _ _ _ sb ⟨_, _, _, R'.ob, R'.rows, R'.tab, R'.nd, R'.plain, R'.led, R'.room, R'.few⟩ k1 k2⟩
/-- put in -/
def rTAdd (K : PySem.W.Frag) (P : Program) (w : World) : V → List V → Hp → VK → Prop := fun x xs H Q => ∃ (a t : Addr) (L : List (Addr × List Int)) (k : List Int), x = .ref a ∧ xs = [.ref t] ∧ H a = some (SetTO P w a L) ∧ (∀ p ∈ L, SqT K H p.1 (p.2.map V.int)) ∧ SqT K H t (k.map V.int) ∧ L.length + 1 < 64 ∧
  ∀ L', (k ∈ L.map (·.2) → L' = L) → (k ∉ L.map (·.2) → L'.Perm ((t, k) :: L)) → Q .non (upd H a (SetTO P w a L'))
theorem mt_addT {X : Cx} (hu : X.A.units + 1 < cLine) : MtR X "set.add" (rTAdd X.K X.prog X.w) := by
  rintro pins s σ H x xs v us Q I hx hxs ⟨a, t, L, k, rfl, rfl, ha, hL, ht, fw, q⟩
  cases hx
  cases hxs with
  | cons h1 h2 =>
  cases h2
  cases h1
  have s0 := setTO_get (I.hok _ _ ha)
  obtain ⟨es, ep, t0, hob, hrows, htab, hnd, hpl, hled, hroom, hfew⟩ := s0.ex
  have R : SetTR X.prog X.w s.heap a L es ep t0 := ⟨hob, hrows, htab, hnd, fun p hp => I.isT (hL p hp), hpl, hled, hroom, hfew⟩
  refine call_addT R (I.isT ht) hu fw fun h' tk L' sb s1 k1 k2 => ?_
  refine ⟨.non, _, I.write (o := SetTO X.prog X.w a L') (by rw [ha]; trivial) (.inl rfl) (fun b u n e => by rw [sb.2 b n]; exact e) ?_ (setTO_new s1), rfl, q L' k1 k2⟩
  obtain ⟨_, _, _, ⟨o', ho', _⟩, _⟩ := s1.ex
  exact ⟨o', ho'⟩
/-- len of one -/
def rLenT (P : Program) (w : World) : List V → Hp → VK → Prop := fun xs H Q => ∃ (a : Addr) (L : List (Addr × List Int)), xs = [.ref a] ∧ H a = some (SetTO P w a L) ∧ Q (.int (L.length : Int)) H
theorem cr_lenT {X : Cx} : CallR X (.builtin "len") (rLenT X.prog X.w) := by
  rintro pins s σ H xs us Q I hxs ⟨a, L, rfl, ha, q⟩
  cases hxs with
  | cons h1 h2 =>
  cases h2
  cases h1
  have s0 := setTO_get (I.hok _ _ ha)
  obtain ⟨es, ep, t0, ⟨o, ho, ex, od⟩, hrows, htab, hnd, hpl, hled, hroom, hfew⟩ := s0.ex
  have sz : es.size = L.length := by
    have := congrArg List.length hrows
    rw [Array.length_toList] at this
    rw [this]
    unfold rowsOf
    rw [List.length_map]
  have ft : t0.fits es.size = true := by
    unfold SetTable.fits
    unfold SetTable.fill
    rw [htab.dm]
    have := htab.sz
    rw [List.length_map] at this
    simp
    omega
  refine call_len_set ho ex od ft (by omega) ?_
  rw [sz]
  exact ⟨.int (L.length : Int), _, I.tok _, ⟨_, rfl⟩, q⟩
theorem new_setT {P : Program} {w : World} (H : Hp) (h : Heap) : ObjOk P w H (h.push (freshSet w)) h.objs.size (SetTO P w h.objs.size []) := by
  have R := setTR_fresh (P := P) (w := w) (h := h.push (freshSet w)) (a := h.objs.size) (Heap.get?_push_size _ (o := freshSet w) rfl)
  exact setTO_new ⟨_, _, _, R.ob, R.rows, R.tab, R.nd, R.plain, R.led, R.room, R.few⟩
end KB
set_option Elab.async false
set_option linter.all false
set_option maxRecDepth 100000
set_option maxHeartbeats 4000000
/-! {a, b}: a set of two whole numbers; the code of the def, which the display asks. -/
namespace KB
open PySem PySem.Spec PyProof.Rows L2
theorem okC {P : Program} {w : World} {K : PySem.W.Frag} {mg : Str → Option Value} {base : Heap} {x qual : Str} {params : Arguments} {body : List Stmt} {scope : Scope} {dvs : List V} {kws : List (Str × V)} {f : Addr} {fd : FuncData} {CX : CXT} {N ps : List Str} {k : Nat} {sp : Sp}
    (F : FunD K x qual params body scope dvs kws f fd) (S : FnScope N ps scope) (len : ∀ (vs : List V) (H : Hp) (Q : VK) (E : XK), sp vs H Q E → vs.length = ps.length)
    (hbody : ∀ (cdv : Value), PySem.W.codeIn K cdv qual = true → ∀ (A : Around) (outer : List Env) (s : Shared) (H : Hp) (vs : List V) (Q : VK) (E : XK), Room k (A.deeper (envOfC qual scope s.heap.objs.size f cdv)) → sp vs H Q E →
      ∃ t, PSs (cxOf CX P w K mg base N qual scope f cdv A outer s H E) body t ∧ t { nx := fun x H' => Q V.non H', rt := Q } (L2.start N vs) H) :
    FnOk P w K mg base CX (k + 1) f fd ps sp := by
  obtain ⟨oc, od, dV, kV, doc, pm, an, cdv, ct, osl, rfl, lk, hcd, _, _⟩ := F.ex
  exact fn_of lk hcd S len fun A outer s H vs Q E hr hsp => hbody cdv hcd A outer s H vs Q E hr hsp
theorem kds_of {K : PySem.W.Frag} {cd : Value} {q : Str} (h : PySem.W.codeIn K cd q = true) : PySem.W.kdsCode K cd = true := by
  cases cd with
  | ref c =>
    simp only [PySem.W.codeIn] at h
    simp only [PySem.W.kdsCode]
    split at h
    · rename_i e
      simp only [e]
    · cases h
  | _ => simp [PySem.W.codeIn] at h
theorem main_of {P : Program} {w : World} {A : Around} {E : Value → Shared → Prop} {s : Shared} {K : PySem.W.Frag} {env : Env} {q : Str} {Q : Bool → Shared → Prop} (hK : K.In s.heap) (h : PySem.W.codeIn K env.code q = true) (k : ∀ b : Bool, Q b s) : wpAny (model P w) A (inMainModule env) Q E s :=
  PySem.W.kds_main hK (kds_of h) k
/-- {a, b} -/
def tSet2 (w : World) (t1 t2 : TE) : TE := fun σ H Q => ∀ D, H D = none → t1 σ (upd H D (SetO w D (fun _ => false) 0)) fun x1 H1 => t2 σ H1 fun x2 H2 => ∃ i j : Int, x1 = .int i ∧ x2 = .int j ∧ H2 D = some (SetO w D (fun _ => false) 0) ∧
  Q (.ref D) (upd H2 D (SetO w D (fun k => decide (k = i) || decide (k = j)) (if i = j then 1 else 2)))
theorem add_int {P : Program} {w : World} {A : Around} {E : Value → Shared → Prop} {s : Shared} {a : Addr} {S : Int → Bool} {n : Nat} {k : Int} {tk : Tok} {Q : Bool → Shared → Prop} (R : SetR w s.heap a S n) (hn : n + 1 < scanBound)
    (q : ∀ (b : Bool) (h' : Heap) (t' : Nat), Heap.SameBut a s.heap h' → SetR w h' a (fun j => S j || decide (j = k)) (if S k = true then n else n + 1) → Q b { heap := h', gens := s.gens, drawn := s.drawn, toks := t', os := s.os }) :
    wpAny (model P w) A (setAdd a (.int k tk)) Q E s := by
  unfold setAdd
  refine wpAny_holding (wpAny_bind ((intKind P w).pyHash (intKind_is _ _ _ _) ?_))
  exact setR_add_hashed (s := { heap := s.heap, gens := s.gens, drawn := s.drawn, toks := s.toks + 1, os := s.os }) R hn fun h' sb R' => q _ h' _ sb R'
section
variable {X : Cx} {e1 e2 : Expr} {t1 t2 : TE} {pos : Pos} {q : Str}
theorem pe_set2 (hcode : PySem.W.codeIn X.K X.env.code q = true) (h1 : PE X e1 t1) (h2 : PE X e2 t2) (hs : starEach [e1, e2] X.env = [(false, eval e1 X.env), (false, eval e2 X.env)] := by rfl) : PE X (.Set [e1, e2] 0 pos) (tSet2 X.w t1 t2) := by
  refine ⟨fun pins s σ H Q I h => ?_⟩
  rw [arm_eval_Set, hs]
  refine wpAny_bind (wpAny_standAt ?_)
  refine wpAny_bind (main_of (K := X.K) I.kIn hcode fun b => ?_)
  unfold setDisplay
  rw [if_neg (by intro z; cases z)]
  refine wpAny_bind (PpSet.newSet_ok ?_)
  have hDn : H s.heap.objs.size = none := HOk.fresh I.hok (Nat.le_refl _)
  have q0 := h _ hDn
  generalize hD : s.heap.objs.size = D at hDn q0 ⊢
  have I3 : L2.Inv X pins σ (upd H D (SetO X.w D (fun _ => false) 0)) { s with heap := s.heap.push (freshSet X.w) } :=
    I.laid (t' := s.toks) (fun b o e => Heap.get?_push_of_some _ e) (Nat.le_of_eq hD) (hD ▸ setO_new (setR_fresh X.w))
  refine wpAny_bind (wpAny_holding (wpAny_bind ?_))
  refine PyProof.Rows.evalAll_cons (wpAny_bind (thn (h1.run pins _ σ _ _ I3 q0) fun v1 s1 ⟨x1, H1, I1, r1, k1⟩ => wpAny_bind (wpAny_standAt (wpAny_pure ?_))))
  refine PyProof.Rows.evalAll_cons (wpAny_bind (thn (h2.run pins _ σ _ _ I1 k1) fun v2 s2 ⟨x2, H2, I2, r2, k2⟩ => wpAny_bind (wpAny_standAt (wpAny_pure ?_))))
  obtain ⟨i, j, rfl, rfl, hH, k3⟩ := k2
  obtain ⟨t1', rfl⟩ := r1
  obtain ⟨t2', rfl⟩ := r2
  refine wpAny_pure ?_
  refine wpAny_bind (wpAny_holding ?_)
  refine wpAny_bind ?_
  have R2 := setO_get I2 hH
  rw [List.forIn_cons]
  refine wpAny_bind (wpAny_bind (add_int R2 (by decide) fun a1 h1' tk1 sb1 R3 => wpAny_pure ?_))
  show wpAny (model X.prog X.w) X.A (forIn [Value.int j t2'] _ _) _ _ _
  rw [List.forIn_cons]
  refine wpAny_bind (wpAny_bind (add_int (s := { heap := h1', gens := s2.gens, drawn := s2.drawn, toks := tk1, os := s2.os }) R3 (by show 1 + 1 < _; decide) fun a2 h2' tk2 sb2 R4 => wpAny_pure ?_))
  show wpAny (model X.prog X.w) X.A (forIn [] _ _) _ _ _
  rw [List.forIn_nil]
  refine wpAny_pure ?_
  rw [if_neg (by intro z; cases z)]
  refine wpAny_pure ?_
  refine wpAny_bind ?_
  show wpAny (model X.prog X.w) X.A (forIn ([] : List (Bool × Sem Value)) _ _) _ _ _
  rw [List.forIn_nil]
  refine wpAny_pure (wpAny_pure (wpAny_pure ?_))
  have R5 : SetR X.w h2' D (fun k => decide (k = i) || decide (k = j)) (if i = j then 1 else 2) := by
    by_cases e : i = j
    · rw [if_pos e]
      have e2 : (if ((fun k => (fun _ : Int => false) k || decide (k = i)) j) = true then (if (fun _ : Int => false) i = true then 0 else 0 + 1) else (if (fun _ : Int => false) i = true then 0 else 0 + 1) + 1) = 1 := by simp [e]
      rw [e2] at R4
      exact R4
    · rw [if_neg e]
      have e2 : (if ((fun k => (fun _ : Int => false) k || decide (k = i)) j) = true then (if (fun _ : Int => false) i = true then 0 else 0 + 1) else (if (fun _ : Int => false) i = true then 0 else 0 + 1) + 1) = 2 := by simp [Ne.symm e]
      rw [e2] at R4
      exact R4
  refine ⟨.ref D, _, I2.write (x := D) (e := D) (o := SetO X.w D (fun k => decide (k = i) || decide (k = j)) (if i = j then 1 else 2)) (by rw [hH]; trivial) (.inl rfl) (fun b u n e => by rw [sb2.2 _ n, sb1.2 _ n]; exact e) ?_ (setO_new R5), rfl, k3⟩
  obtain ⟨o, _, _, _, ho, _⟩ := R5
  exact ⟨o, ho⟩
end
end KB
set_option Elab.async false
set_option linter.all false
namespace KB
open PySem PySem.Spec PyProof.Rows L2
/-- all but what stands at D -/
def off (H : Hp) (D : Addr) : Hp := fun b => if b = D then none else H b
theorem off_at {H : Hp} {D b : Addr} (n : b ≠ D) : off H D b = H b := if_neg n
theorem off_same {H H' : Hp} (D : Addr) (k : Same H H') : Same (off H D) (off H' D) := fun b o e => by
  by_cases n : b = D
  · unfold off at e
    rw [if_pos n] at e
    cases e
  · rw [off_at n] at e ⊢
    exact k _ _ e
theorem off_le (H : Hp) (D : Addr) : Same (off H D) H := fun b o e => by
  by_cases n : b = D
  · unfold off at e
    rw [if_pos n] at e
    cases e
  · rw [off_at n] at e
    exact e
theorem off_upd (H : Hp) (D : Addr) (o : HO) : off (upd H D o) D = off H D := by
  funext b
  unfold off
  by_cases n : b = D
  · rw [if_pos n, if_pos n]
  · rw [if_neg n, if_neg n, upd_ne n]
theorem off_in {H G : Hp} {D : Addr} (k : Same H G) (n : H D = none) : Same H (off G D) := fun b o e => by
  rw [off_at (ne_of_none e n)]
  exact k b o e
end KB
set_option Elab.async false
set_option linter.all false
set_option maxRecDepth 100000
set_option maxHeartbeats 4000000
/-! x in l, l a list of dictionaries from keys to ints, x such a one. -/
namespace PySem.SeqAt
open AutoSeq1 (wpAny_loadPart')
open MeetsSeq MeetsSeq2 MeetsSeq3 SeqRoads2
section
variable {prog : Program} {w : World}
theorem kim_loop (l : Addr) (items : Array Value) (n : Nat) (dd : Option Addr) (sl : Array (Option Value)) (x : Value) (e : Nat → Bool) (k : Nat) :
    ∀ i : Nat, items.size - i = k → MeetsIn prog w (Builtin.«list.__contains__.loop» ⟨[.ref l, x, rawInt i], []⟩)
      (fun A R s => s.heap.get? l = some { cls := .type "list", dict := dd, data := .seq items n, slots := sl } ∧ (∀ j (h : j < items.size), EqP prog w A.in1 s items[j] x (e j)) ∧ R (.ok (.ret (.bool (((List.range items.size).drop i).any e)))) s) := by
  induction k with
  | zero =>
    intro i hk A R s h
    obtain ⟨hp, g, d, tk, os⟩ := s; obtain ⟨hl, he, h⟩ := h
    wp_walk using wpAny_loadPart' hl
    have hi : items[((i : Nat) : Int).toNat]? = none := by simp; omega
    have hd : (List.range items.size).drop i = [] := by simp; omega
    rw [hd] at h
    rw [hi]
    wp_walk
    exact h
  | succ k ih =>
    intro i hk A R s h
    obtain ⟨hp, g, d, tk, os⟩ := s; obtain ⟨hl, he, h⟩ := h
    wp_walk using wpAny_loadPart' hl
    have hlt : i < items.size := by omega
    have hi : items[((i : Nat) : Int).toNat]? = some items[i] := by simp [hlt]
    have hd : (List.range items.size).drop i = i :: (List.range items.size).drop (i + 1) := by simp [List.drop_eq_getElem_cons, hlt]
    rw [hd, List.any_cons] at h
    rw [hi]
    refine wpAny_bind (he i hlt _ _ ?_)
    cases hb : e i with
    | true =>
      rw [hb] at h
      wp_walk
      exact h
    | false =>
      rw [hb] at h
      have hc : ((i : Int) + 1) = ((i + 1 : Nat) : Int) := by push_cast; rfl
      wp_walk
      rw [hc]
      exact ⟨plainId_quiet plain_contains_loop _, codeAny_builtin entry_contains_loop (by
        rw [Around.under_plainId plain_contains_loop _]
        exact ih (i + 1) (by omega) A R _ ⟨hl, he, by simpa using h⟩)⟩
theorem kim_contains (l : Addr) (items : Array Value) (n : Nat) (dd : Option Addr) (sl : Array (Option Value)) (x : Value) (e : Nat → Bool) :
    MeetsIn prog w (Builtin.«list.__contains__» ⟨[.ref l, x], []⟩)
      (fun A R s => s.heap.get? l = some { cls := .type "list", dict := dd, data := .seq items n, slots := sl } ∧ (∀ j (h : j < items.size), EqP prog w A.in1 s items[j] x (e j)) ∧ R (.ok (.ret (.bool ((List.range items.size).any e)))) s) := by
  intro A R s h
  obtain ⟨hp, g, d, tk, os⟩ := s; obtain ⟨hl, he, h⟩ := h
  wp_walk using wpAny_loadPart' hl
  exact ⟨plainId_quiet plain_contains_loop _, codeAny_builtin entry_contains_loop (by
    rw [Around.under_plainId plain_contains_loop _]
    exact kim_loop l items n dd sl x e _ 0 rfl A R _ ⟨hl, he, by simpa using h⟩)⟩
theorem kim_in {A : Around} {E : Value → Shared → Prop} {s : Shared} {l : Addr} {items : Array Value} {x : Value} {Q : Value → Shared → Prop} (e : Nat → Bool) (hl : s.heap.IsList l items) (he : ∀ j (h : j < items.size), EqP prog w A.in1 s items[j] x (e j))
    (h : Q (.bool ((List.range items.size).any e)) s) : wpAny (model prog w) A (compareOp .In x (.ref l)) Q E s := by
  obtain ⟨⟨cls, dd, data, sl⟩, ho, hc, n, hd⟩ := id hl
  simp only at hc hd
  subst hc hd
  have hT : s.TypeIs (.ref l) "list" := ⟨_, ho, rfl⟩
  show wpAny _ A (do return .bool (← contains (.ref l) x)) Q E s
  refine wpAny_bind (wpAny_contains_slot hT F.slot_list_contains (wpAny_mono (call_meetsIn F.slot_list_contains hT F.entry_list_contains (F.args_list_contains_2 _ _) (kim_contains l items n dd sl x e) ⟨ho, he, (show wants (fun v s' => ∃ b, v = .bool b ∧ Q (.bool b) s') E _ s from ⟨_, rfl, h⟩)⟩) (fun v s' hv => ?_) fun _ _ e => e))
  obtain ⟨b, rfl, hq⟩ := hv
  exact wpAny_truthy_bool (wpAny_pure hq)
theorem kim_notIn {A : Around} {E : Value → Shared → Prop} {s : Shared} {l : Addr} {items : Array Value} {x : Value} {Q : Value → Shared → Prop} (e : Nat → Bool) (hl : s.heap.IsList l items) (he : ∀ j (h : j < items.size), EqP prog w A.in1 s items[j] x (e j))
    (h : Q (.bool (!(List.range items.size).any e)) s) : wpAny (model prog w) A (compareOp .NotIn x (.ref l)) Q E s := by
  obtain ⟨⟨cls, dd, data, sl⟩, ho, hc, n, hd⟩ := id hl
  simp only at hc hd
  subst hc hd
  have hT : s.TypeIs (.ref l) "list" := ⟨_, ho, rfl⟩
  show wpAny _ A (do return .bool (!(← contains (.ref l) x))) Q E s
  refine wpAny_bind (wpAny_contains_slot hT F.slot_list_contains (wpAny_mono (call_meetsIn F.slot_list_contains hT F.entry_list_contains (F.args_list_contains_2 _ _) (kim_contains l items n dd sl x e) ⟨ho, he, (show wants (fun v s' => ∃ b, v = .bool b ∧ Q (.bool (!b)) s') E _ s from ⟨_, rfl, h⟩)⟩) (fun v s' hv => ?_) fun _ _ e => e))
  obtain ⟨b, rfl, hq⟩ := hv
  exact wpAny_truthy_bool (wpAny_pure hq)
end
end PySem.SeqAt
namespace L2
open PySem PySem.Spec PyProof.Rows
theorem kim_hits {A : Around} {s : Shared} {kvs : List (Key × V)} {vb : List (Key × Value)} (rb : KV kvs vb) {ks : List (Key × V)} {va : List (Key × Value)} (ra : KV ks va) {P : Program} {w : World} :
    (∀ p ∈ ks, ∃ i j : Int, p.2 = .int i ∧ valV kvs p.1 = some (.int j)) → PySem.W.KeqHitsP P w A s vb va (ks.all fun p => decide (valV kvs p.1 = some p.2)) := by
  unfold KV at ra
  induction ra with
  | nil => intro _; exact .nil
  | @cons p q ps qs h t ih =>
    intro hp
    obtain ⟨h1, h2⟩ := h
    obtain ⟨i, j, e1, e2⟩ := hp p List.mem_cons_self
    have rr : RelO (some (V.int j)) (valueAt vb p.1) := by rw [← e2]; exact rb.val p.1
    obtain ⟨y, hy, ry⟩ := rr.some_of
    obtain ⟨k, v⟩ := q
    have h1' : p.1 = k := h1
    rw [h1'] at hy
    rw [List.all_cons]
    have h2' : RelV p.2 v := h2
    rw [e1] at h2'
    obtain ⟨t1, rfl⟩ := h2'
    obtain ⟨t2, rfl⟩ := ry
    have eb : decide (valV kvs p.1 = some p.2) = (i == j) := by
      rw [e1, e2, Bool.eq_iff_iff]
      simp
      exact eq_comm
    rw [eb]
    exact .hit hy ((MeetsSeq.EqGives.int i j t1 t2).at A s).eqP (ih fun p' hm => hp p' (List.mem_cons_of_mem _ hm))
/-- e i: whether the i-th of xs is equal to the dictionary ls -/
def EqMs (H : Hp) (a : Addr) (ls : List (Key × V)) (xs : List V) (e : Nat → Bool) : Prop :=
  ∀ (i : Nat) (v : V), xs[i]? = some v → ∃ (c : Addr) (ks : List (Key × V)), v = .ref c ∧ c ≠ a ∧ H c = some (.dK ks) ∧ ks.length = ls.length ∧ (∀ p ∈ ks, ∃ i j : Int, p.2 = .int i ∧ valV ls p.1 = some (.int j)) ∧ e i = ks.all fun p => decide (valV ls p.1 = some p.2)
section
variable {X : Cx} {pins : List (Addr × Obj)} {σ : St} {H : Hp} {s : Shared}
theorem kim_eqs (I : Inv X pins σ H s) {A : Around} (hu : A.units < cLine) {a : Addr} {ls : List (Key × V)} {xs : List V} {its : List Value} (ea : H a = some (.dK ls)) (hx : Vals xs its) {e : Nat → Bool} (h : EqMs H a ls xs e) :
    ∀ j (hj : j < its.toArray.size), SeqAt.EqP X.prog X.w A s its.toArray[j] (.ref a) (e j) := by
  intro j hj
  have lj : j < its.length := by simpa using hj
  have lx : j < xs.length := by
    have := hx.length
    omega
  obtain ⟨c, ks, ev, ne, ec, len, hp, eb⟩ := h j _ (List.getElem?_eq_getElem lx)
  obtain ⟨u0, eu, rj⟩ := hx.get (List.getElem?_eq_getElem lx)
  rw [List.getElem?_eq_getElem lj] at eu
  cases eu
  rw [ev] at rj
  have rj' : its[j] = Value.ref c := rj
  have e0 : its.toArray[j] = Value.ref c := by simpa using rj'
  rw [e0]
  obtain ⟨_, ya, va, ra, da⟩ := (show ObjOk X.prog X.w H s.heap a (.dK ls) from I.hok a _ ea)
  obtain ⟨_, yc, vc, rc, dc⟩ := (show ObjOk X.prog X.w H s.heap c (.dK ks) from I.hok c _ ec)
  have hl : vc.length = va.length := by rw [← ra.length, ← rc.length]; exact len
  refine SeqAt.eqP_refs ne fun E Q q => PySem.W.rcP_dicts (knd := mixKind X.prog X.w) (r := e j) yc ya dc da hu (fun _ => by rw [eb]; exact kim_hits ra rc hp) E Q ?_
  rw [show (vc.length == va.length) = true by simpa using hl, Bool.true_and]
  exact q
def rInM (K : PySem.W.Frag) (neg : Bool) : R2 := fun x y H Q => ∃ (a L : Addr) (ls : List (Key × V)) (xs : List V) (e : Nat → Bool), x = .ref a ∧ y = .ref L ∧ H a = some (.dK ls) ∧ SqL K H L xs ∧ EqMs H a ls xs e ∧ Q (.bl (((List.range xs.length).any e) != neg)) H
theorem op_notInM (hu : X.A.units + 1 < cLine) : OpR X (compareOp .NotIn) (rInM X.K true) := by
  intro pins s σ H x y v u Q I rx ry h
  obtain ⟨a, L, ls, xs, e, rfl, rfl, ea, hs, he, q⟩ := h
  obtain rfl : v = Value.ref a := rx
  obtain rfl : u = Value.ref L := ry
  obtain ⟨its, rv, ho, hlen⟩ := I.list hs
  obtain ⟨⟨cls, dd, data, sls⟩, n, ho, hc, hdn, hdt⟩ := ho
  have hL : s.heap.IsList L its.toArray := ⟨_, ho, hc, n, hdt⟩
  refine SeqAt.kim_notIn e hL (kim_eqs I (show X.A.in1.units < cLine from hu) ea rv he) ⟨.bl _, H, I, rfl, ?_⟩
  have l := rv.length
  have es : its.toArray.size = xs.length := by simp [l]
  rw [es]
  have z : ∀ b : Bool, (b != true) = !b := by decide
  rw [z] at q
  exact q
theorem op_inM (hu : X.A.units + 1 < cLine) : OpR X (compareOp .In) (rInM X.K false) := by
  intro pins s σ H x y v u Q I rx ry h
  obtain ⟨a, L, ls, xs, e, rfl, rfl, ea, hs, he, q⟩ := h
  obtain rfl : v = Value.ref a := rx
  obtain rfl : u = Value.ref L := ry
  obtain ⟨its, rv, ho, hlen⟩ := I.list hs
  obtain ⟨⟨cls, dd, data, sls⟩, n, ho, hc, hdn, hdt⟩ := ho
  have hL : s.heap.IsList L its.toArray := ⟨_, ho, hc, n, hdt⟩
  refine SeqAt.kim_in e hL (kim_eqs I (show X.A.in1.units < cLine from hu) ea rv he) ⟨.bl _, H, I, rfl, ?_⟩
  have l := rv.length
  have es : its.toArray.size = xs.length := by simp [l]
  rw [es]
  have z : ∀ b : Bool, (b != false) = b := by decide
  rw [z] at q
  exact q
end
end L2
set_option Elab.async false
set_option linter.all false
set_option maxRecDepth 100000
set_option maxHeartbeats 4000000
/-! Comprehensions whose items are new objects: a relation for each turn. -/
namespace L2
open PySem PySem.Spec PyProof.Rows KB
theorem paired_snoc {α β : Type} {F : α → β → Prop} : ∀ {xs : List α} {ys : List β} {x : α} {y : β}, Paired F xs ys → F x y → Paired F (xs ++ [x]) (ys ++ [y])
  | _, _, _, _, .nil, h => .cons h .nil
  | _, _, _, _, .cons r t, h => .cons r (paired_snoc t h)
theorem paired_mono {α β : Type} {F G : α → β → Prop} : ∀ {xs : List α} {ys : List β}, (∀ x y, F x y → G x y) → Paired F xs ys → Paired G xs ys
  | _, _, _, .nil => .nil
  | _, _, k, .cons r t => .cons (k _ _ r) (paired_mono k t)
theorem off_upd_le {H : Hp} {D : Addr} {o : HO} : Same (KB.off H D) (upd H D o) := fun b u e => by
  by_cases n : b = D
  · unfold KB.off at e
    rw [if_pos n] at e
    cases e
  · rw [off_at n] at e
    rw [upd_ne n]
    exact e
/-- turn i gives, if c i, an item y with R i y; what stood stays -/
theorem lc_rel {J : It} {n : Nat} {G : Hp → Prop} {Y : Nat → Hp → V → Hp → Prop} (w : Walk J n G Y) {g : TG} {tt : TT} {te : TE} {vs : List Nat} {σ : St} {H1 : Hp} {D : Addr} {Qd : Hp → Prop} (c : Nat → Bool) (R : Nat → V → Hp → Prop)
    (hR : ∀ i y H H', Same H H' → R i y H → R i y H') (hn : n ≤ 100000) (hD : H1 D = none) (hG : ∀ H, Same H1 H → G H)
    (hs : ∀ i x H H' (Qy : V → Hp → Prop) (Qn : Hp → Prop), i < n → Same H1 H → (∃ acc, H D = some (.lst acc)) → Y i H x H' → (∀ y H4, c i = true → Same H H4 → R i y (KB.off H4 D) → Qy y H4) → (∀ H4, c i = false → Same H H4 → Qn H4) →
      g x (wipe σ vs) H' fun σ2 H2 => wipe σ2 vs = wipe σ vs ∧ tt σ2 H2 fun b H3 => if b = true then te σ2 H3 Qy else Qn H3)
    (hd : ∀ H ys, Same H1 H → H D = some (.lst ys) → Paired (fun i y => R i y (KB.off H D)) ((List.range n).filter c) ys → Qd H) :
    ∃ W : Nat → Nat → Hp → Prop, (∃ m, W 0 m (upd H1 D (.lst []))) ∧ ∀ i m H, W i m H →
      (J.stop i H ∧ Qd H) ∨ (J.go i H ∧ ∃ Nx : Hp → Prop, (∀ H', Nx H' → ∃ m', m' < m ∧ W (i + 1) m' H') ∧ ∀ x H', J.yld i H x H' → g x (wipe σ vs) H' fun σ2 H2 => wipe σ2 vs = wipe σ vs ∧ tt σ2 H2 fun b H3 =>
        if b = true then te σ2 H3 fun y H4 => ∃ acc, H4 D = some (.lst acc) ∧ acc.length < sizeLine ∧ Nx (upd H4 D (.lst (acc ++ [y]))) else Nx H3) := by
  refine lc_it w (fun i H => Same H1 H ∧ ∃ ys, H D = some (.lst ys) ∧ ys.length ≤ i ∧ Paired (fun i y => R i y (KB.off H D)) ((List.range i).filter c) ys) ⟨Same.updf hD, [], upd_same, Nat.le_refl _, .nil⟩ (fun i H _ h => hG H h.1) (fun i x H H' hi hP hy => ?_) (fun H h => ?_)
  · obtain ⟨s1, ys, hD', ly, py⟩ := hP
    refine hs i x H H' _ _ hi s1 ⟨ys, hD'⟩ hy (fun y H4 e s4 r => ?_) (fun H4 e s4 => ?_)
    · have l2 : (100000 : Nat) < sizeLine := by decide
      refine ⟨ys, s4 _ _ hD', by omega, fun b o eb => ?_, ys ++ [y], upd_same, by rw [List.length_append]; exact Nat.succ_le_succ ly, ?_⟩
      · rw [upd_ne (ne_of_none eb hD)]
        exact s4 _ _ (s1 _ _ eb)
      · rw [List.range_succ, List.filter_append, List.filter_cons, if_pos e, List.filter_nil, off_upd]
        exact paired_snoc (paired_mono (fun i y h => hR i y _ _ (off_same D s4) h) py) r
    · refine ⟨s1.trans s4, ys, s4 _ _ hD', by omega, ?_⟩
      rw [List.range_succ, List.filter_append, List.filter_cons, if_neg (by rw [e]; exact Bool.false_ne_true), List.filter_nil, List.append_nil]
      exact paired_mono (fun i y h => hR i y _ _ (off_same D s4) h) py
  · obtain ⟨s1, ys, hD', ly, py⟩ := h
    exact hd H ys s1 hD' py
/-- pairs on the heap, taken for a dictionary's -/
theorem pairs_addr {K : PySem.W.Frag} {H : Hp} : ∀ {is : List Nat} {ys : List V} {f : Nat → Key × V}, Paired (fun i y => ∃ T, y = .ref T ∧ H T = some (.tup [kV (f i).1, (f i).2])) is ys →
    ∃ ps : List Addr, ys = ps.map V.ref ∧ Paired (fun p kv => SqT K H p [kV kv.1, kv.2]) ps (is.map f)
  | _, _, _, .nil => ⟨[], rfl, .nil⟩
  | _, _, _, .cons r t => by
    obtain ⟨T, rfl, h⟩ := r
    obtain ⟨ps, rfl, p⟩ := pairs_addr t
    exact ⟨T :: ps, rfl, .cons (SqT.of h) p⟩
end L2
namespace KB
open PySem PySem.Spec PyProof.Rows L2
def rDictP (K : PySem.W.Frag) : List V → Hp → VK → Prop := fun xs H Q => ∃ (a : Addr) (ps : List Addr) (kvs : List (Key × V)), xs = [.ref a] ∧ SqL K H a (ps.map V.ref) ∧ Paired (fun p kv => SqT K H p [kV kv.1, kv.2]) ps kvs ∧
    ∀ p, H p = none → Q (.ref p) (upd H p (.dK (mergeK [] kvs)))
theorem call_dictPR {X : Cx} (hc : X.calm = true) : CallR X (.type "dict") (rDictP X.K) := call_dictP hc
def rDictD : List V → Hp → VK → Prop := fun xs H Q => ∃ (a : Addr) (kvs : List (Key × V)), xs = [V.ref a] ∧ Rd H a (.dK kvs) ∧ ∀ p, H p = none → Q (.ref p) (upd H p (.dK kvs))
theorem call_dictDR {X : Cx} : CallR X (.type "dict") rDictD := call_dictD
end KB
namespace KB
open PySem PySem.Spec PyProof.Rows L2
def rSortDI : List V → Hp → VK → Prop := fun xs H Q => ∃ (a : Addr) (kvs : List (Key × V)) (ks : List Int), xs = [V.ref a] ∧ Rd H a (.dK kvs) ∧ kvs.map (·.1) = ks.map Sum.inl ∧ ks.length < 64 ∧
    ∀ (ys : List Int) (p : Addr), ys.Perm ks → ys.Pairwise (· ≤ ·) → H p = none → Q (.ref p) (upd H p (.lst (ys.map V.int)))
theorem cr_sortedDI {X : Cx} (hc : X.calm = true) : CallR X (.builtin "sorted") rSortDI := call_sortedDI hc
end KB
set_option Elab.async false
set_option linter.all false
set_option maxRecDepth 100000
set_option maxHeartbeats 4000000
/-! zip of three lists. -/
namespace KB
open PySem PySem.Spec PyProof.Rows L2
abbrev IsTri (h : Heap) (T : Addr) (a b c : Value) : Prop := h.get? T = some { cls := .type "tuple", data := .seq #[a, b, c] }
theorem wpAny_updateSeq_tri {prog : Program} {w : World} {A : Around} {E : Value → Shared → Prop} {s : Shared} {T : Addr} {a b c x : Value} {k : Nat} {Q : Unit → Shared → Prop} (hT : IsTri s.heap T a b c)
    (q : ∀ h' : Heap, h'.get? T = some { cls := .type "tuple", data := .seq (#[a, b, c].setIfInBounds k x) } → Heap.SameBut T s.heap h' → Q () { heap := h', gens := s.gens, drawn := s.drawn, toks := s.toks, os := s.os }) :
    wpAny (model prog w) A (updateSeq T fun y => y.setIfInBounds k x) Q E s := by
  refine wpAny_updateSeq hT rfl ?_ (by rw [sizeLine_eq]; show 3 ≤ _; decide) (by rw [Array.size_setIfInBounds, sizeLine_eq]; show 3 ≤ _; decide)
  refine q _ ?_ (Heap.SameBut.update ..)
  have := Heap.get?_update_self (f := Obj.mapSeq fun y => y.setIfInBounds k x) hT rfl
  rw [this]
  unfold Obj.mapSeq
  simp
structure Zip3Apart (z TI TO i1 i2 i3 l1 l2 l3 : Addr) : Prop where
  nd : [z, TI, TO, i1, i2, i3].Nodup
  l1 : l1 ∉ [z, TI, TO, i1, i2, i3]
  l2 : l2 ∉ [z, TI, TO, i1, i2, i3]
  l3 : l3 ∉ [z, TI, TO, i1, i2, i3]
section
variable {prog : Program} {w : World} {A : Around} {E : Value → Shared → Prop} {s : Shared} {z TI TO i1 i2 i3 l1 l2 l3 : Addr} {k : Nat} {xs ys zs : Array Value} {x y u a b c : Value}
theorem zip3_next_item {Q : Value → Shared → Prop} (ap : Zip3Apart z TI TO i1 i2 i3 l1 l2 l3) (hz : IsZip s.heap z TI TO .none) (hI : IsTri s.heap TI (.ref i1) (.ref i2) (.ref i3)) (hO : IsTri s.heap TO a b c)
    (h1 : s.heap.IsListIter i1 l1 k) (h2 : s.heap.IsListIter i2 l2 k) (h3 : s.heap.IsListIter i3 l3 k) (g1 : s.heap.IsList l1 xs) (g2 : s.heap.IsList l2 ys) (g3 : s.heap.IsList l3 zs) (e1 : xs[k]? = some x) (e2 : ys[k]? = some y) (e3 : zs[k]? = some u)
    (q : ∀ h' : Heap, IsZip h' z TI TO (rawInt s.heap.objs.size) → IsTri h' TO x y u → h'.IsListIter i1 l1 (k + 1) → h'.IsListIter i2 l2 (k + 1) → h'.IsListIter i3 l3 (k + 1) → IsTri h' s.heap.objs.size x y u → h'.objs.size = s.heap.objs.size + 1 →
      (∀ (d : Addr) (o : Obj), d ≠ z → d ≠ TO → d ≠ i1 → d ≠ i2 → d ≠ i3 → s.heap.get? d = some o → h'.get? d = some o) → Q (.ref s.heap.objs.size) { heap := h', gens := s.gens, drawn := s.drawn, toks := s.toks, os := s.os }) :
    wpAny (model prog w) A (Builtin.«zip.__next__» { pos := [.ref z] }) (fun fin s' => ∃ v, fin = Fin.done (Flow.ret v) ∧ Q v s') E s := by
  have nd := ap.nd
  simp only [List.nodup_cons, List.mem_cons, List.not_mem_nil, or_false, not_or, not_false_eq_true, and_true, List.nodup_nil] at nd
  obtain ⟨⟨zTI, zTO, z1, z2, z3⟩, ⟨TITO, TI1, TI2, TI3⟩, ⟨TO1, TO2, TO3⟩, ⟨n12, n13⟩, n23⟩ := nd
  have q1 := ap.l1
  have q2 := ap.l2
  have q3 := ap.l3
  simp only [List.mem_cons, List.not_mem_nil, or_false, not_or] at q1 q2 q3
  obtain ⟨l1z, l1TI, l1TO, l11, l12, l13⟩ := q1
  obtain ⟨l2z, l2TI, l2TO, l21, l22, l23⟩ := q2
  obtain ⟨l3z, l3TI, l3TO, l31, l32, l33⟩ := q3
  unfold Builtin.«zip.__next__»
  refine wpAny_bind ?_
  show wpAny (model prog w) A (pure (Value.ref z, [])) _ E s
  refine wpAny_pure ?_
  dsimp only
  refine wpAny_bind (wpAny_field hz rfl rfl ?_)
  refine wpAny_bind (wpAny_field hz rfl rfl ?_)
  refine wpAny_bind (wpAny_seqItems hI rfl ?_)
  dsimp only
  rw [if_neg (by intro h; cases h)]
  refine wpAny_bind ?_
  unfold Builtin.SmallTypes.ownedTupleIsFree
  refine wpAny_bind (wpAny_field hz rfl rfl ?_)
  refine wpAny_pure ?_
  rw [if_pos rfl]
  refine wpAny_bind (wpAny_rule ?_)
  refine wpAny_bind (wpAny_field hz rfl rfl ?_)
  refine wpAny_bind (wpAny_setField_rec hz (by show 0 < 5; decide) fun H1 z1' b1 => ?_)
  refine wpAny_bind ?_
  show wpAny (model prog w) A (forIn [(Value.ref i1, 0), (Value.ref i2, 1), (Value.ref i3, 2)] _ _) _ E _
  rw [List.forIn_cons]
  refine wpAny_bind ?_
  refine wpAny_bind (wpAny_onRaise ?_)
  show wpAny (model prog w) A (do let v ← Builtin.SmallTypes.nextOf (.ref i1); pure (some v)) _ _ _
  refine wpAny_bind (wpAny_nextOf_list_item (h1.extBut b1.extBut (Ne.symm z1)) (g1.extBut b1.extBut l1z) e1 fun H2 n1 b2 => ?_)
  refine wpAny_pure ?_
  have o2 : IsTri H2 TO a b c := by rw [IsTri, b2.2 _ TO1, b1.2 _ (Ne.symm zTO)]; exact hO
  refine wpAny_bind (wpAny_seqItems o2 rfl ?_)
  refine wpAny_bind (wpAny_updateSeq_tri o2 fun H3 o3 b3 => ?_)
  refine wpAny_bind (wpAny_letGo ?_)
  refine wpAny_pure ?_
  show wpAny (model prog w) A (forIn [(Value.ref i2, 1), (Value.ref i3, 2)] _ _) _ E _
  rw [List.forIn_cons]
  refine wpAny_bind ?_
  refine wpAny_bind (wpAny_onRaise ?_)
  show wpAny (model prog w) A (do let v ← Builtin.SmallTypes.nextOf (.ref i2); pure (some v)) _ _ _
  have h2a := ((h2.extBut b1.extBut (Ne.symm z2)).extBut b2.extBut (Ne.symm n12)).extBut b3.extBut (Ne.symm TO2)
  have g2a := ((g2.extBut b1.extBut l2z).extBut b2.extBut l21).extBut b3.extBut l2TO
  refine wpAny_bind (wpAny_nextOf_list_item h2a g2a e2 fun H4 n2 b4 => ?_)
  refine wpAny_pure ?_
  have o4 : IsTri H4 TO x b c := by rw [IsTri, b4.2 _ TO2]; exact o3
  refine wpAny_bind (wpAny_seqItems o4 rfl ?_)
  refine wpAny_bind (wpAny_updateSeq_tri o4 fun H5 o5 b5 => ?_)
  refine wpAny_bind (wpAny_letGo ?_)
  refine wpAny_pure ?_
  show wpAny (model prog w) A (forIn [(Value.ref i3, 2)] _ _) _ E _
  rw [List.forIn_cons]
  refine wpAny_bind ?_
  refine wpAny_bind (wpAny_onRaise ?_)
  show wpAny (model prog w) A (do let v ← Builtin.SmallTypes.nextOf (.ref i3); pure (some v)) _ _ _
  have h3a := ((((h3.extBut b1.extBut (Ne.symm z3)).extBut b2.extBut (Ne.symm n13)).extBut b3.extBut (Ne.symm TO3)).extBut b4.extBut (Ne.symm n23)).extBut b5.extBut (Ne.symm TO3)
  have g3a := ((((g3.extBut b1.extBut l3z).extBut b2.extBut l31).extBut b3.extBut l3TO).extBut b4.extBut l32).extBut b5.extBut l3TO
  refine wpAny_bind (wpAny_nextOf_list_item h3a g3a e3 fun H6 n3 b6 => ?_)
  refine wpAny_pure ?_
  have o6 : IsTri H6 TO x y c := by rw [IsTri, b6.2 _ TO3]; exact o5
  refine wpAny_bind (wpAny_seqItems o6 rfl ?_)
  refine wpAny_bind (wpAny_updateSeq_tri o6 fun H7 o7 b7 => ?_)
  refine wpAny_bind (wpAny_letGo ?_)
  refine wpAny_pure ?_
  show wpAny (model prog w) A (forIn [] _ _) _ E _
  rw [List.forIn_nil]
  refine wpAny_pure ?_
  refine wpAny_bind (wpAny_seqItems (items := #[x, y, u]) o7 rfl ?_)
  refine wpAny_bind (wpAny_newTuple ?_ (by rw [sizeLine_eq]; show 3 ≤ _; decide))
  have z7 : H7.get? z = some { cls := .type "zip", data := .fields #[.ellipsis, .bool false, .bool false, .ref TI, .ref TO] } := by
    rw [b7.2 _ zTO, b6.2 _ z3, b5.2 _ zTO, b4.2 _ z2, b3.2 _ zTO, b2.2 _ z1]
    exact z1'
  have sz : H7.objs.size = s.heap.objs.size := by rw [b7.1, b6.1, b5.1, b4.1, b3.1, b2.1, b1.1]
  obtain ⟨nt, ent⟩ : ∃ o : Obj, o = { cls := .type "tuple", data := .seq [x, y, u].toArray } := ⟨_, rfl⟩
  have pz : (H7.push nt).get? z = some { cls := .type "zip", data := .fields #[.ellipsis, .bool false, .bool false, .ref TI, .ref TO] } := Heap.get?_push_of_some _ z7
  show wpAny (model prog w) A (do Builtin.SmallTypes.ownedTupleHandOut (.ref z) (.ref H7.objs.size); ret (.ref H7.objs.size)) _ E { heap := H7.push { cls := .type "tuple", data := .seq [x, y, u].toArray }, gens := s.gens, drawn := s.drawn, toks := s.toks, os := s.os }
  rw [← ent]
  refine wpAny_bind ?_
  unfold Builtin.SmallTypes.ownedTupleHandOut
  refine wpAny_bind (wpAny_setField_rec pz (by show 0 < 5; decide) fun H8 z8 b8 => ?_)
  refine wpAny_setField_rec z8 (by show 1 < 5; decide) fun H9 z9 b9 => ?_
  refine wpAny_pure ⟨_, rfl, ?_⟩
  have ps : (H7.push nt).objs.size = H7.objs.size + 1 := Heap.size_push ..
  have old : ∀ (d : Addr) (o : Obj), d ≠ z → H7.get? d = some o → H9.get? d = some o := fun d o n e => by
    rw [b9.2 _ n, b8.2 _ n]
    exact Heap.get?_push_of_some _ e
  have new : H9.get? H7.objs.size = some nt := by
    have n : H7.objs.size ≠ z := fun e => by
      have := Heap.lt_size z7
      rw [← e] at this
      exact Nat.lt_irrefl _ this
    rw [b9.2 _ n, b8.2 _ n]
    exact Heap.get?_push_size _ (by rw [ent]; rfl)
  rw [sz] at new z9 ⊢
  refine q H9 z9 (old _ _ (Ne.symm zTO) o7) ?_ ?_ ?_ (by rw [IsTri, new, ent]) (by rw [b9.1, b8.1, ps, sz]) fun d o d1 d2 d3 d4 d5 e => old _ _ d1 ?_
  · refine Heap.IsListIter.at (((((n1.extBut b3.extBut (Ne.symm TO1)).extBut b4.extBut n12).extBut b5.extBut (Ne.symm TO1)).extBut b6.extBut n13).extBut b7.extBut (Ne.symm TO1)) fun o e => old _ _ (Ne.symm z1) e
  · refine Heap.IsListIter.at (((n2.extBut b5.extBut (Ne.symm TO2)).extBut b6.extBut n23).extBut b7.extBut (Ne.symm TO2)) fun o e => old _ _ (Ne.symm z2) e
  · refine Heap.IsListIter.at (n3.extBut b7.extBut (Ne.symm TO3)) fun o e => old _ _ (Ne.symm z3) e
  · rw [b7.2 _ d2, b6.2 _ d5, b5.2 _ d2, b4.2 _ d4, b3.2 _ d2, b2.2 _ d3, b1.2 _ d1]
    exact e
theorem pyNext_zip3_item {Q : Option Value → Shared → Prop} (ap : Zip3Apart z TI TO i1 i2 i3 l1 l2 l3) (hz : IsZip s.heap z TI TO .none) (hI : IsTri s.heap TI (.ref i1) (.ref i2) (.ref i3)) (hO : IsTri s.heap TO a b c)
    (h1 : s.heap.IsListIter i1 l1 k) (h2 : s.heap.IsListIter i2 l2 k) (h3 : s.heap.IsListIter i3 l3 k) (g1 : s.heap.IsList l1 xs) (g2 : s.heap.IsList l2 ys) (g3 : s.heap.IsList l3 zs) (e1 : xs[k]? = some x) (e2 : ys[k]? = some y) (e3 : zs[k]? = some u)
    (q : ∀ h' : Heap, IsZip h' z TI TO (rawInt s.heap.objs.size) → IsTri h' TO x y u → h'.IsListIter i1 l1 (k + 1) → h'.IsListIter i2 l2 (k + 1) → h'.IsListIter i3 l3 (k + 1) → IsTri h' s.heap.objs.size x y u → h'.objs.size = s.heap.objs.size + 1 →
      (∀ (d : Addr) (o : Obj), d ≠ z → d ≠ TO → d ≠ i1 → d ≠ i2 → d ≠ i3 → s.heap.get? d = some o → h'.get? d = some o) → Q (some (.ref s.heap.objs.size)) { heap := h', gens := s.gens, drawn := s.drawn, toks := s.toks, os := s.os }) :
    wpAny (model prog w) A (pyNext (.ref z)) Q E s := by
  have ty : s.TypeIs (.ref z) "zip" := ⟨_, hz, rfl⟩
  unfold pyNext
  refine wpAny_bind (wpAny_attempt (wpAny_callSpecial?_slot ty F.slot_zip_next (wpAny_call_entry F.slot_zip_next ty F.entry_zip_next ?_ (F.args_zip_next_1 _))))
  refine zip3_next_item ap hz hI hO h1 h2 h3 g1 g2 g3 e1 e2 e3 fun h' a1 a2 a3 a4 a5 a6 a7 a8 => ?_
  exact wpAny_pure (q h' a1 a2 a3 a4 a5 a6 a7 a8)
theorem zip3_next_end {Q : PySem.Fin → Shared → Prop} (hh : A.handled = none) (ap : Zip3Apart z TI TO i1 i2 i3 l1 l2 l3) (hz : IsZip s.heap z TI TO .none) (hI : IsTri s.heap TI (.ref i1) (.ref i2) (.ref i3)) (hO : IsTri s.heap TO a b c)
    (h1 : s.heap.IsListIter i1 l1 k) (g1 : s.heap.IsList l1 xs) (e1 : xs[k]? = none)
    (q : ∀ (h' : Heap) (e : Addr), (∀ (d : Addr) (o : Obj), d ≠ z → d ≠ i1 → s.heap.get? d = some o → h'.get? d = some o) → (∃ o, h'.get? e = some o ∧ o.cls = .type "StopIteration") → E (.ref e) { heap := h', gens := s.gens, drawn := s.drawn, toks := s.toks, os := s.os }) :
    wpAny (model prog w) A (Builtin.«zip.__next__» { pos := [.ref z] }) Q E s := by
  have nd := ap.nd
  simp only [List.nodup_cons, List.mem_cons, List.not_mem_nil, or_false, not_or, not_false_eq_true, and_true, List.nodup_nil] at nd
  obtain ⟨⟨zTI, zTO, z1, z2, z3⟩, ⟨TITO, TI1, TI2, TI3⟩, ⟨TO1, TO2, TO3⟩, ⟨n12, n13⟩, n23⟩ := nd
  have q1 := ap.l1
  simp only [List.mem_cons, List.not_mem_nil, or_false, not_or] at q1
  obtain ⟨l1z, l1TI, l1TO, l11, l12, l13⟩ := q1
  unfold Builtin.«zip.__next__»
  refine wpAny_bind ?_
  show wpAny (model prog w) A (pure (Value.ref z, [])) _ E s
  refine wpAny_pure ?_
  dsimp only
  refine wpAny_bind (wpAny_field hz rfl rfl ?_)
  refine wpAny_bind (wpAny_field hz rfl rfl ?_)
  refine wpAny_bind (wpAny_seqItems hI rfl ?_)
  dsimp only
  rw [if_neg (by intro h; cases h)]
  refine wpAny_bind ?_
  unfold Builtin.SmallTypes.ownedTupleIsFree
  refine wpAny_bind (wpAny_field hz rfl rfl ?_)
  refine wpAny_pure ?_
  rw [if_pos rfl]
  refine wpAny_bind (wpAny_rule ?_)
  refine wpAny_bind (wpAny_field hz rfl rfl ?_)
  refine wpAny_bind (wpAny_setField_rec hz (by show 0 < 5; decide) fun H1 z1' b1 => ?_)
  refine wpAny_bind ?_
  show wpAny (model prog w) A (forIn [(Value.ref i1, 0), (Value.ref i2, 1), (Value.ref i3, 2)] _ _) _ E _
  rw [List.forIn_cons]
  refine wpAny_bind ?_
  refine wpAny_bind (wpAny_onRaise ?_)
  show wpAny (model prog w) A (do let v ← Builtin.SmallTypes.nextOf (.ref i1); pure (some v)) _ _ _
  refine wpAny_bind (wpAny_nextOf_list_end hh (h1.extBut b1.extBut (Ne.symm z1)) (g1.extBut b1.extBut l1z) e1 fun H2 e x2 ⟨o, ho, co⟩ => ?_)
  refine wpAny_setField_rec (x2 _ _ z1 z1') (by show 0 < 5; decide) fun H3 z3' b3 => ?_
  have ez : e ≠ z := fun h => by
    rw [h, x2 _ _ z1 z1'] at ho
    cases ho
    exact absurd (Value.type.inj co) (by decide)
  refine q H3 e (fun d o' d1 d2 e' => ?_) ⟨o, by rw [b3.2 _ ez]; exact ho, co⟩
  rw [b3.2 _ d1]
  exact x2 _ _ d2 (by rw [b1.2 _ d1]; exact e')
theorem pyNext_zip3_end {Q : Option Value → Shared → Prop} (hh : A.handled = none) (ap : Zip3Apart z TI TO i1 i2 i3 l1 l2 l3) (hz : IsZip s.heap z TI TO .none) (hI : IsTri s.heap TI (.ref i1) (.ref i2) (.ref i3)) (hO : IsTri s.heap TO a b c)
    (h1 : s.heap.IsListIter i1 l1 k) (g1 : s.heap.IsList l1 xs) (e1 : xs[k]? = none)
    (q : ∀ (h' : Heap), (∀ (d : Addr) (o : Obj), d ≠ z → d ≠ i1 → s.heap.get? d = some o → h'.get? d = some o) → Q none { heap := h', gens := s.gens, drawn := s.drawn, toks := s.toks, os := s.os }) :
    wpAny (model prog w) A (pyNext (.ref z)) Q E s := by
  have ty : s.TypeIs (.ref z) "zip" := ⟨_, hz, rfl⟩
  unfold pyNext
  refine wpAny_bind (wpAny_attempt (wpAny_callSpecial?_slot ty F.slot_zip_next (wpAny_call_entry F.slot_zip_next ty F.entry_zip_next ?_ (F.args_zip_next_1 _))))
  refine zip3_next_end hh ap hz hI hO h1 g1 e1 fun h' e k1 ⟨o, ho, co⟩ => ?_
  refine wpAny_bind (wpAny_isInstance (T := "StopIteration") ⟨o, ho, co⟩ isSubtype_stop ?_)
  rw [if_pos rfl]
  exact wpAny_pure (q h' k1)
/-- the walk over three lists -/
def Itz3 (K : PySem.W.Frag) (a b c : Addr) : It where
  go := fun i H => ∃ xs ys zs x y z, SqL K H a xs ∧ SqL K H b ys ∧ SqL K H c zs ∧ xs[i]? = some x ∧ ys[i]? = some y ∧ zs[i]? = some z
  yld := fun i H v H' => ∃ T x y z, v = V.ref T ∧ H T = none ∧ H' = upd H T (HO.tup [x, y, z]) ∧ (∀ xs, SqL K H a xs → xs[i]? = some x) ∧ (∀ ys, SqL K H b ys → ys[i]? = some y) ∧ ∀ zs, SqL K H c zs → zs[i]? = some z
  stop := fun i H => ∃ xs, SqL K H a xs ∧ xs.length ≤ i
theorem turn_zip3 {P : Program} {w : World} {K : PySem.W.Frag} {elts : List Expr} {kk : Nat} {tpos : Pos} {a b c z TI TO i1 i2 i3 : Addr} (D : Zip3Apart z TI TO i1 i2 i3 a b c) :
    Turn P w K (.Tuple elts kk tpos) (Itz3 K a b c) [z, TI, TO, i1, i2, i3] z fun i h => IsZip h z TI TO .none ∧ IsTri h TI (.ref i1) (.ref i2) (.ref i3) ∧ (∃ x y u, IsTri h TO x y u) ∧ h.IsListIter i1 a i ∧ h.IsListIter i2 b i ∧ h.IsListIter i3 c i where
  mem := List.mem_cons_self ..
  obj := by
    rintro i h ⟨hz, hI, ⟨x, y, u, hO⟩, ⟨o1, e1, _, d1⟩, ⟨o2, e2, _, d2⟩, ⟨o3, e3, _, d3⟩⟩ d hd
    simp only [List.mem_cons, List.not_mem_nil, or_false] at hd
    rcases hd with rfl | rfl | rfl | rfl | rfl | rfl
    · exact ⟨_, hz, fun v q => nomatch q⟩
    · exact ⟨_, hI, fun v q => nomatch q⟩
    · exact ⟨_, hO, fun v q => nomatch q⟩
    · exact ⟨_, e1, fun v q => by rw [d1] at q; cases q⟩
    · exact ⟨_, e2, fun v q => by rw [d2] at q; cases q⟩
    · exact ⟨_, e3, fun v q => by rw [d3] at q; cases q⟩
  keep := by
    rintro i h h' ⟨hz, hI, ⟨x, y, u, hO⟩, h1, h2, h3⟩ k
    exact ⟨k _ (by simp) _ hz, k _ (by simp) _ hI, ⟨x, y, u, k _ (by simp) _ hO⟩, h1.at (k _ (by simp)), h2.at (k _ (by simp)), h3.at (k _ (by simp))⟩
  item := by
    intro X hP hw hK hc i pins s σ H E I hf st hg
    subst hP hw hK
    obtain ⟨hz, hI, ⟨x0, y0, u0, hO⟩, h1, h2, h3⟩ := st
    obtain ⟨xs, ys, zs, x, y, u, la, lb, lc, ex, ey, eu⟩ := hg
    obtain ⟨is1, v1, p1, _⟩ := I.list la
    obtain ⟨is2, v2, p2, _⟩ := I.list lb
    obtain ⟨is3, v3, p3, _⟩ := I.list lc
    obtain ⟨x', gx, rx⟩ := v1.get ex
    obtain ⟨y', gy, ry⟩ := v2.get ey
    obtain ⟨u', gu, ru⟩ := v3.get eu
    refine pyNext_zip3_item D hz hI hO h1 h2 h3 p1.isList p2.isList p3.isList (by simpa using gx) (by simpa using gy) (by simpa using gu) fun h' a1 a2 a3 a4 a5 a6 a7 a8 => ?_
    refine ⟨_, rfl, ?_⟩
    refine wpAny_letOwnedTupleGo_zip a1 fun h2' b1 b2 => ?_
    have nd := D.nd
    simp only [List.nodup_cons, List.mem_cons, List.not_mem_nil, or_false, not_or, not_false_eq_true, and_true, List.nodup_nil] at nd
    obtain ⟨⟨zTI, zTO, z1, z2, z3⟩, ⟨TITO, TI1, TI2, TI3⟩, ⟨TO1, TO2, TO3⟩, ⟨n12, n13⟩, n23⟩ := nd
    have nz : s.heap.objs.size ≠ z := fun e => by
      have := Heap.lt_size hz
      rw [← e] at this
      exact Nat.lt_irrefl _ this
    have hT : H s.heap.objs.size = none := HOk.fresh I.hok (Nat.le_refl _)
    have nT : ∀ {d : Addr} {o : Obj}, s.heap.get? d = some o → d ≠ s.heap.objs.size := fun {d o} e h => by
      have := Heap.lt_size e
      rw [h] at this
      exact Nat.lt_irrefl _ this
    refine ⟨.ref s.heap.objs.size, upd H s.heap.objs.size (.tup [x, y, u]), ?_, rfl, ⟨_, x, y, u, rfl, hT, rfl, fun xs' q => ?_, fun ys' q => ?_, fun zs' q => ?_⟩, ⟨b1, ?_, ⟨x', y', u', ?_⟩, ?_, ?_, ?_⟩, fun d hd => ?_⟩
    · refine I.turnedNew (ch := [z, TO, i1, i2, i3]) (fun d o nd' e => ?_) (fun d hd => hf d (by simp only [List.mem_cons, List.not_mem_nil, or_false] at hd ⊢; rcases hd with h | h | h | h | h <;> simp [h])) (Nat.le_refl _) ?_
      · simp only [List.mem_cons, List.not_mem_nil, or_false, not_or] at nd'
        rw [b2.2 _ nd'.1]
        exact a8 d o nd'.1 nd'.2.1 nd'.2.2.1 nd'.2.2.2.1 nd'.2.2.2.2 e
      · have hh : h2'.get? s.heap.objs.size = some { cls := .type "tuple", data := .seq #[x', y', u'] } := by rw [b2.2 _ nz]; exact a6
        simp only [ObjOk]
        exact ⟨by rw [sizeLine_eq]; show 3 ≤ _; decide, [x', y', u'], .cons rx (.cons ry (.cons ru .nil)), _, hh, rfl, 0, rfl⟩
    · rw [I.list_inj q la]; exact ex
    · rw [I.list_inj q lb]; exact ey
    · rw [I.list_inj q lc]; exact eu
    · rw [IsTri, b2.2 _ (Ne.symm zTI)]; exact a8 _ _ (Ne.symm zTI) TITO TI1 TI2 TI3 hI
    · rw [IsTri, b2.2 _ (Ne.symm zTO)]; exact a2
    · exact a3.extBut b2.extBut (Ne.symm z1)
    · exact a4.extBut b2.extBut (Ne.symm z2)
    · exact a5.extBut b2.extBut (Ne.symm z3)
    · rw [upd_ne]
      · exact (hf d hd).1
      · simp only [List.mem_cons, List.not_mem_nil, or_false] at hd
        obtain ⟨o1, e1, _⟩ := h1
        obtain ⟨o2, e2, _⟩ := h2
        obtain ⟨o3, e3, _⟩ := h3
        rcases hd with rfl | rfl | rfl | rfl | rfl | rfl
        · exact nT hz
        · exact nT hI
        · exact nT hO
        · exact nT e1
        · exact nT e2
        · exact nT e3
  done := by
    intro X hP hw hK hc i pins s σ H E I hf st hg
    subst hP hw hK
    obtain ⟨hz, hI, ⟨x0, y0, u0, hO⟩, h1, h2, h3⟩ := st
    obtain ⟨xs, la, le⟩ := hg
    obtain ⟨is1, v1, p1, _⟩ := I.list la
    have l1 := v1.length
    refine pyNext_zip3_end (I.ok.hd hc) D hz hI hO h1 p1.isList (by simp; omega) fun h' k1 => ⟨rfl, ?_⟩
    refine I.turnedL (ch := [z, i1]) (fun d o nd' e => ?_) fun d hd => hf d (by simp only [List.mem_cons, List.not_mem_nil, or_false] at hd ⊢; rcases hd with h | h <;> simp [h])
    simp only [List.mem_cons, List.not_mem_nil, or_false, not_or] at nd'
    exact k1 d o nd'.1 nd'.2 e
  self := fun A i s Q E st h => wpAny_pyIter_zip st.1 h
end
end KB
set_option Elab.async false
set_option linter.all false
set_option maxRecDepth 100000
set_option maxHeartbeats 4000000
namespace KB
open PySem PySem.Spec PyProof.Rows L2
theorem typeCall_zip_3 (a b c : Value) : checkTypeCall "zip" { pos := [a, b, c] } = pure () := rfl
theorem newCall_zip_3 (a b c : Value) : checkBuiltinCall "zip.__new__" { pos := [.type "zip", a, b, c] } = pure () := by kernel_rfl
theorem args_oi4 (a b c d : Value) : argsOk "object.__init__" { pos := [a, b, c, d] } := by unfold argsOk; kernel_rfl
theorem pushes {h : Heap} {o1 o2 o3 o4 o5 o6 : Obj} (f1 : o1.isFreed = false) (f2 : o2.isFreed = false) (f3 : o3.isFreed = false) (f4 : o4.isFreed = false) (f5 : o5.isFreed = false) (f6 : o6.isFreed = false) :
    ∀ H : Heap, H = (((((h.push o1).push o2).push o3).push o4).push o5).push o6 → H.get? h.objs.size = some o1 ∧ H.get? (h.objs.size + 1) = some o2 ∧ H.get? (h.objs.size + 2) = some o3 ∧ H.get? (h.objs.size + 3) = some o4 ∧ H.get? (h.objs.size + 4) = some o5 ∧ H.get? (h.objs.size + 5) = some o6 ∧ H.objs.size = h.objs.size + 6 ∧ ∀ (d : Addr) (o : Obj), h.get? d = some o → H.get? d = some o := by
  rintro H rfl
  have k : ∀ {g : Heap} {u : Obj} {d : Addr} {o : Obj}, g.get? d = some o → (g.push u).get? d = some o := fun e => Heap.get?_push_of_some _ e
  have z1 : (h.push o1).objs.size = h.objs.size + 1 := Heap.size_push ..
  have z2 : ((h.push o1).push o2).objs.size = h.objs.size + 2 := by rw [Heap.size_push, z1]
  have z3 : (((h.push o1).push o2).push o3).objs.size = h.objs.size + 3 := by rw [Heap.size_push, z2]
  have z4 : ((((h.push o1).push o2).push o3).push o4).objs.size = h.objs.size + 4 := by rw [Heap.size_push, z3]
  have z5 : (((((h.push o1).push o2).push o3).push o4).push o5).objs.size = h.objs.size + 5 := by rw [Heap.size_push, z4]
  refine ⟨k (k (k (k (k (Heap.get?_push_size _ f1))))), ?_, ?_, ?_, ?_, ?_, by rw [Heap.size_push, z5], fun d o e => k (k (k (k (k (k e)))))⟩
  · rw [← z1]; exact k (k (k (k (Heap.get?_push_size _ f2))))
  · rw [← z2]; exact k (k (k (Heap.get?_push_size _ f3)))
  · rw [← z3]; exact k (k (Heap.get?_push_size _ f4))
  · rw [← z4]; exact k (Heap.get?_push_size _ f5)
  · rw [← z5]; exact Heap.get?_push_size _ f6
section
variable {prog : Program} {w : World} {A : Around} {E : Value → Shared → Prop} {s : Shared} {l1 l2 l3 : Addr} {xs ys zs : Array Value}
theorem zip3_new {Q : PySem.Fin → Shared → Prop} (g1 : s.heap.IsList l1 xs) (g2 : s.heap.IsList l2 ys) (g3 : s.heap.IsList l3 zs)
    (q : ∀ h' : Heap, IsZip h' (s.heap.objs.size + 5) (s.heap.objs.size + 3) (s.heap.objs.size + 4) .none → IsTri h' (s.heap.objs.size + 3) (.ref s.heap.objs.size) (.ref (s.heap.objs.size + 1)) (.ref (s.heap.objs.size + 2)) → IsTri h' (s.heap.objs.size + 4) .none .none .none →
      h'.IsListIter s.heap.objs.size l1 0 → h'.IsListIter (s.heap.objs.size + 1) l2 0 → h'.IsListIter (s.heap.objs.size + 2) l3 0 → h'.objs.size = s.heap.objs.size + 6 → (∀ (d : Addr) (o : Obj), s.heap.get? d = some o → h'.get? d = some o) →
      Q (.done (.ret (.ref (s.heap.objs.size + 5)))) { heap := h', gens := s.gens, drawn := s.drawn, toks := s.toks, os := s.os }) :
    wpAny (model prog w) A (Builtin.«zip.__new__» { pos := [.type "zip", .ref l1, .ref l2, .ref l3] }) Q E s := by
  unfold Builtin.«zip.__new__»
  refine wpAny_bind ?_
  unfold Builtin.SmallTypes.newClass
  dsimp only
  refine wpAny_bind ?_
  show wpAny (model prog w) A (pure true) _ E s
  refine wpAny_pure ?_
  rw [if_neg (by decide)]
  refine wpAny_bind (wpAny_of_eq sub_zip ?_)
  rw [if_neg (by decide)]
  refine wpAny_pure ?_
  dsimp only
  rw [if_neg (by decide)]
  refine wpAny_bind ?_
  unfold Builtin.SmallTypes.iterAll
  dsimp only
  refine wpAny_bind ?_
  rw [List.forIn_cons]
  refine wpAny_bind (wpAny_bind (wpAny_holding (wpAny_pyIter_list g1 (wpAny_pure ?_))))
  dsimp only
  rw [List.forIn_cons]
  refine wpAny_bind (wpAny_bind (wpAny_holding (wpAny_pyIter_list (g2.push _) (wpAny_pure ?_))))
  dsimp only
  rw [List.forIn_cons]
  refine wpAny_bind (wpAny_bind (wpAny_holding (wpAny_pyIter_list ((g3.push _).push _) (wpAny_pure ?_))))
  dsimp only
  rw [List.forIn_nil]
  refine wpAny_pure (wpAny_pure ?_)
  refine wpAny_bind (wpAny_newTuple ?_ (by rw [sizeLine_eq]; show 3 ≤ _; decide))
  refine wpAny_bind (wpAny_newTuple ?_ (by rw [sizeLine_eq]; show 3 ≤ _; decide))
  refine wpAny_bind ?_
  unfold Builtin.SmallTypes.newRecord newObj
  dsimp only
  rw [if_neg (by intro h; rw [sizeLine_eq] at h; revert h; show ¬ 5 > _; decide)]
  unfold newObjAsIs
  refine wpAny_bind (wpAny_bind (wpAny_alloc' (wpAny_pure (wpAny_pure ?_))))
  simp only [Heap.size_push]
  obtain ⟨a1, a2, a3, a4, a5, a6, a7, a8⟩ := pushes (h := s.heap) (o1 := { cls := .type "list_iterator", data := .fields #[.ref l1, .int 0 0] }) (o2 := { cls := .type "list_iterator", data := .fields #[.ref l2, .int 0 0] }) (o3 := { cls := .type "list_iterator", data := .fields #[.ref l3, .int 0 0] })
    (o4 := { cls := .type "tuple", data := .seq #[.ref s.heap.objs.size, .ref (s.heap.objs.size + 1), .ref (s.heap.objs.size + 2)] }) (o5 := { cls := .type "tuple", data := .seq #[.none, .none, .none] })
    (o6 := { cls := .type "zip", data := .fields #[.none, .bool false, .bool false, .ref (s.heap.objs.size + 3), .ref (s.heap.objs.size + 4)] }) rfl rfl rfl rfl rfl rfl _ rfl
  refine wpAny_pure ?_
  exact q _ a6 a4 a5 ⟨_, a1, rfl, rfl⟩ ⟨_, a2, rfl, rfl⟩ ⟨_, a3, rfl, rfl⟩ a7 a8
theorem call_zip_3 {Q : Value → Shared → Prop} (g1 : s.heap.IsList l1 xs) (g2 : s.heap.IsList l2 ys) (g3 : s.heap.IsList l3 zs)
    (q : ∀ h' : Heap, IsZip h' (s.heap.objs.size + 5) (s.heap.objs.size + 3) (s.heap.objs.size + 4) .none → IsTri h' (s.heap.objs.size + 3) (.ref s.heap.objs.size) (.ref (s.heap.objs.size + 1)) (.ref (s.heap.objs.size + 2)) → IsTri h' (s.heap.objs.size + 4) .none .none .none →
      h'.IsListIter s.heap.objs.size l1 0 → h'.IsListIter (s.heap.objs.size + 1) l2 0 → h'.IsListIter (s.heap.objs.size + 2) l3 0 → h'.objs.size = s.heap.objs.size + 6 → (∀ (d : Addr) (o : Obj), s.heap.get? d = some o → h'.get? d = some o) →
      Q (.ref (s.heap.objs.size + 5)) { heap := h', gens := s.gens, drawn := s.drawn, toks := s.toks, os := s.os }) :
    wpAny (model prog w) A (call (.type "zip") [.ref l1, .ref l2, .ref l3]) Q E s := by
  refine callType_new (S := fun A R s => s.heap.IsList l1 xs ∧ s.heap.IsList l2 ys ∧ s.heap.IsList l3 zs ∧ (∀ h' : Heap, IsZip h' (s.heap.objs.size + 5) (s.heap.objs.size + 3) (s.heap.objs.size + 4) .none → IsTri h' (s.heap.objs.size + 3) (.ref s.heap.objs.size) (.ref (s.heap.objs.size + 1)) (.ref (s.heap.objs.size + 2)) → IsTri h' (s.heap.objs.size + 4) .none .none .none →
      h'.IsListIter s.heap.objs.size l1 0 → h'.IsListIter (s.heap.objs.size + 1) l2 0 → h'.IsListIter (s.heap.objs.size + 2) l3 0 → h'.objs.size = s.heap.objs.size + 6 → (∀ (d : Addr) (o : Obj), s.heap.get? d = some o → h'.get? d = some o) →
      R (.ok (.ret (.ref (s.heap.objs.size + 5)))) { heap := h', gens := s.gens, drawn := s.drawn, toks := s.toks, os := s.os })) F.called_zip (by decide) (typeCall_zip_3 _ _ _) (newCall_zip_3 _ _ _) (fun _ => args_oi4 _ _ _ _) F.entry_zip_new ?_ ⟨g1, g2, g3, fun h' b1 b2 b3 b4 b5 b6 b7 b8 => ?_⟩
  · rintro prog w A R s ⟨g1, g2, g3, q⟩
    exact zip3_new g1 g2 g3 fun h' b1 b2 b3 b4 b5 b6 b7 b8 => q h' b1 b2 b3 b4 b5 b6 b7 b8
  · exact ⟨⟨_, b1, rfl⟩, q h' b1 b2 b3 b4 b5 b6 b7 b8⟩
end
def iZip3 (K : PySem.W.Frag) (ta : TA) : TI := fun σ H R => ta σ H fun vs H1 => ∃ a b c xs ys zs, vs = [.ref a, .ref b, .ref c] ∧ SqL K H1 a xs ∧ SqL K H1 b ys ∧ SqL K H1 c zs ∧ R (Itz3 K a b c) H1
theorem apart3 (I l1 l2 l3 : Nat) (h1 : l1 < I) (h2 : l2 < I) (h3 : l3 < I) : Zip3Apart (I + 5) (I + 3) (I + 4) I (I + 1) (I + 2) l1 l2 l3 := by
  have N : ∀ {x y : Nat}, (x = y → False) → ¬ @Eq Addr x y := fun h e => h e
  refine ⟨?_, ?_, ?_, ?_⟩
  all_goals
    simp only [List.nodup_cons, List.mem_cons, List.not_mem_nil, or_false, not_or, not_false_eq_true, and_true, List.nodup_nil]
    repeat' apply And.intro
  all_goals
    refine N fun h => ?_
    omega
theorem pi_zip3 {X : Cx} {e e2 e3 : Expr} {ta : TA} {p pos tpos : Pos} {elts : List Expr} {kk : Nat} (hg : Gl X (Str.ofString "zip")) (hm : X.mg (Str.ofString "zip") = none) (ha : PA X [e, e2, e3] ta)
    (h1 : starEach [e, e2, e3] X.env = (false, eval e X.env) :: starEach [e2, e3] X.env := by rfl) (h2 : ((backTo pos (starEach [e2, e3] X.env)).any fun x => x.1) = false := by rfl) :
    PI X (.Tuple elts kk tpos) (.Call (.Name (Str.ofString "zip") p) [e, e2, e3] [] pos) (iZip3 X.K ta) := by
  refine ⟨fun pins s σ H R I h => ?_⟩
  refine Call_ (ld_blt I hg hm boot_zip (callWith_type1 ?_ h1 h2))
  refine thn (ha.run pos pins s σ H _ I h) fun us s1 ⟨vs, H1, I1, rv, a, b, c, xs, ys, zs, e, la, lb, lc, r⟩ => ?_
  subst e
  cases rv with
  | cons r1 rv =>
  cases rv with
  | cons r2 rv =>
  cases rv with
  | cons r3 rv =>
  cases rv
  cases r1
  cases r2
  cases r3
  obtain ⟨is1, v1, p1, _⟩ := I1.list la
  obtain ⟨is2, v2, p2, _⟩ := I1.list lb
  obtain ⟨is3, v3, p3, _⟩ := I1.list lc
  refine call_zip_3 p1.isList p2.isList p3.isList fun h' b1 b2 b3 b4 b5 b6 b7 b8 => ?_
  refine wpAny_pyIter_zip b1 ?_
  have J := I1.kept (h' := h') (t' := s1.toks) b8
  refine ⟨_, _, _, _, H1, rfl, J, turn_zip3 (apart3 _ _ _ _ p1.lt p2.lt p3.lt), ⟨b1, b2, ⟨_, _, _, b3⟩, b4, b5, b6⟩, fun d hd => ?_, r⟩
  simp only [List.mem_cons, List.not_mem_nil, or_false] at hd
  have ge : s1.heap.objs.size ≤ d := by
    rcases hd with h | h | h | h | h | h
    all_goals
      rw [h]
      first | exact Nat.le_add_right _ _ | exact Nat.le_refl _
  exact I1.fpOk ge (HOk.fresh I1.hok ge)
/-- a turn's triple -/
def YTri (xs ys zs : Nat → Option V) (i : Nat) (H : Hp) (v : V) (H' : Hp) : Prop := ∃ T x y z, v = .ref T ∧ H T = none ∧ H' = upd H T (.tup [x, y, z]) ∧ xs i = some x ∧ ys i = some y ∧ zs i = some z
theorem walk_zip3 {K : PySem.W.Frag} {a b c : Addr} {xs ys zs : List V} {n : Nat} (h1 : n = xs.length) (h2 : n ≤ ys.length) (h3 : n ≤ zs.length) :
    Walk (Itz3 K a b c) n (fun H => SqL K H a xs ∧ SqL K H b ys ∧ SqL K H c zs) (YTri (fun i => xs[i]?) (fun i => ys[i]?) (fun i => zs[i]?)) where
  goes := fun i H hi q => ⟨xs, ys, zs, xs[i]'(by omega), ys[i]'(by omega), zs[i]'(by omega), q.1, q.2.1, q.2.2, List.getElem?_eq_getElem _, List.getElem?_eq_getElem _, List.getElem?_eq_getElem _⟩
  stops := fun H q => ⟨xs, q.1, by omega⟩
  yields := fun i H v H' hi q ⟨T, x, y, z, e1, e2, e3, k1, k2, k3⟩ => ⟨T, x, y, z, e1, e2, e3, k1 _ q.1, k2 _ q.2.1, k3 _ q.2.2⟩
end KB
set_option Elab.async false
set_option linter.all false
set_option maxRecDepth 100000
set_option maxHeartbeats 4000000
/-! list(zip(a, b, c)). -/
namespace KB
open PySem PySem.Spec PyProof.Rows L2
theorem wpAny_alive {M : Model} {A : Around} {E : Value → Shared → Prop} {s : Shared} {a : Addr} {Q : Option Obj → Shared → Prop} (q : Q (s.heap.get? a) s) : wpAny M A (loadIfAlive a) Q E s := fun Γ p hΓ => by
  unfold loadIfAlive
  rw [Sem.wp_loadIfAlive]
  exact (wpAny_pure (M := M) (A := A) (E := E) q) Γ p hΓ
abbrev IsZipF (h : Heap) (z TI TO : Addr) (f0 f1 : Value) : Prop := h.get? z = some { cls := .type "zip", data := .fields #[f0, f1, .bool false, .ref TI, .ref TO] }
section
variable {prog : Program} {w : World} {A : Around} {E : Value → Shared → Prop} {s : Shared} {z TI TO i1 i2 i3 l1 l2 l3 : Addr} {k : Nat} {xs ys zs : Array Value} {x y u a b c : Value}
theorem free_held {Q : Bool → Shared → Prop} {T : Addr} {oT : Obj} {f1 : Value} (hf : f1 = .bool true ∨ f1 = .bool false) (hz : IsZipF s.heap z TI TO (rawInt T) f1) (hT : s.heap.get? T = some oT)
    (q : ∀ h' : Heap, IsZipF h' z TI TO (rawInt T) (.bool true) → Heap.SameBut z s.heap h' → Q false { heap := h', gens := s.gens, drawn := s.drawn, toks := s.toks, os := s.os }) :
    wpAny (model prog w) A (Builtin.SmallTypes.ownedTupleIsFree (.ref z)) Q E s := by
  unfold Builtin.SmallTypes.ownedTupleIsFree
  refine wpAny_bind (wpAny_field hz rfl rfl ?_)
  refine wpAny_bind (wpAny_alive ?_)
  rw [show s.heap.get? ((T : Int).toNat) = some oT from hT, if_neg (by intro h; cases h)]
  refine wpAny_bind (wpAny_field hz rfl rfl ?_)
  rcases hf with rfl | rfl
  · rw [if_neg (by show ¬ (Value.bool true != Value.bool true) = true; decide)]
    exact wpAny_pure (q s.heap hz ⟨rfl, fun _ _ => rfl⟩)
  · rw [if_pos (by show (Value.bool false != Value.bool true) = true; decide)]
    exact wpAny_bind (wpAny_setField_rec hz (by show 1 < 5; decide) fun h' a1 a2 => wpAny_pure (q h' a1 a2))
theorem zip3_next_held {Q : Value → Shared → Prop} {T : Addr} {oT : Obj} {f1 : Value} (hf : f1 = .bool true ∨ f1 = .bool false) (ap : Zip3Apart z TI TO i1 i2 i3 l1 l2 l3) (hz : IsZipF s.heap z TI TO (rawInt T) f1) (hT : s.heap.get? T = some oT) (hI : IsTri s.heap TI (.ref i1) (.ref i2) (.ref i3))
    (h1 : s.heap.IsListIter i1 l1 k) (h2 : s.heap.IsListIter i2 l2 k) (h3 : s.heap.IsListIter i3 l3 k) (g1 : s.heap.IsList l1 xs) (g2 : s.heap.IsList l2 ys) (g3 : s.heap.IsList l3 zs) (e1 : xs[k]? = some x) (e2 : ys[k]? = some y) (e3 : zs[k]? = some u)
    (q : ∀ h' : Heap, IsZipF h' z TI TO (rawInt T) (.bool true) → h'.IsListIter i1 l1 (k + 1) → h'.IsListIter i2 l2 (k + 1) → h'.IsListIter i3 l3 (k + 1) → IsTri h' s.heap.objs.size x y u → h'.objs.size = s.heap.objs.size + 1 →
      (∀ (d : Addr) (o : Obj), d ≠ z → d ≠ i1 → d ≠ i2 → d ≠ i3 → s.heap.get? d = some o → h'.get? d = some o) → Q (.ref s.heap.objs.size) { heap := h', gens := s.gens, drawn := s.drawn, toks := s.toks, os := s.os }) :
    wpAny (model prog w) A (Builtin.«zip.__next__» { pos := [.ref z] }) (fun fin s' => ∃ v, fin = Fin.done (Flow.ret v) ∧ Q v s') E s := by
  have nd := ap.nd
  simp only [List.nodup_cons, List.mem_cons, List.not_mem_nil, or_false, not_or, not_false_eq_true, and_true, List.nodup_nil] at nd
  obtain ⟨⟨zTI, zTO, z1, z2, z3⟩, ⟨TITO, TI1, TI2, TI3⟩, ⟨TO1, TO2, TO3⟩, ⟨n12, n13⟩, n23⟩ := nd
  have q1 := ap.l1
  have q2 := ap.l2
  have q3 := ap.l3
  simp only [List.mem_cons, List.not_mem_nil, or_false, not_or] at q1 q2 q3
  obtain ⟨l1z, l1TI, l1TO, l11, l12, l13⟩ := q1
  obtain ⟨l2z, l2TI, l2TO, l21, l22, l23⟩ := q2
  obtain ⟨l3z, l3TI, l3TO, l31, l32, l33⟩ := q3
  unfold Builtin.«zip.__next__»
  refine wpAny_bind ?_
  show wpAny (model prog w) A (pure (Value.ref z, [])) _ E s
  refine wpAny_pure ?_
  dsimp only
  refine wpAny_bind (wpAny_field hz rfl rfl ?_)
  refine wpAny_bind (wpAny_field hz rfl rfl ?_)
  refine wpAny_bind (wpAny_seqItems hI rfl ?_)
  dsimp only
  rw [if_neg (by intro h; cases h)]
  refine wpAny_bind (free_held hf hz hT fun H1 z1' b1 => ?_)
  rw [if_neg (by decide)]
  refine wpAny_bind ?_
  show wpAny (model prog w) A (forIn [Value.ref i1, Value.ref i2, Value.ref i3].toArray _ _) _ E _
  rw [List.forIn_toArray, List.forIn_cons]
  refine wpAny_bind ?_
  refine wpAny_bind (wpAny_holding ?_)
  show wpAny (model prog w) A (do let v ← Builtin.SmallTypes.nextOf (.ref i1); pure (some v)) _ _ _
  refine wpAny_bind (wpAny_nextOf_list_item (h1.extBut b1.extBut (Ne.symm z1)) (g1.extBut b1.extBut l1z) e1 fun H2 n1 b2 => ?_)
  refine wpAny_pure ?_
  refine wpAny_pure ?_
  show wpAny (model prog w) A (forIn [Value.ref i2, Value.ref i3] _ _) _ E _
  rw [List.forIn_cons]
  refine wpAny_bind ?_
  refine wpAny_bind (wpAny_holding ?_)
  show wpAny (model prog w) A (do let v ← Builtin.SmallTypes.nextOf (.ref i2); pure (some v)) _ _ _
  refine wpAny_bind (wpAny_nextOf_list_item ((h2.extBut b1.extBut (Ne.symm z2)).extBut b2.extBut (Ne.symm n12)) ((g2.extBut b1.extBut l2z).extBut b2.extBut l21) e2 fun H3 n2 b3 => ?_)
  refine wpAny_pure ?_
  refine wpAny_pure ?_
  show wpAny (model prog w) A (forIn [Value.ref i3] _ _) _ E _
  rw [List.forIn_cons]
  refine wpAny_bind ?_
  refine wpAny_bind (wpAny_holding ?_)
  show wpAny (model prog w) A (do let v ← Builtin.SmallTypes.nextOf (.ref i3); pure (some v)) _ _ _
  refine wpAny_bind (wpAny_nextOf_list_item (((h3.extBut b1.extBut (Ne.symm z3)).extBut b2.extBut (Ne.symm n13)).extBut b3.extBut (Ne.symm n23)) (((g3.extBut b1.extBut l3z).extBut b2.extBut l31).extBut b3.extBut l32) e3 fun H4 n3 b4 => ?_)
  refine wpAny_pure ?_
  refine wpAny_pure ?_
  show wpAny (model prog w) A (forIn [] _ _) _ E _
  rw [List.forIn_nil]
  refine wpAny_pure ?_
  refine wpAny_bind (wpAny_newTuple ?_ (by rw [sizeLine_eq]; show 3 ≤ _; decide))
  have sz : H4.objs.size = s.heap.objs.size := by rw [b4.1, b3.1, b2.1, b1.1]
  obtain ⟨nt, ent⟩ : ∃ o : Obj, o = { cls := .type "tuple", data := .seq [x, y, u].toArray } := ⟨_, rfl⟩
  show wpAny (model prog w) A (ret (.ref H4.objs.size)) _ E { heap := H4.push { cls := .type "tuple", data := .seq [x, y, u].toArray }, gens := s.gens, drawn := s.drawn, toks := s.toks, os := s.os }
  rw [← ent]
  refine wpAny_pure ⟨_, rfl, ?_⟩
  have old : ∀ (d : Addr) (o : Obj), H4.get? d = some o → (H4.push nt).get? d = some o := fun d o e => Heap.get?_push_of_some _ e
  have new : (H4.push nt).get? H4.objs.size = some nt := Heap.get?_push_size _ (by rw [ent]; rfl)
  have z4 : IsZipF H4 z TI TO (rawInt T) (.bool true) := by
    rw [IsZipF, b4.2 _ z3, b3.2 _ z2, b2.2 _ z1]
    exact z1'
  rw [sz] at new ⊢
  refine q _ (old _ _ z4) ?_ ?_ ?_ (by rw [IsTri, new, ent]) (by rw [Heap.size_push, sz]) fun d o d1 d2 d3 d4 e => old _ _ ?_
  · exact ((n1.extBut b3.extBut n12).extBut b4.extBut n13).at fun o e => old _ _ e
  · exact (n2.extBut b4.extBut n23).at fun o e => old _ _ e
  · exact n3.at fun o e => old _ _ e
  · rw [b4.2 _ d4, b3.2 _ d3, b2.2 _ d2, b1.2 _ d1]
    exact e
theorem zip3_end_held {Q : PySem.Fin → Shared → Prop} {T : Addr} {oT : Obj} {f1 : Value} (hf : f1 = .bool true ∨ f1 = .bool false) (hh : A.handled = none) (ap : Zip3Apart z TI TO i1 i2 i3 l1 l2 l3) (hz : IsZipF s.heap z TI TO (rawInt T) f1) (hT : s.heap.get? T = some oT) (hI : IsTri s.heap TI (.ref i1) (.ref i2) (.ref i3))
    (h1 : s.heap.IsListIter i1 l1 k) (g1 : s.heap.IsList l1 xs) (e1 : xs[k]? = none)
    (q : ∀ (h' : Heap) (e : Addr), (∀ (d : Addr) (o : Obj), d ≠ z → d ≠ i1 → s.heap.get? d = some o → h'.get? d = some o) → (∃ o, h'.get? e = some o ∧ o.cls = .type "StopIteration") → E (.ref e) { heap := h', gens := s.gens, drawn := s.drawn, toks := s.toks, os := s.os }) :
    wpAny (model prog w) A (Builtin.«zip.__next__» { pos := [.ref z] }) Q E s := by
  have nd := ap.nd
  simp only [List.nodup_cons, List.mem_cons, List.not_mem_nil, or_false, not_or, not_false_eq_true, and_true, List.nodup_nil] at nd
  obtain ⟨⟨zTI, zTO, z1, z2, z3⟩, ⟨TITO, TI1, TI2, TI3⟩, ⟨TO1, TO2, TO3⟩, ⟨n12, n13⟩, n23⟩ := nd
  have q1 := ap.l1
  simp only [List.mem_cons, List.not_mem_nil, or_false, not_or] at q1
  obtain ⟨l1z, l1TI, l1TO, l11, l12, l13⟩ := q1
  unfold Builtin.«zip.__next__»
  refine wpAny_bind ?_
  show wpAny (model prog w) A (pure (Value.ref z, [])) _ E s
  refine wpAny_pure ?_
  dsimp only
  refine wpAny_bind (wpAny_field hz rfl rfl ?_)
  refine wpAny_bind (wpAny_field hz rfl rfl ?_)
  refine wpAny_bind (wpAny_seqItems hI rfl ?_)
  dsimp only
  rw [if_neg (by intro h; cases h)]
  refine wpAny_bind (free_held hf hz hT fun H1 z1' b1 => ?_)
  rw [if_neg (by decide)]
  refine wpAny_bind ?_
  show wpAny (model prog w) A (forIn [Value.ref i1, Value.ref i2, Value.ref i3].toArray _ _) _ E _
  rw [List.forIn_toArray, List.forIn_cons]
  refine wpAny_bind ?_
  refine wpAny_bind (wpAny_holding ?_)
  show wpAny (model prog w) A (do let v ← Builtin.SmallTypes.nextOf (.ref i1); pure (some v)) _ _ _
  refine wpAny_bind (wpAny_nextOf_list_end hh (h1.extBut b1.extBut (Ne.symm z1)) (g1.extBut b1.extBut l1z) e1 fun H2 e x2 ho => ?_)
  exact q H2 e (fun d o d1 d2 e' => x2 _ _ d2 (by rw [b1.2 _ d1]; exact e')) ho
end
end KB
set_option Elab.async false
set_option linter.all false
set_option maxRecDepth 100000
set_option maxHeartbeats 4000000
namespace KB
open PySem PySem.Spec PyProof.Rows L2
section
variable {prog : Program} {w : World} {A : Around} {E : Value → Shared → Prop} {s : Shared} {z TI TO i1 i2 i3 l1 l2 l3 : Addr} {k : Nat} {xs ys zs : Array Value} {x y u a b c : Value}
theorem pyNext_held_item {Q : Option Value → Shared → Prop} {T : Addr} {oT : Obj} {f1 : Value} (hf : f1 = .bool true ∨ f1 = .bool false) (ap : Zip3Apart z TI TO i1 i2 i3 l1 l2 l3) (hz : IsZipF s.heap z TI TO (rawInt T) f1) (hT : s.heap.get? T = some oT) (hI : IsTri s.heap TI (.ref i1) (.ref i2) (.ref i3))
    (h1 : s.heap.IsListIter i1 l1 k) (h2 : s.heap.IsListIter i2 l2 k) (h3 : s.heap.IsListIter i3 l3 k) (g1 : s.heap.IsList l1 xs) (g2 : s.heap.IsList l2 ys) (g3 : s.heap.IsList l3 zs) (e1 : xs[k]? = some x) (e2 : ys[k]? = some y) (e3 : zs[k]? = some u)
    (q : ∀ h' : Heap, IsZipF h' z TI TO (rawInt T) (.bool true) → h'.IsListIter i1 l1 (k + 1) → h'.IsListIter i2 l2 (k + 1) → h'.IsListIter i3 l3 (k + 1) → IsTri h' s.heap.objs.size x y u → h'.objs.size = s.heap.objs.size + 1 →
      (∀ (d : Addr) (o : Obj), d ≠ z → d ≠ i1 → d ≠ i2 → d ≠ i3 → s.heap.get? d = some o → h'.get? d = some o) → Q (some (.ref s.heap.objs.size)) { heap := h', gens := s.gens, drawn := s.drawn, toks := s.toks, os := s.os }) :
    wpAny (model prog w) A (pyNext (.ref z)) Q E s := by
  have ty : s.TypeIs (.ref z) "zip" := ⟨_, hz, rfl⟩
  unfold pyNext
  refine wpAny_bind (wpAny_attempt (wpAny_callSpecial?_slot ty F.slot_zip_next (wpAny_call_entry F.slot_zip_next ty F.entry_zip_next ?_ (F.args_zip_next_1 _))))
  refine zip3_next_held hf ap hz hT hI h1 h2 h3 g1 g2 g3 e1 e2 e3 fun h' a1 a3 a4 a5 a6 a7 a8 => ?_
  exact wpAny_pure (q h' a1 a3 a4 a5 a6 a7 a8)
theorem pyNext_held_end {Q : Option Value → Shared → Prop} {T : Addr} {oT : Obj} {f1 : Value} (hf : f1 = .bool true ∨ f1 = .bool false) (hh : A.handled = none) (ap : Zip3Apart z TI TO i1 i2 i3 l1 l2 l3) (hz : IsZipF s.heap z TI TO (rawInt T) f1) (hT : s.heap.get? T = some oT) (hI : IsTri s.heap TI (.ref i1) (.ref i2) (.ref i3))
    (h1 : s.heap.IsListIter i1 l1 k) (g1 : s.heap.IsList l1 xs) (e1 : xs[k]? = none)
    (q : ∀ (h' : Heap), (∀ (d : Addr) (o : Obj), d ≠ z → d ≠ i1 → s.heap.get? d = some o → h'.get? d = some o) → Q none { heap := h', gens := s.gens, drawn := s.drawn, toks := s.toks, os := s.os }) :
    wpAny (model prog w) A (pyNext (.ref z)) Q E s := by
  have ty : s.TypeIs (.ref z) "zip" := ⟨_, hz, rfl⟩
  unfold pyNext
  refine wpAny_bind (wpAny_attempt (wpAny_callSpecial?_slot ty F.slot_zip_next (wpAny_call_entry F.slot_zip_next ty F.entry_zip_next ?_ (F.args_zip_next_1 _))))
  refine zip3_end_held hf hh ap hz hT hI h1 g1 e1 fun h' e k1 ⟨o, ho, co⟩ => ?_
  refine wpAny_bind (wpAny_isInstance (T := "StopIteration") ⟨o, ho, co⟩ isSubtype_stop ?_)
  rw [if_pos rfl]
  exact wpAny_pure (q h' k1)
end
/-- where the walk stands that fills the list S; N: the first new tuple -/
structure ZSt (z TI TO i1 i2 i3 l1 l2 l3 S : Addr) (N : Nat) (xs ys zs : Array Value) (h0 : Heap) (i : Nat) (h : Heap) (acc : Array Value) (c : Nat) : Prop where
  zp : ∃ f0 f1, IsZipF h z TI TO f0 f1 ∧ ((i = 0 ∧ f0 = .none ∧ f1 = .bool false) ∨ (0 < i ∧ f0 = rawInt (N : Nat) ∧ (f1 = .bool true ∨ f1 = .bool false) ∧ ∃ o, h.get? N = some o))
  ti : IsTri h TI (.ref i1) (.ref i2) (.ref i3)
  to : ∃ a b c, IsTri h TO a b c
  h1 : h.IsListIter i1 l1 i
  h2 : h.IsListIter i2 l2 i
  h3 : h.IsListIter i3 l3 i
  g1 : h.IsList l1 xs
  g2 : h.IsList l2 ys
  g3 : h.IsList l3 zs
  ls : h.get? S = some { cls := .type "list", data := .seq acc c }
  sz : h.objs.size = N + i
  ac : acc.size = i
  at_ : ∀ j, j < i → acc[j]? = some (.ref (N + j)) ∧ ∃ x y u, xs[j]? = some x ∧ ys[j]? = some y ∧ zs[j]? = some u ∧ IsTri h (N + j) x y u
  fr : ∀ (d : Addr) (o : Obj), d ≠ z → d ≠ TO → d ≠ i1 → d ≠ i2 → d ≠ i3 → d ≠ S → h0.get? d = some o → h.get? d = some o
structure ZAp (z TI TO i1 i2 i3 l1 l2 l3 S : Addr) (N : Nat) : Prop where
  z3 : Zip3Apart z TI TO i1 i2 i3 l1 l2 l3
  s : S ∉ [z, TI, TO, i1, i2, i3, l1, l2, l3]
  lt : ∀ d ∈ [z, TI, TO, i1, i2, i3, l1, l2, l3, S], d < N
/-- S grows by one -/
theorem ZSt.push {z TI TO i1 i2 i3 l1 l2 l3 S : Addr} {N : Nat} {xs ys zs : Array Value} {h0 h h' : Heap} {i : Nat} {acc : Array Value} {c c' : Nat} {f0 f1 x y u : Value} (ap : ZAp z TI TO i1 i2 i3 l1 l2 l3 S N)
    (zp : IsZipF h z TI TO f0 f1) (zq : f0 = rawInt (N : Nat) ∧ (f1 = .bool true ∨ f1 = .bool false)) (ti : IsTri h TI (.ref i1) (.ref i2) (.ref i3)) (to : ∃ a b c, IsTri h TO a b c) (h1 : h.IsListIter i1 l1 (i + 1)) (h2 : h.IsListIter i2 l2 (i + 1)) (h3 : h.IsListIter i3 l3 (i + 1))
    (g1 : h.IsList l1 xs) (g2 : h.IsList l2 ys) (g3 : h.IsList l3 zs) (sz : h.objs.size = N + i + 1) (ac : acc.size = i) (e1 : xs[i]? = some x) (e2 : ys[i]? = some y) (e3 : zs[i]? = some u) (nw : IsTri h (N + i) x y u)
    (at_ : ∀ j, j < i → acc[j]? = some (.ref (N + j)) ∧ ∃ x y u, xs[j]? = some x ∧ ys[j]? = some y ∧ zs[j]? = some u ∧ IsTri h (N + j) x y u)
    (fr : ∀ (d : Addr) (o : Obj), d ≠ z → d ≠ TO → d ≠ i1 → d ≠ i2 → d ≠ i3 → d ≠ S → h0.get? d = some o → h.get? d = some o)
    (up : h'.get? S = some { cls := .type "list", data := .seq (acc.push (.ref (N + i))) c' }) (sb : Heap.SameBut S h h') :
    ZSt z TI TO i1 i2 i3 l1 l2 l3 S N xs ys zs h0 (i + 1) h' (acc.push (.ref (N + i))) c' := by
  have ns := ap.s
  simp only [List.mem_cons, List.not_mem_nil, or_false, not_or] at ns
  obtain ⟨sz1, sTI, sTO, s1, s2, s3, sl1, sl2, sl3⟩ := ns
  have sN : S < N := ap.lt S (by simp)
  have nS : ∀ j : Nat, (N + j : Nat) ≠ S := fun j e => by
    exact absurd sN (Nat.not_lt.mpr (by rw [← e]; exact Nat.le_add_right _ _))
  have tr : ∀ j, j < i + 1 → ∀ {o : Obj}, h.get? (N + j) = some o → h'.get? (N + j) = some o := fun j _ o e => by rw [sb.2 _ (nS j)]; exact e
  obtain ⟨a, b, d, to⟩ := to
  refine ⟨⟨f0, f1, by rw [IsZipF, sb.2 _ (Ne.symm sz1)]; exact zp, .inr ⟨Nat.succ_pos _, zq.1, zq.2, ?_⟩⟩, by rw [IsTri, sb.2 _ (Ne.symm sTI)]; exact ti, ⟨a, b, d, by rw [IsTri, sb.2 _ (Ne.symm sTO)]; exact to⟩, h1.extBut sb.extBut (Ne.symm s1), h2.extBut sb.extBut (Ne.symm s2), h3.extBut sb.extBut (Ne.symm s3),
    g1.extBut sb.extBut (Ne.symm sl1), g2.extBut sb.extBut (Ne.symm sl2), g3.extBut sb.extBut (Ne.symm sl3), up, by rw [sb.1, sz]; rfl, by rw [Array.size_push, ac], fun j hj => ?_, fun d o n1 n2 n3 n4 n5 n6 e => by rw [sb.2 _ n6]; exact fr d o n1 n2 n3 n4 n5 n6 e⟩
  · rcases Nat.eq_zero_or_pos i with hi | hi
    · subst hi
      exact ⟨_, tr 0 (by omega) nw⟩
    · obtain ⟨_, x', y', u', _, _, _, t⟩ := at_ 0 hi
      exact ⟨_, tr 0 (by omega) t⟩
  · rcases Nat.lt_or_ge j i with hj' | hj'
    · obtain ⟨a1, x', y', u', b1, b2, b3, t⟩ := at_ j hj'
      refine ⟨?_, x', y', u', b1, b2, b3, tr j hj t⟩
      rw [Array.getElem?_push_lt (by omega)]
      rw [Array.getElem?_eq_getElem (by omega)] at a1
      exact a1
    · obtain rfl : j = i := by omega
      refine ⟨?_, x, y, u, e1, e2, e3, tr j hj nw⟩
      rw [← ac]
      exact Array.getElem?_push_size
end KB
set_option Elab.async false
set_option linter.all false
set_option maxRecDepth 100000
set_option maxHeartbeats 4000000
namespace KB
open PySem PySem.Spec PyProof.Rows L2
section
variable {prog : Program} {w : World} {z TI TO i1 i2 i3 l1 l2 l3 S : Addr} {N : Nat} {xs ys zs : Array Value} {h0 : Heap} {n : Nat}
/-- what the list holds at the end -/
structure ZEnd (z TO i1 i2 i3 S : Addr) (N : Nat) (xs ys zs : Array Value) (h0 : Heap) (n : Nat) (h : Heap) (acc : Array Value) (c : Nat) : Prop where
  ls : h.get? S = some { cls := .type "list", data := .seq acc c }
  ac : acc.size = n
  at_ : ∀ j, j < n → acc[j]? = some (.ref (N + j)) ∧ ∃ x y u, xs[j]? = some x ∧ ys[j]? = some y ∧ zs[j]? = some u ∧ IsTri h (N + j) x y u
  fr : ∀ (d : Addr) (o : Obj), d ≠ z → d ≠ TO → d ≠ i1 → d ≠ i2 → d ≠ i3 → d ≠ S → h0.get? d = some o → h.get? d = some o
theorem zip3_loop {A : Around} {R : Result → Shared → Prop} {res : Value} (ap : ZAp z TI TO i1 i2 i3 l1 l2 l3 S N) (hn : xs.size = n) (hy : n ≤ ys.size) (hz : n ≤ zs.size) (n1 : 1 ≤ n) (hl : n ≤ 100000) (hh : A.in1.handled = none) {gg : Array GenState} {dd : Drawn} {tt : Nat} {oo : OsState}
    (q : ∀ (h' : Heap) (acc' : Array Value) (c' : Nat), ZEnd z TO i1 i2 i3 S N xs ys zs h0 n h' acc' c' → R (.ok (.ret res)) { heap := h', gens := gg, drawn := dd, toks := tt, os := oo }) :
    ∀ (k i : Nat) (h : Heap) (acc : Array Value) (c : Nat), n - i = k → i ≤ n → ZSt z TI TO i1 i2 i3 l1 l2 l3 S N xs ys zs h0 i h acc c →
      codeAny (model prog w) A (.builtin "list.extend.loop" { pos := [.ref S, .ref z, res] }) R { heap := h, gens := gg, drawn := dd, toks := tt, os := oo } := by
  have ns := ap.s
  simp only [List.mem_cons, List.not_mem_nil, or_false, not_or] at ns
  obtain ⟨sz1, sTI, sTO, s1, s2, s3, sl1, sl2, sl3⟩ := ns
  have big : ∀ {d : Addr}, d ∈ [z, TI, TO, i1, i2, i3, l1, l2, l3, S] → ∀ j : Nat, (N + j : Nat) ≠ d := fun {d} hd j e =>
    absurd (ap.lt d hd) (Nat.not_lt.mpr (by rw [← e]; exact Nat.le_add_right _ _))
  intro k
  induction k with
  | zero =>
    intro i h acc c hk hi st
    obtain rfl : i = n := by omega
    obtain ⟨f0, f1, zp, zq⟩ := st.zp
    refine codeAny_builtin F.entry_extend_loop ?_
    rw [Around.under_plainId F.plain_extend_loop]
    refine wpAny_bind ?_
    rcases zq with ⟨h0', _⟩ | ⟨_, rfl, hf, oT, hT⟩
    · omega
    obtain ⟨a, b, d, to⟩ := st.to
    refine pyNext_held_end hf hh ap.z3 zp hT st.ti st.h1 st.g1 (by rw [Array.getElem?_eq_none (by omega)]) fun h' k1 => ?_
    refine wpAny_pure (q h' acc c ⟨k1 _ _ sz1 s1 st.ls, st.ac, fun j hj => ?_, fun d o a1 a2 a3 a4 a5 a6 e => k1 _ _ a1 a3 (st.fr d o a1 a2 a3 a4 a5 a6 e)⟩)
    obtain ⟨b1, x, y, u, b2, b3, b4, b5⟩ := st.at_ j hj
    exact ⟨b1, x, y, u, b2, b3, b4, k1 _ _ (big (by simp) j) (big (by simp) j) b5⟩
  | succ k ih =>
    intro i h acc c hk hi st
    have hin : i < n := by omega
    obtain ⟨f0, f1, zp, zq⟩ := st.zp
    obtain ⟨a, b, d, to⟩ := st.to
    have e1 : xs[i]? = some (xs[i]'(by omega)) := Array.getElem?_eq_getElem _
    have e2 : ys[i]? = some (ys[i]'(by omega)) := Array.getElem?_eq_getElem _
    have e3 : zs[i]? = some (zs[i]'(by omega)) := Array.getElem?_eq_getElem _
    have nd := ap.z3.nd
    simp only [List.nodup_cons, List.mem_cons, List.not_mem_nil, or_false, not_or, not_false_eq_true, and_true, List.nodup_nil] at nd
    obtain ⟨⟨zTI, zTO, z1, z2, z3⟩, ⟨TITO, TI1, TI2, TI3⟩, ⟨TO1, TO2, TO3⟩, ⟨n12, n13⟩, n23⟩ := nd
    have q1 := ap.z3.l1
    have q2 := ap.z3.l2
    have q3 := ap.z3.l3
    simp only [List.mem_cons, List.not_mem_nil, or_false, not_or] at q1 q2 q3
    obtain ⟨l1z, l1TI, l1TO, l11, l12, l13⟩ := q1
    obtain ⟨l2z, l2TI, l2TO, l21, l22, l23⟩ := q2
    obtain ⟨l3z, l3TI, l3TO, l31, l32, l33⟩ := q3
    refine codeAny_builtin F.entry_extend_loop ?_
    rw [Around.under_plainId F.plain_extend_loop]
    refine wpAny_bind ?_
    -- what is alike behind both ways
    have rest : ∀ (h' : Heap) (g0 g1 : Value), IsZipF h' z TI TO g0 g1 → g0 = rawInt (N : Nat) → (g1 = .bool true ∨ g1 = .bool false) → (∃ a b c, IsTri h' TO a b c) → h'.IsListIter i1 l1 (i + 1) → h'.IsListIter i2 l2 (i + 1) → h'.IsListIter i3 l3 (i + 1) →
        IsTri h' (N + i) (xs[i]'(by omega)) (ys[i]'(by omega)) (zs[i]'(by omega)) → h'.objs.size = N + i + 1 → (∀ (d : Addr) (o : Obj), d ≠ z → d ≠ TO → d ≠ i1 → d ≠ i2 → d ≠ i3 → h.get? d = some o → h'.get? d = some o) →
        wpAny (model prog w) A.in1 (do
            Builtin.List.listUpdate (.ref S) fun y => y.push (.ref (N + i))
            again (Code.builtin "list.extend.loop" { pos := [.ref S, .ref z, res] })) (fun fin s' => match fin with
          | .done f => R (.ok f) s'
          | .again c' => c'.quiet = true ∧ codeAny (model prog w) A c' R s') (fun e s' => R (.error e) s') { heap := h', gens := gg, drawn := dd, toks := tt, os := oo } := by
      intro h' g0 g1 a1 a2 a3 a4 a5 a6 a7 a8 a9 a10
      have ls' := a10 _ _ sz1 sTO s1 s2 s3 st.ls
      refine wpAny_bind ?_
      refine wpAny_updateSeq ls' rfl ?_ (by rw [sizeLine_eq, st.ac]; omega) (by rw [sizeLine_eq, Array.size_push, st.ac]; omega)
      refine wpAny_pure ⟨plainId_quiet F.plain_extend_loop _, ?_⟩
      refine ih (i + 1) _ _ _ (by omega) (by omega) (ZSt.push (c := 0) ap a1 ⟨a2, a3⟩ (a10 _ _ (Ne.symm zTI) TITO TI1 TI2 TI3 st.ti) a4 a5 a6 a7 ?_ ?_ ?_ a9 st.ac e1 e2 e3 a8 (fun j hj => ?_) (fun d o b1 b2 b3 b4 b5 b6 e => a10 _ _ b1 b2 b3 b4 b5 (st.fr d o b1 b2 b3 b4 b5 b6 e)) (Heap.get?_update_self _ ls' rfl) (Heap.SameBut.update ..))
      · obtain ⟨o, w1, w2⟩ := st.g1
        exact ⟨o, a10 _ _ l1z l1TO l11 l12 l13 w1, w2⟩
      · obtain ⟨o, w1, w2⟩ := st.g2
        exact ⟨o, a10 _ _ l2z l2TO l21 l22 l23 w1, w2⟩
      · obtain ⟨o, w1, w2⟩ := st.g3
        exact ⟨o, a10 _ _ l3z l3TO l31 l32 l33 w1, w2⟩
      · obtain ⟨b1, x, y, u, b2, b3, b4, b5⟩ := st.at_ j hj
        exact ⟨b1, x, y, u, b2, b3, b4, a10 _ _ (big (by simp) j) (big (by simp) j) (big (by simp) j) (big (by simp) j) (big (by simp) j) b5⟩
    rcases zq with ⟨rfl, rfl, rfl⟩ | ⟨_, rfl, hf, oT, hT⟩
    · refine pyNext_zip3_item ap.z3 zp st.ti to st.h1 st.h2 st.h3 st.g1 st.g2 st.g3 e1 e2 e3 fun h' a1 a2 a3 a4 a5 a6 a7 a8 => ?_
      have es : h.objs.size = N + 0 := st.sz
      simp only [es] at a1 a6 a7 ⊢
      exact rest h' _ _ a1 rfl (.inr rfl) ⟨_, _, _, a2⟩ a3 a4 a5 a6 a7 a8
    · refine pyNext_held_item hf ap.z3 zp hT st.ti st.h1 st.h2 st.h3 st.g1 st.g2 st.g3 e1 e2 e3 fun h' a1 a3 a4 a5 a6 a7 a8 => ?_
      have es : h.objs.size = N + i := st.sz
      simp only [es] at a6 a7 ⊢
      exact rest h' _ _ a1 rfl (.inl rfl) ⟨_, _, _, a8 _ _ (Ne.symm zTO) TO1 TO2 TO3 to⟩ a3 a4 a5 a6 a7 fun d o b1 b2 b3 b4 b5 e => a8 _ _ b1 b3 b4 b5 e
end
end KB
set_option Elab.async false
set_option linter.all false
set_option maxRecDepth 100000
set_option maxHeartbeats 4000000
namespace KB
open PySem PySem.Spec PyProof.Rows L2
theorem zip_no_len : typeLookup (.type "zip") (Str.ofString "__len__") = pure none := by
  rw [typeLookup_type, builtinLookup_eq_fast]
  kernel_rfl
theorem zip_no_hint : typeLookup (.type "zip") (Str.ofString "__length_hint__") = pure none := by
  rw [typeLookup_type, builtinLookup_eq_fast]
  kernel_rfl
section
variable {prog : Program} {w : World} {A : Around} {z TI TO i1 i2 i3 l1 l2 l3 S : Addr} {N : Nat} {xs ys zs : Array Value} {h0 : Heap} {n : Nat}
theorem ZSt.touch {h h' : Heap} {acc acc' : Array Value} {c c' : Nat} (ap : ZAp z TI TO i1 i2 i3 l1 l2 l3 S N) (st : ZSt z TI TO i1 i2 i3 l1 l2 l3 S N xs ys zs h0 0 h acc c) (e : acc' = #[]) (up : h'.get? S = some { cls := .type "list", data := .seq acc' c' }) (sb : Heap.SameBut S h h') :
    ZSt z TI TO i1 i2 i3 l1 l2 l3 S N xs ys zs h0 0 h' acc' c' := by
  have ns := ap.s
  simp only [List.mem_cons, List.not_mem_nil, or_false, not_or] at ns
  obtain ⟨sz1, sTI, sTO, s1, s2, s3, sl1, sl2, sl3⟩ := ns
  obtain ⟨f0, f1, zp, zq⟩ := st.zp
  obtain ⟨a, b, d, to⟩ := st.to
  rcases zq with zq | ⟨z0, _⟩
  · exact ⟨⟨f0, f1, by rw [IsZipF, sb.2 _ (Ne.symm sz1)]; exact zp, .inl zq⟩, by rw [IsTri, sb.2 _ (Ne.symm sTI)]; exact st.ti, ⟨a, b, d, by rw [IsTri, sb.2 _ (Ne.symm sTO)]; exact to⟩, st.h1.extBut sb.extBut (Ne.symm s1), st.h2.extBut sb.extBut (Ne.symm s2), st.h3.extBut sb.extBut (Ne.symm s3),
      st.g1.extBut sb.extBut (Ne.symm sl1), st.g2.extBut sb.extBut (Ne.symm sl2), st.g3.extBut sb.extBut (Ne.symm sl3), up, by rw [sb.1]; exact st.sz, by rw [e]; rfl, fun j hj => by omega, fun d o n1 n2 n3 n4 n5 n6 e => by rw [sb.2 _ n6]; exact st.fr d o n1 n2 n3 n4 n5 n6 e⟩
  · omega
theorem zip3_extend {R : Result → Shared → Prop} {res : Value} (ap : ZAp z TI TO i1 i2 i3 l1 l2 l3 S N) (hn : xs.size = n) (hy : n ≤ ys.size) (hz : n ≤ zs.size) (n1 : 1 ≤ n) (hl : n ≤ 100000) (hh : A.in1.handled = none) {gg : Array GenState} {dd : Drawn} {tt : Nat} {oo : OsState}
    (q : ∀ (h' : Heap) (acc' : Array Value) (c' : Nat), ZEnd z TO i1 i2 i3 S N xs ys zs h0 n h' acc' c' → R (.ok (.ret res)) { heap := h', gens := gg, drawn := dd, toks := tt, os := oo })
    {h : Heap} {c : Nat} (st : ZSt z TI TO i1 i2 i3 l1 l2 l3 S N xs ys zs h0 0 h #[] c) :
    wpAny (model prog w) A.in1 (Builtin.List.listExtendWith (.ref S) (.ref z) res) (fun fin s' => match fin with
      | .done f => R (.ok f) s'
      | .again c' => c'.quiet = true ∧ codeAny (model prog w) A c' R s') (fun e s' => R (.error e) s') { heap := h, gens := gg, drawn := dd, toks := tt, os := oo } := by
  have ns := ap.s
  simp only [List.mem_cons, List.not_mem_nil, or_false, not_or] at ns
  obtain ⟨sz1, _⟩ := ns
  obtain ⟨f0, f1, zp, zq⟩ := st.zp
  rcases zq with ⟨_, rfl, rfl⟩ | ⟨z0, _⟩
  rotate_left
  · omega
  have ty : Shared.TypeIs { heap := h, gens := gg, drawn := dd, toks := tt, os := oo } (.ref z) "zip" := ⟨_, zp, rfl⟩
  unfold Builtin.List.listExtendWith
  refine wpAny_bind (wpAny_typeOf ty ?_)
  rw [if_neg (by
    unfold Builtin.List.listSameRef
    have : ¬ S = z := sz1
    simp [this])]
  refine wpAny_bind (wpAny_pyIter_zip zp ?_)
  refine wpAny_bind (wpAny_holding ?_)
  unfold Builtin.List.listLengthHint
  refine wpAny_bind (wpAny_specialOf ty zip_no_len ?_)
  refine wpAny_bind (wpAny_specialOf ty zip_no_hint ?_)
  refine wpAny_pure ?_
  rw [if_pos (by rfl)]
  refine wpAny_bind (wpAny_rule ?_)
  refine wpAny_bind ?_
  unfold Builtin.List.listTouch
  refine wpAny_bind ?_
  refine wpAny_updateSeq st.ls rfl ?_ (by rw [sizeLine_eq]; show 0 ≤ _; decide) (by rw [sizeLine_eq]; show 1 ≤ _; decide)
  have u1 := Heap.get?_update_self (Obj.mapSeq fun x => x.push Value.none) st.ls rfl
  refine wpAny_updateSeq u1 rfl ?_ (by rw [sizeLine_eq]; show 1 ≤ _; decide) (by rw [sizeLine_eq]; show 0 ≤ _; decide)
  have u2 := Heap.get?_update_self (Obj.mapSeq fun x => x.pop) u1 rfl
  refine wpAny_pure ⟨plainId_quiet F.plain_extend_loop _, ?_⟩
  refine zip3_loop ap hn hy hz n1 hl hh q n 0 _ _ _ (by omega) (by omega) (ZSt.touch ap st rfl u2 ⟨?_, fun b hb => ?_⟩)
  · rw [(Heap.SameBut.update ..).1, (Heap.SameBut.update ..).1]
  · rw [(Heap.SameBut.update ..).2 _ hb, (Heap.SameBut.update ..).2 _ hb]
end
end KB
set_option Elab.async false
set_option linter.all false
set_option maxRecDepth 100000
set_option maxHeartbeats 4000000
namespace KB
open PySem PySem.Spec PyProof.Rows L2
section
variable {prog : Program} {w : World} {A : Around} {z TI TO i1 i2 i3 l1 l2 l3 S : Addr} {N : Nat} {xs ys zs : Array Value} {h0 : Heap} {n : Nat}
theorem zip3_init {R : Result → Shared → Prop} (ap : ZAp z TI TO i1 i2 i3 l1 l2 l3 S N) (hn : xs.size = n) (hy : n ≤ ys.size) (hz : n ≤ zs.size) (n1 : 1 ≤ n) (hl : n ≤ 100000) (hh : A.in1.handled = none) {gg : Array GenState} {dd : Drawn} {tt : Nat} {oo : OsState}
    (q : ∀ (h' : Heap) (acc' : Array Value) (c' : Nat), ZEnd z TO i1 i2 i3 S N xs ys zs h0 n h' acc' c' → R (.ok (.ret .none)) { heap := h', gens := gg, drawn := dd, toks := tt, os := oo })
    {h : Heap} {c : Nat} (st : ZSt z TI TO i1 i2 i3 l1 l2 l3 S N xs ys zs h0 0 h #[] c) :
    wpAny (model prog w) A.in1 (Builtin.«list.__init__» { pos := [.ref S, .ref z] }) (fun fin s' => match fin with
      | .done f => R (.ok f) s'
      | .again c' => c'.quiet = true ∧ codeAny (model prog w) A c' R s') (fun e s' => R (.error e) s') { heap := h, gens := gg, drawn := dd, toks := tt, os := oo } := by
  unfold Builtin.«list.__init__»
  dsimp only
  rw [if_neg (by decide), if_neg (by show ¬ 1 > 1; decide)]
  refine wpAny_bind ?_
  unfold Builtin.List.listItems
  refine wpAny_bind (wpAny_seqItems st.ls rfl (wpAny_pure ?_))
  refine wpAny_bind ?_
  refine wpAny_updateSeq st.ls rfl ?_ (by rw [sizeLine_eq]; show 0 ≤ _; decide) (by rw [sizeLine_eq]; show 0 ≤ _; decide)
  have u1 := Heap.get?_update_self (Obj.mapSeq fun x => #[]) st.ls rfl
  refine wpAny_bind (wpAny_letGo ?_)
  exact zip3_extend ap hn hy hz n1 hl hh q (ZSt.touch ap st rfl u1 ⟨(Heap.SameBut.update ..).1, fun b hb => (Heap.SameBut.update ..).2 _ hb⟩)
theorem call_list_zip3 {E : Value → Shared → Prop} {s : Shared} {Q : Value → Shared → Prop} (hh : A.handled = none) (ap : Zip3Apart z TI TO i1 i2 i3 l1 l2 l3) (lt : ∀ d ∈ [z, TI, TO, i1, i2, i3, l1, l2, l3], d < s.heap.objs.size) (hz : IsZip s.heap z TI TO .none) (hI : IsTri s.heap TI (.ref i1) (.ref i2) (.ref i3)) (hO : ∃ a b c, IsTri s.heap TO a b c)
    (h1 : s.heap.IsListIter i1 l1 0) (h2 : s.heap.IsListIter i2 l2 0) (h3 : s.heap.IsListIter i3 l3 0) (g1 : s.heap.IsList l1 xs) (g2 : s.heap.IsList l2 ys) (g3 : s.heap.IsList l3 zs) (hn : xs.size = n) (hy : n ≤ ys.size) (hz' : n ≤ zs.size) (n1 : 1 ≤ n) (hl : n ≤ 100000)
    (q : ∀ (h' : Heap) (acc' : Array Value) (c' : Nat), ZEnd z TO i1 i2 i3 s.heap.objs.size (s.heap.objs.size + 1) xs ys zs s.heap n h' acc' c' → Q (.ref s.heap.objs.size) { heap := h', gens := s.gens, drawn := s.drawn, toks := s.toks, os := s.os }) :
    wpAny (model prog w) A (call (.type "list") [.ref z]) Q E s := by
  refine callType_codes (Q₁ := fun obj s1 => obj = .ref s.heap.objs.size ∧ s1 = { heap := s.heap.push { cls := .type "list", data := .seq #[] }, gens := s.gens, drawn := s.drawn, toks := s.toks, os := s.os }) F.called_list (F.typeCall_list_1 _) F.entry_list_init (code_list_new _ ⟨rfl, rfl⟩) ?_
  rintro obj s1 ⟨rfl, rfl⟩
  obtain ⟨a, b, c, hO⟩ := hO
  have k : ∀ {d : Addr} {o : Obj}, s.heap.get? d = some o → (s.heap.push { cls := .type "list", data := .seq #[] }).get? d = some o := fun e => Heap.get?_push_of_some _ e
  have hS : (s.heap.push { cls := .type "list", data := .seq #[] }).get? s.heap.objs.size = some { cls := .type "list", data := .seq #[] } := Heap.get?_push_size _ rfl
  have aps : ZAp z TI TO i1 i2 i3 l1 l2 l3 s.heap.objs.size (s.heap.objs.size + 1) := ⟨ap, fun m => Nat.lt_irrefl _ (lt _ m), fun d hd => by
    rw [show [z, TI, TO, i1, i2, i3, l1, l2, l3, s.heap.objs.size] = [z, TI, TO, i1, i2, i3, l1, l2, l3] ++ [s.heap.objs.size] from rfl, List.mem_append] at hd
    rcases hd with hd | hd
    · exact Nat.lt_succ_of_lt (lt d hd)
    · rw [List.mem_singleton.mp hd]
      exact Nat.lt_succ_self _⟩
  refine ⟨⟨_, hS, rfl⟩, F.args_list_init_2 _ _, ?_⟩
  refine zip3_init (A := A.in1) (R := wants (fun r s₂ => r = Value.none ∧ Q (Value.ref s.heap.objs.size) s₂) E) (h0 := s.heap) (n := n) (c := 0) aps hn hy hz' n1 hl hh (fun h' acc' c' ze => ⟨rfl, q h' acc' c' ze⟩) ⟨⟨.none, .bool false, k hz, .inl ⟨rfl, rfl, rfl⟩⟩, k hI, ⟨a, b, c, k hO⟩, ?_, ?_, ?_, g1.push _, g2.push _, g3.push _, hS, Heap.size_push .., rfl, fun j hj => by omega, fun d o _ _ _ _ _ _ e => k e⟩
  · exact h1.at fun o e => k e
  · exact h2.at fun o e => k e
  · exact h3.at fun o e => k e
end
/-- more new objects at once -/
theorem Inv_more {X : Cx} {pins : List (Addr × Obj)} {σ : L2.St} {H H' : Hp} {s : Shared} {h' : Heap} {tk : Nat} (I : L2.Inv X pins σ H s) (hk : ∀ (b : Addr) (o : Obj), s.heap.get? b = some o → h'.get? b = some o) (kp : ∀ (b : Addr) (o : HO), H b = some o → H' b = some o)
    (new : ∀ (b : Addr) (o : HO), H' b = some o → H b = none → s.heap.objs.size ≤ b ∧ ObjOk X.prog X.w H' h' b o) : L2.Inv X pins σ H' { heap := h', gens := s.gens, drawn := s.drawn, toks := tk, os := s.os } := by
  have off : ∀ (b : Addr) (o : Obj), s.heap.get? b = some o → H b = none → H' b = none := fun b o e n => by
    cases q : H' b with
    | none => rfl
    | some u => exact absurd (Heap.lt_size e) (Nat.not_lt.mpr (new b u q n).1)
  refine I.call' (ch := []) rfl ⟨fun b o q _ _ _ => hk b o q, fun b o q _ _ _ => ⟨o.slots, hk b o q⟩, fun b o q n _ => off b o q n, fun b o q _ => ⟨o, hk b o q⟩, fun b xs q => kp b _ q, fun b o u q => kp b _ q, fun b ps q => ⟨#[], by rw [kp b _ q, Array.append_empty]⟩⟩ ?_ I.bare fun b z => by cases z
  intro b u q
  rcases e : H b with _ | o1
  · exact (new b u q e).2
  · have q2 := kp b o1 e
    have q3 := q2.symm.trans q
    cases q3
    exact ObjOk.stay (I.hok b _ e) (fun d u' _ y => hk d u' y) (fun d y => kp d _ y) fun d xs y => kp d _ y
end KB
set_option Elab.async false
set_option linter.all false
set_option maxRecDepth 100000
set_option maxHeartbeats 4000000
namespace KB
open PySem PySem.Spec PyProof.Rows L2
def tListZip3 (K : PySem.W.Frag) (ta : TA) : TE := fun σ H Q => ta σ H fun vs H1 => ∃ a b c xs ys zs, vs = [.ref a, .ref b, .ref c] ∧ SqL K H1 a xs ∧ SqL K H1 b ys ∧ SqL K H1 c zs ∧ (1 ≤ xs.length ∧ xs.length ≤ ys.length ∧ xs.length ≤ zs.length ∧ xs.length ≤ 100000) ∧
  ∀ (H' : Hp) (p : Addr) (ts : List Addr), Same H1 H' → H1 p = none → H' p = some (.lst (ts.map V.ref)) → ts.length = xs.length → (∀ (i : Nat) (x y z : V), xs[i]? = some x → ys[i]? = some y → zs[i]? = some z → ∃ t, ts[i]? = some t ∧ H' t = some (.tup [x, y, z])) → Q (.ref p) H'
section
variable {X : Cx} {a b c : Expr} {ta : TA} {p p2 pos pos2 : Pos}
theorem pe_listZip3 (hc : X.calm = true) (hg : Gl X "list") (hm : X.mg "list" = none) (hg2 : Gl X "zip") (hm2 : X.mg "zip" = none) (ha : PA X [a, b, c] ta)
    (hs : starEach [a, b, c] X.env = (false, eval a X.env) :: starEach [b, c] X.env := by rfl) (hpl : (backTo pos2 (starEach [b, c] X.env)).any (fun x => x.fst) = false := by rfl)
    (na : starEach [Expr.Call (.Name "zip" p2) [a, b, c] [] pos2] X.env = (false, eval (Expr.Call (.Name "zip" p2) [a, b, c] [] pos2) X.env) :: starEach [] X.env := by rfl) :
    PE X (.Call (.Name "list" p) [.Call (.Name "zip" p2) [a, b, c] [] pos2] [] pos) (tListZip3 X.K ta) := by
  refine ⟨fun pins s σ H Q I h => ?_⟩
  refine Call_ (ld_blt I hg hm boot_list (PyProof.Rows.callWith_type1 (args_cons ?_ na) na rfl) (by decide) (by decide)) rfl
  refine Call_ (ld_blt I hg2 hm2 boot_zip (PyProof.Rows.callWith_type1 (thn (ha.run pos2 pins s σ H _ I h) fun us s1 hx => ?_) hs hpl) (by decide) (by decide)) rfl
  obtain ⟨vs, H1, I1, rv, a', b', c', xs, ys, zs, rfl, la, lb, lc, ⟨n1, ny, nz, nl⟩, q⟩ := hx
  cases rv with
  | cons r1 rv =>
  cases rv with
  | cons r2 rv =>
  cases rv with
  | cons r3 rv =>
  cases rv
  cases r1
  cases r2
  cases r3
  obtain ⟨is1, v1, p1, _⟩ := I1.list la
  obtain ⟨is2, v2, p2', _⟩ := I1.list lb
  obtain ⟨is3, v3, p3, _⟩ := I1.list lc
  have len1 := v1.length
  have len2 := v2.length
  have len3 := v3.length
  refine call_zip_3 p1.isList p2'.isList p3.isList fun h2 b1 b2 b3 b4 b5 b6 b7 b8 => ?_
  refine args_nil ?_
  have ap := apart3 s1.heap.objs.size a' b' c' p1.lt p2'.lt p3.lt
  have kl : ∀ {d : Addr} {l : Array Value}, s1.heap.IsList d l → h2.IsList d l := fun ⟨o, w1, w2⟩ => ⟨o, b8 _ _ w1, w2⟩
  have ltN : ∀ d ∈ [s1.heap.objs.size + 5, s1.heap.objs.size + 3, s1.heap.objs.size + 4, s1.heap.objs.size, s1.heap.objs.size + 1, s1.heap.objs.size + 2, a', b', c'], d < h2.objs.size := fun d hd => by
    simp only [List.mem_cons, List.not_mem_nil, or_false] at hd
    have e1 : a' < s1.heap.objs.size := p1.lt
    have e2 : b' < s1.heap.objs.size := p2'.lt
    have e3 : c' < s1.heap.objs.size := p3.lt
    rw [b7]
    rcases hd with h | h | h | h | h | h | h | h | h
    · rw [h]; exact Nat.lt_succ_self _
    · rw [h]; exact Nat.add_lt_add_left (by decide) _
    · rw [h]; exact Nat.add_lt_add_left (by decide) _
    · rw [h]; exact Nat.lt_add_of_pos_right (by decide)
    · rw [h]; exact Nat.add_lt_add_left (by decide) _
    · rw [h]; exact Nat.add_lt_add_left (by decide) _
    · rw [h]; exact Nat.lt_add_right 6 e1
    · rw [h]; exact Nat.lt_add_right 6 e2
    · rw [h]; exact Nat.lt_add_right 6 e3
  refine call_list_zip3 (s := { heap := h2, gens := s1.gens, drawn := s1.drawn, toks := s1.toks, os := s1.os }) (n := xs.length) (I1.ok.hd hc) ap ltN b1 b2 ⟨_, _, _, b3⟩ b4 b5 b6 (kl p1.isList) (kl p2'.isList) (kl p3.isList) (by simp [len1]) (by simp; omega) (by simp; omega) n1 nl fun h3 acc c'' ze => ?_
  have hS : h2.objs.size = s1.heap.objs.size + 6 := b7
  simp only [hS] at ze ⊢
  obtain ⟨B, eB⟩ : ∃ B : Nat, B = s1.heap.objs.size := ⟨_, rfl⟩
  have old : ∀ (d : Addr) (o : Obj), s1.heap.get? d = some o → h3.get? d = some o := fun d o e => by
    have l := Heap.lt_size e
    have n : ∀ k : Nat, d ≠ s1.heap.objs.size + k := fun k z => absurd l (Nat.not_lt.mpr (by rw [z]; exact Nat.le_add_right _ _))
    exact ze.fr d o (n 5) (n 4) (n 0) (n 1) (n 2) (n 6) (b8 d o e)
  have fresh : ∀ d : Addr, s1.heap.objs.size ≤ d → H1 d = none := fun d l => HOk.fresh I1.hok l
  let ts : List Addr := (List.range xs.length).map fun j : Nat => (s1.heap.objs.size + 6 + 1 + j : Nat)
  let H' : Hp := fun d => if d = s1.heap.objs.size + 6 then some (.lst (ts.map V.ref)) else if s1.heap.objs.size + 6 + 1 ≤ d ∧ d < s1.heap.objs.size + 6 + 1 + xs.length then some (.tup [xs.getD (d - (s1.heap.objs.size + 6 + 1)) .non, ys.getD (d - (s1.heap.objs.size + 6 + 1)) .non, zs.getD (d - (s1.heap.objs.size + 6 + 1)) .non]) else H1 d
  have kS : H' (s1.heap.objs.size + 6) = some (.lst (ts.map V.ref)) := if_pos rfl
  have kT : ∀ j : Nat, j < xs.length → H' (s1.heap.objs.size + 6 + 1 + j) = some (.tup [xs.getD j .non, ys.getD j .non, zs.getD j .non]) := fun j hj => by
    have e1 : ¬ ((s1.heap.objs.size + 6 + 1 + j : Addr) = s1.heap.objs.size + 6) := fun z => by
      have z' : (s1.heap.objs.size + 6 + 1 + j : Nat) = s1.heap.objs.size + 6 := z
      omega
    have e2 : (s1.heap.objs.size + 6 + 1 ≤ s1.heap.objs.size + 6 + 1 + j ∧ s1.heap.objs.size + 6 + 1 + j < s1.heap.objs.size + 6 + 1 + xs.length) := ⟨Nat.le_add_right _ _, Nat.add_lt_add_left hj _⟩
    have e3 : s1.heap.objs.size + 6 + 1 + j - (s1.heap.objs.size + 6 + 1) = j := Nat.add_sub_cancel_left _ _
    show (if _ then _ else _) = _
    rw [if_neg e1, if_pos e2, e3]
  have kO : ∀ d : Addr, d < s1.heap.objs.size → H' d = H1 d := fun d hd => by
    have e1 : ¬ (d = s1.heap.objs.size + 6) := fun z => absurd hd (Nat.not_lt.mpr (by rw [z]; exact Nat.le_add_right _ _))
    have e2 : ¬ (s1.heap.objs.size + 6 + 1 ≤ d ∧ d < s1.heap.objs.size + 6 + 1 + xs.length) := fun z => absurd hd (Nat.not_lt.mpr (Nat.le_trans (Nat.le_add_right _ 7) z.1))
    show (if _ then _ else _) = _
    rw [if_neg e1, if_neg e2]
  have kp : Same H1 H' := fun d o e => by
    rcases Nat.lt_or_ge d s1.heap.objs.size with l | l
    · rw [kO d l]; exact e
    · rw [fresh d l] at e; cases e
  have accE : acc.toList = ts.map Value.ref := by
    apply List.ext_getElem?
    intro j
    rcases Nat.lt_or_ge j xs.length with hj | hj
    · have := (ze.at_ j hj).1
      rw [Array.getElem?_toList, this, List.getElem?_map, List.getElem?_map, List.getElem?_range hj]
      rfl
    · rw [List.getElem?_eq_none (by rw [Array.length_toList, ze.ac]; exact hj), List.getElem?_eq_none (by simp [ts]; exact hj)]
  have okS : ObjOk X.prog X.w H' h3 (s1.heap.objs.size + 6) (.lst (ts.map V.ref)) := by
    refine ⟨by rw [List.length_map, List.length_map, List.length_range]; exact Nat.le_trans nl (by decide), acc.toList, c'', by rw [accE]; exact LiI.vals_refs ts, ?_⟩
    rw [Array.toArray_toList]
    exact ze.ls
  have okT : ∀ j : Nat, j < xs.length → ObjOk X.prog X.w H' h3 (s1.heap.objs.size + 6 + 1 + j) (.tup [xs.getD j .non, ys.getD j .non, zs.getD j .non]) := fun j hj => by
    obtain ⟨_, x', y', u', e1, e2, e3, tt⟩ := ze.at_ j hj
    have g : ∀ {l : List V} {is : List Value} {v : Value}, Vals l is → is.toArray[j]? = some v → j < l.length → RelV (l.getD j .non) v := fun {l is v} vv ee hl => by
      obtain ⟨v', f1, f2⟩ := vv.get (List.getElem?_eq_getElem hl)
      rw [List.getElem?_toArray] at ee
      rw [ee] at f1
      cases f1
      rw [List.getD_eq_getElem?_getD, List.getElem?_eq_getElem hl]
      exact f2
    exact ⟨by rw [sizeLine_eq]; show 3 ≤ _; decide, [x', y', u'], .cons (g v1 e1 hj) (.cons (g v2 e2 (by omega)) (.cons (g v3 e3 (by omega)) .nil)), _, tt, rfl, 0, rfl⟩
  have J : L2.Inv X pins σ H' { heap := h3, gens := s1.gens, drawn := s1.drawn, toks := s1.toks, os := s1.os } := by
    refine Inv_more I1 old kp fun d o e n => ?_
    rcases Nat.lt_or_ge d s1.heap.objs.size with l | l
    · rw [kO d l, n] at e
      cases e
    refine ⟨l, ?_⟩
    by_cases e1 : d = s1.heap.objs.size + 6
    · subst e1
      rw [kS] at e
      cases e
      exact okS
    by_cases e2 : s1.heap.objs.size + 6 + 1 ≤ d ∧ d < s1.heap.objs.size + 6 + 1 + xs.length
    · obtain ⟨j, rfl⟩ : ∃ j : Nat, d = s1.heap.objs.size + 6 + 1 + j := ⟨d - (s1.heap.objs.size + 6 + 1), (Nat.add_sub_cancel' e2.1).symm⟩
      have hj : j < xs.length := Nat.lt_of_add_lt_add_left e2.2
      rw [kT j hj] at e
      cases e
      exact okT j hj
    · have : H' d = H1 d := by
        show (if _ then _ else _) = _
        rw [if_neg e1, if_neg e2]
      rw [this, n] at e
      cases e
  refine ⟨.ref (s1.heap.objs.size + 6), H', J, rfl, q H' _ ts kp (fresh _ (Nat.le_add_right _ _)) kS (by simp [ts]) fun i x y z e1 e2 e3 => ?_⟩
  have hi : i < xs.length := (List.getElem?_eq_some_iff.mp e1).1
  refine ⟨(s1.heap.objs.size + 6 + 1 + i : Nat), by simp only [ts, List.getElem?_map, List.getElem?_range hi]; rfl, ?_⟩
  rw [kT i hi, List.getD_eq_getElem?_getD, List.getD_eq_getElem?_getD, List.getD_eq_getElem?_getD, e1, e2, e3]
  rfl
end
end KB
set_option Elab.async false
set_option linter.all false
set_option maxRecDepth 100000
set_option maxHeartbeats 4000000
/-! A new object that is gone over at once: it is held from then on. -/
namespace L2
open PySem PySem.Spec PyProof.Rows
def tLk (t : TE) : TE := fun σ H Q => t σ H fun x H1 => ∃ d u, x = .ref d ∧ H1 d = some u ∧ Mut (some u) ∧ ∀ od, Q x (upd H1 d (.frz od u))
theorem pe_lk {X : Cx} {e : Expr} {t : TE} (h : PE X e t) : PE X e (tLk t) := by
  refine ⟨fun pins s σ H Q I hw => ?_⟩
  refine thn (h.run pins s σ H _ I hw) fun v s1 ⟨x, H1, I1, r, q⟩ => ?_
  obtain ⟨d, u, ex, hd, mu, q⟩ := q
  subst ex
  obtain ⟨od, I2⟩ := I1.lock hd mu
  exact ⟨_, _, I2, r, q od⟩
end L2
set_option Elab.async false
set_option linter.all false
set_option maxRecDepth 100000
set_option maxHeartbeats 4000000
/-! xs == [] and xs != [], whatever xs holds. -/
namespace L2
open PySem PySem.Spec PyProof.Rows
section
variable {X : Cx}
def rEmp (K : PySem.W.Frag) (neg : Bool) : R2 := fun x y H Q => ∃ (a b : Addr) (xs : List V), x = .ref a ∧ y = .ref b ∧ SqL K H a xs ∧ SqL K H b [] ∧ Q (.bl (xs.isEmpty != neg)) H
theorem op_eqE (hu : X.A.units < cLine) : OpR X (compareOp .Eq) (rEmp X.K false) := by
  intro pins s σ H x y v u Q I rx ry h
  obtain ⟨a, b, xs, rfl, rfl, ha, hb, q⟩ := h
  obtain rfl : v = Value.ref a := rx
  obtain rfl : u = Value.ref b := ry
  obtain ⟨its, rv, ⟨oa, na, hoa, hca, _, hda⟩, _⟩ := I.list ha
  obtain ⟨its2, rv2, ⟨ob, nb, hob, hcb, _, hdb⟩, _⟩ := I.list hb
  cases rv2
  have hA : s.heap.IsList a its.toArray := ⟨oa, hoa, hca, na, hda⟩
  have hB : s.heap.IsList b #[] := ⟨ob, hob, hcb, nb, hdb⟩
  have z : ∀ c : Bool, (c != false) = c := by decide
  rw [z] at q
  cases rv with
  | nil => exact SeqAt.RcAt.lists (e := fun _ => true) hA hB rfl hu (fun j h1 h2 => absurd h2 (Nat.not_lt_zero _)) X.prog X.w _ _ ⟨.bl _, H, I, rfl, q⟩
  | cons r t => exact SeqAt.RcAt.lists_lengths hA hB (by simp) hu X.prog X.w _ _ ⟨.bl _, H, I, rfl, q⟩
theorem op_neE (hu : X.A.units < cLine) : OpR X (compareOp .NotEq) (rEmp X.K true) := by
  intro pins s σ H x y v u Q I rx ry h
  obtain ⟨a, b, xs, rfl, rfl, ha, hb, q⟩ := h
  obtain rfl : v = Value.ref a := rx
  obtain rfl : u = Value.ref b := ry
  obtain ⟨its, rv, ⟨oa, na, hoa, hca, _, hda⟩, _⟩ := I.list ha
  obtain ⟨its2, rv2, ⟨ob, nb, hob, hcb, _, hdb⟩, _⟩ := I.list hb
  cases rv2
  have hA : s.heap.IsList a its.toArray := ⟨oa, hoa, hca, na, hda⟩
  have hB : s.heap.IsList b #[] := ⟨ob, hob, hcb, nb, hdb⟩
  have z : ∀ c : Bool, (c != true) = !c := by decide
  rw [z] at q
  cases rv with
  | nil => exact SeqAt.RcNeAt.lists (e := fun _ => true) hA hB rfl hu (fun j h1 h2 => absurd h2 (Nat.not_lt_zero _)) X.prog X.w _ _ ⟨.bl _, H, I, rfl, q⟩
  | cons r t => exact SeqAt.RcNeAt.lists_lengths hA hB (by simp) hu X.prog X.w _ _ ⟨.bl _, H, I, rfl, q⟩
end
end L2
set_option Elab.async false
set_option linter.all false
set_option maxRecDepth 100000
set_option maxHeartbeats 4000000
/-! sorted(xs) of tracked data of one shape: tuples, rows, texts. -/
namespace KB
open PySem PySem.Spec PyProof.Rows L2
theorem eachOf {xs : List V} {us : List Value} (h : Vals xs us) : PySem.W.EachIs (fun (u : Value) (x : V) => RelV x u) us xs := by
  induction h with
  | nil => exact .nil
  | cons r _ ih => exact .cons r ih
theorem valsOf {xs : List V} {us : List Value} (h : PySem.W.EachIs (fun (u : Value) (x : V) => RelV x u) us xs) : Vals xs us := by
  induction h with
  | nil => exact .nil
  | cons r _ ih => exact .cons r ih
theorem eachMem {α β : Type} {R S : α → β → Prop} {as : List α} {bs : List β} (h : PySem.W.EachIs R as bs) (k : ∀ a b, b ∈ bs → R a b → S a b) : PySem.W.EachIs S as bs := by
  induction h with
  | nil => exact .nil
  | cons r _ ih => exact .cons (k _ _ List.mem_cons_self r) (ih fun a b m => k a b (List.mem_cons_of_mem _ m))
def rSortedD (K : PySem.W.Frag) : List V → Hp → VK → Prop := fun vs H Q => ∃ (a : Addr) (xs : List V) (k : V → PyData), vs = [.ref a] ∧ SqL K H a xs ∧ (∀ x ∈ xs, Dp K H x (k x)) ∧ PySem.W.AllAlike (xs.map k) ∧ PySem.W.Sortable (xs.map k) ∧ (∀ x ∈ xs, (k x).depth ≤ 40) ∧
  ∀ p, H p = none → Q (.ref p) (upd H p (.lst (xs.mergeSort (PySem.W.dataLe false k))))
theorem cr_sortedD {X : Cx} (hu : X.A.units + 64 < cLine) : CallR X (.builtin "sorted") (rSortedD X.K) := by
  intro pins s σ H vs us Q I r h
  obtain ⟨a, xs, k, rfl, hs, hk, ha, hb, hd, q⟩ := h
  obtain rfl := Vals.ref1 r
  obtain ⟨its, rv, hl, hz⟩ := I.list hs
  have e1 := eachOf rv
  refine PySem.W.sorted_data (vs := its) (bs := xs) (enc := k) (R := fun u x => RelV x u) hl.isList e1 (eachMem e1 fun u x m r => Dp.reads I (k x) x u (hk x m) r) ha hb hz (fun x m => ?_) fun out len eo => ?_
  · have := hd x m
    omega
  · obtain ⟨ep, he⟩ := PyProof.Rows.sortedAll_at s.heap its out.toArray
    have z : (xs.mergeSort (PySem.W.dataLe false k)).length ≤ sizeLine := by
      rw [List.length_mergeSort]
      exact hz
    exact ⟨.ref _, upd H (s.heap.objs.size + 1) (.lst (xs.mergeSort (PySem.W.dataLe false k))), I.laid (t' := s.toks) (fun _ _ => PyProof.Rows.sortedAll_old) (Nat.le_succ _) ⟨z, out, ep, valsOf eo, he⟩, rfl, q _ (I.hok.fresh (Nat.le_succ _))⟩
end KB
set_option Elab.async false
set_option linter.all false
set_option maxRecDepth 100000
set_option maxHeartbeats 4000000
/-! sorted(xs), xs new tuples of as many ints each. -/
namespace KB
open PySem PySem.Spec PyProof.Rows L2
theorem zip_paired {α β : Type} {F : α → β → Prop} : ∀ {xs : List α} {ys : List β}, Paired F xs ys → (∀ p ∈ xs.zip ys, F p.1 p.2) ∧ (xs.zip ys).map Prod.fst = xs ∧ (xs.zip ys).map Prod.snd = ys
  | _, _, .nil => ⟨fun p h => (nomatch h), rfl, rfl⟩
  | _, _, .cons r t => by
    obtain ⟨h1, h2, h3⟩ := zip_paired t
    refine ⟨fun p h => ?_, ?_, ?_⟩
    · rw [List.zip_cons_cons] at h
      rcases List.mem_cons.mp h with rfl | h
      · exact r
      · exact h1 p h
    · rw [List.zip_cons_cons, List.map_cons, h2]
    · rw [List.zip_cons_cons, List.map_cons, h3]
theorem paired_zip {α β : Type} {F : α → β → Prop} : ∀ {ps : List (α × β)}, (∀ p ∈ ps, F p.1 p.2) → Paired F (ps.map Prod.fst) (ps.map Prod.snd)
  | [], _ => .nil
  | p :: ps, h => .cons (h p List.mem_cons_self) (paired_zip fun q hq => h q (List.mem_cons_of_mem _ hq))
theorem paired_sort {α β : Type} {F : α → β → Prop} {le : β → β → Bool} {le' : α → α → Bool} (h : ∀ a x b y, F a x → F b y → le' a b = le x y) {xs : List α} {ys : List β} (p : Paired F xs ys) : Paired F (xs.mergeSort le') (ys.mergeSort le) := by
  obtain ⟨h1, h2, h3⟩ := zip_paired p
  have e1 : ((xs.zip ys).mergeSort fun p q => le p.2 q.2).map Prod.fst = xs.mergeSort le' := by
    rw [List.map_mergeSort (s := le') (fun a ha b hb => (h _ _ _ _ (h1 a ha) (h1 b hb)).symm), h2]
  have e2 : ((xs.zip ys).mergeSort fun p q => le p.2 q.2).map Prod.snd = ys.mergeSort le := by
    rw [List.map_mergeSort (s := le) (fun a _ b _ => rfl), h3]
  rw [← e1, ← e2]
  exact paired_zip fun q hq => h1 q ((List.mergeSort_perm _ _).mem_iff.mp hq)
theorem paired_get2 {α β : Type} {F : α → β → Prop} : ∀ {xs : List α} {ys : List β}, Paired F xs ys → ∀ {i : Nat} {y : β}, ys[i]? = some y → ∃ x, xs[i]? = some x ∧ F x y
  | _, _, .nil, i, x, h => by cases h
  | _, _, .cons r t, 0, x, h => by
    have e := Option.some.inj h
    subst e
    exact ⟨_, rfl, r⟩
  | _, _, .cons r t, i + 1, x, h => paired_get2 t h
theorem paired_get1 {α β : Type} {F : α → β → Prop} : ∀ {xs : List α} {ys : List β}, Paired F xs ys → ∀ {i : Nat} {x : α}, xs[i]? = some x → ∃ y, ys[i]? = some y ∧ F x y
  | _, _, .nil, i, x, h => by cases h
  | _, _, .cons r t, 0, x, h => by
    have e := Option.some.inj h
    subst e
    exact ⟨_, rfl, r⟩
  | _, _, .cons r t, i + 1, x, h => paired_get1 t h
theorem paired_rev {α β : Type} {F : α → β → Prop} : ∀ {xs : List α} {ys : List β}, Paired F xs ys → Paired F xs.reverse ys.reverse
  | _, _, .nil => .nil
  | _, _, .cons r t => by
    rw [List.reverse_cons, List.reverse_cons]
    exact paired_snoc (paired_rev t) r
theorem paired_mapG {α β γ : Type} {F : γ → β → Prop} {f : α → γ} : ∀ {xs : List α} {ys : List β}, Paired (fun x y => F (f x) y) xs ys → Paired F (xs.map f) ys
  | _, _, .nil => .nil
  | _, _, .cons r t => .cons r (paired_mapG t)
theorem sel_getG {α : Type} (z : α) (l : List α) (c : α → Bool) : (((List.range l.length).filter fun i => c (l.getD i z)).map fun i => l.getD i z) = l.filter c := by
  have e : l = (List.range l.length).map fun i => l.getD i z := by
    refine List.ext_getElem (by simp) fun i h1 h2 => ?_
    simp [h1]
  conv => rhs; rw [e, List.filter_map]
  rfl
theorem paired_selG {α : Type} {z : α} {l : List α} {c : α → Bool} {R : α → V → Prop} {ys : List V} (h : Paired (fun i y => R (l.getD i z) y) ((List.range l.length).filter fun i => c (l.getD i z)) ys) : Paired R (l.filter c) ys := by
  have := paired_mapG h
  rw [sel_getG] at this
  exact this
def intsD (t : List Int) : PyData := .tuple (t.map PyData.int)
def sortT (ts : List (List Int)) : List (List Int) := ts.mergeSort fun a b => PySem.W.dataLe false intsD a b
theorem sortT_perm (ts : List (List Int)) : (sortT ts).Perm ts := List.mergeSort_perm _ _
/-- y is a tuple of these ints -/
def IntsAt (H : Hp) (t : List Int) (y : V) : Prop := ∃ T, y = .ref T ∧ H T = some (.tup (t.map V.int))
theorem IntsAt.same {H H' : Hp} (k : Same H H') {t : List Int} {y : V} : IntsAt H t y → IntsAt H' t y := fun ⟨T, e, h⟩ => ⟨T, e, k _ _ h⟩
def encI (H : Hp) (y : V) : PyData := match y with
  | .ref T => (match H T with
    | some (.tup xs) => .tuple (xs.map fun v => match v with | .int i => PyData.int i | _ => .none)
    | _ => .none)
  | _ => .none
theorem encI_at {H : Hp} {t : List Int} {y : V} (h : IntsAt H t y) : encI H y = intsD t := by
  obtain ⟨T, rfl, h⟩ := h
  simp only [encI, intsD, h, List.map_map]
  rfl
theorem dpAll_ints {K : PySem.W.Frag} {H : Hp} : ∀ t : List Int, DpAll K H (t.map V.int) (t.map PyData.int)
  | [] => .nil
  | i :: t => .cons (.int i) (dpAll_ints t)
theorem alikeAll_ints : ∀ a b : List Int, PySem.W.alikeAll (a.map PyData.int) (b.map PyData.int) = true
  | [], _ => by simp [PySem.W.alikeAll]
  | _ :: _, [] => by simp [PySem.W.alikeAll]
  | i :: a, j :: b => by
    rw [List.map_cons, List.map_cons]
    simp only [PySem.W.alikeAll, PySem.W.alike, alikeAll_ints a b, Bool.and_self]
theorem depth_ints : ∀ t : List Int, PyData.depthAll (t.map PyData.int) = 0
  | [] => by simp [PyData.depthAll]
  | i :: t => by
    rw [List.map_cons]
    simp only [PyData.depthAll, PyData.depth, depth_ints t]
    rfl
def rSortT (K : PySem.W.Frag) : List V → Hp → VK → Prop := fun vs H Q => ∃ (a : Addr) (xs : List V) (ts : List (List Int)), vs = [.ref a] ∧ SqL K H a xs ∧ Paired (IntsAt H) ts xs ∧ (∀ t ∈ ts, t ≠ []) ∧
  ∀ p ys, H p = none → Paired (IntsAt H) (sortT ts) ys → Q (.ref p) (upd H p (.lst ys))
theorem cr_sortedT {X : Cx} (hu : X.A.units + 64 < cLine) : CallR X (.builtin "sorted") (rSortT X.K) := by
  intro pins s σ H vs us Q I r h
  obtain ⟨a, xs, ts, rfl, hs, py, hne, q⟩ := h
  have get : ∀ x ∈ xs, ∃ t ∈ ts, IntsAt H t x := fun x mx => by
    obtain ⟨h1, h2, h3⟩ := zip_paired py
    rw [← h3] at mx
    obtain ⟨p, hp, rfl⟩ := List.mem_map.mp mx
    refine ⟨p.1, ?_, h1 p hp⟩
    rw [← h2]
    exact List.mem_map.mpr ⟨p, hp, rfl⟩
  refine cr_sortedD hu pins s σ H _ us Q I r ⟨a, xs, encI H, rfl, hs, fun x mx => ?_, fun d hd d' hd' => ?_, .inl fun d hd => ?_, fun x mx => ?_, fun p hp => ?_⟩
  · obtain ⟨t, _, h⟩ := get x mx
    rw [encI_at h]
    obtain ⟨T, rfl, hT⟩ := h
    exact .tup (SqT.of hT) (dpAll_ints t)
  · obtain ⟨x, mx, rfl⟩ := List.mem_map.mp hd
    obtain ⟨y, my, rfl⟩ := List.mem_map.mp hd'
    obtain ⟨t, _, h⟩ := get x mx
    obtain ⟨t', _, h'⟩ := get y my
    rw [encI_at h, encI_at h']
    show PySem.W.alike (.tuple _) (.tuple _) = true
    simp only [PySem.W.alike, alikeAll_ints]
  · obtain ⟨x, mx, rfl⟩ := List.mem_map.mp hd
    obtain ⟨t, mt, h⟩ := get x mx
    rw [encI_at h]
    cases t with
    | nil => exact absurd rfl (hne _ mt)
    | cons i t => exact ⟨_, _, rfl⟩
  · obtain ⟨t, _, h⟩ := get x mx
    rw [encI_at h]
    unfold intsD
    simp only [PyData.depth, depth_ints]
    decide
  · refine q p _ hp (paired_sort (fun a x b y h1 h2 => ?_) py)
    unfold PySem.W.dataLe PySem.W.sortLe
    dsimp only
    rw [encI_at h1, encI_at h2]
def rListOf (K : PySem.W.Frag) : List V → Hp → VK → Prop := fun xs H Q => ∃ p ys, xs = [V.ref p] ∧ (SqL K H p ys ∨ SqT K H p ys) ∧ ∀ l, H l = none → Q (.ref l) (upd H l (.lst ys))
theorem call_list_ofR {X : Cx} : CallR X (.type "list") (rListOf X.K) := call_list_of
end KB
set_option Elab.async false
set_option linter.all false
set_option maxRecDepth 100000
set_option maxHeartbeats 4000000
/-! sorted(xs), xs new lists of counts: some order of them. -/
namespace KB
open PySem PySem.Spec PyProof.Rows L2
/-- y is a list of these counts -/
def LsAt (H : Hp) (l : List Nat) (y : V) : Prop := ∃ T, y = .ref T ∧ H T = some (.lst (l.map fun x : Nat => V.int (x : Int)))
theorem LsAt.same {H H' : Hp} (k : Same H H') {t : List Nat} {y : V} : LsAt H t y → LsAt H' t y := fun ⟨T, e, h⟩ => ⟨T, e, k _ _ h⟩
def lsD (t : List Nat) : PyData := .list ((t.map fun x : Nat => (x : Int)).map PyData.int)
def encL (H : Hp) (y : V) : PyData := match y with
  | .ref T => (match H T with
    | some (.lst xs) => .list (xs.map fun v => match v with | .int i => PyData.int i | _ => .none)
    | _ => .none)
  | _ => .none
theorem encL_at {H : Hp} {t : List Nat} {y : V} (h : LsAt H t y) : encL H y = lsD t := by
  obtain ⟨T, rfl, h⟩ := h
  simp only [encL, lsD, h, List.map_map]
  rfl
def rSortL (K : PySem.W.Frag) : List V → Hp → VK → Prop := fun vs H Q => ∃ (a : Addr) (xs : List V) (ts : List (List Nat)), vs = [.ref a] ∧ SqL K H a xs ∧ Paired (LsAt H) ts xs ∧
  ∀ p ys ts', H p = none → ts'.Perm ts → Paired (LsAt H) ts' ys → Q (.ref p) (upd H p (.lst ys))
theorem cr_sortedL {X : Cx} (hu : X.A.units + 64 < cLine) : CallR X (.builtin "sorted") (rSortL X.K) := by
  intro pins s σ H vs us Q I r h
  obtain ⟨a, xs, ts, rfl, hs, py, q⟩ := h
  have get : ∀ x ∈ xs, ∃ t ∈ ts, LsAt H t x := fun x mx => by
    obtain ⟨h1, h2, h3⟩ := zip_paired py
    rw [← h3] at mx
    obtain ⟨p, hp, rfl⟩ := List.mem_map.mp mx
    refine ⟨p.1, ?_, h1 p hp⟩
    rw [← h2]
    exact List.mem_map.mpr ⟨p, hp, rfl⟩
  refine cr_sortedD hu pins s σ H _ us Q I r ⟨a, xs, encL H, rfl, hs, fun x mx => ?_, fun d hd d' hd' => ?_, .inr fun d hd => ?_, fun x mx => ?_, fun p hp => ?_⟩
  · obtain ⟨t, _, h⟩ := get x mx
    rw [encL_at h]
    obtain ⟨T, rfl, hT⟩ := h
    refine .lst (SqL.of hT) ?_
    have := dpAll_ints (K := X.K) (H := H) (t.map fun x : Nat => (x : Int))
    rw [List.map_map] at this
    exact this
  · obtain ⟨x, mx, rfl⟩ := List.mem_map.mp hd
    obtain ⟨y, my, rfl⟩ := List.mem_map.mp hd'
    obtain ⟨t, _, h⟩ := get x mx
    obtain ⟨t', _, h'⟩ := get y my
    rw [encL_at h, encL_at h']
    show PySem.W.alike (.list _) (.list _) = true
    simp only [PySem.W.alike, alikeAll_ints]
  · obtain ⟨x, mx, rfl⟩ := List.mem_map.mp hd
    obtain ⟨t, mt, h⟩ := get x mx
    rw [encL_at h]
    unfold lsD
    constructor
    · intro z
      cases z
    · intro xs z
      cases z
  · obtain ⟨t, _, h⟩ := get x mx
    rw [encL_at h]
    unfold lsD
    simp only [PyData.depth, depth_ints]
    decide
  · obtain ⟨h1, h2, h3⟩ := zip_paired py
    have ps := paired_sort (F := LsAt H) (le := PySem.W.dataLe false (encL H)) (le' := PySem.W.dataLe false lsD) (fun a x b y h1 h2 => by
      unfold PySem.W.dataLe PySem.W.sortLe
      dsimp only
      rw [encL_at h1, encL_at h2]) py
    exact q p _ _ hp (List.mergeSort_perm _ _) ps
end KB
set_option Elab.async false
set_option linter.all false
set_option maxRecDepth 100000
set_option maxHeartbeats 4000000
/-! list(range(a, b, c)). -/
namespace KB
open PySem PySem.Spec PyProof.Rows L2
/-- the items of a range with a step -/
def rgC (i c : Int) (n : Nat) : List V := (List.range n).map fun k : Nat => V.int (i + (k : Int) * c)
def tLstRg3 (ta : TA) : TE := fun σ H Q => ta σ H fun vs H1 => ∃ (i j c : Int) (n : Nat), vs = [.int i, .int j, .int c] ∧ c ≠ 0 ∧ Builtin.divisionGoesByPylong (j - i) c = false ∧ Builtin.Range.small i j c = true ∧ Builtin.Range.rangeSize i j c = (n : Int) ∧ n ≤ 2 ^ 24 ∧ ∀ q, H1 q = none → Q (.ref q) (upd H1 q (.lst (rgC i c n)))
theorem vals_rgC {i c : Int} {n : Nat} {acc : Array Value} (h : ItemsOf (fun k v => ∃ t, v = Value.int (i + (k : Int) * c) t) acc n) : Vals (rgC i c n) acc.toList := by
  obtain ⟨h1, h2⟩ := h
  have g : ∀ (xs : List Value) (m : Nat), (∀ (j : Nat) (v : Value), xs[j]? = some v → ∃ t, v = Value.int (i + ((m + j : Nat) : Int) * c) t) → Vals ((List.range' m xs.length).map fun k : Nat => V.int (i + (k : Int) * c)) xs := fun xs => by
    induction xs with
    | nil => exact fun _ _ => .nil
    | cons v xs ih =>
      intro m h
      obtain ⟨t, e⟩ := h 0 v rfl
      refine .cons ⟨t, e⟩ (ih (m + 1) fun j v e => ?_)
      obtain ⟨t, e⟩ := h (j + 1) v e
      exact ⟨t, by rw [e, show m + (j + 1) = m + 1 + j by omega]⟩
  have := g acc.toList 0 fun j v e => by
    obtain ⟨t, e⟩ := h2 j v (by rw [← Array.getElem?_toList]; exact e)
    exact ⟨t, by rw [e, Nat.zero_add]⟩
  unfold rgC
  rw [List.range_eq_range', ← h1, ← Array.length_toList]
  exact this
section
variable {X : Cx} {a b c : Expr} {ta : TA} {p p2 pos pos2 : Pos}
theorem pe_listRg3 (hc : X.calm = true) (hg : Gl X "list") (hm : X.mg "list" = none) (hg2 : Gl X "range") (hm2 : X.mg "range" = none) (ha : PA X [a, b, c] ta)
    (hs : starEach [a, b, c] X.env = (false, eval a X.env) :: starEach [b, c] X.env := by rfl) (hpl : (backTo pos2 (starEach [b, c] X.env)).any (fun x => x.fst) = false := by rfl)
    (na : starEach [Expr.Call (.Name "range" p2) [a, b, c] [] pos2] X.env = (false, eval (Expr.Call (.Name "range" p2) [a, b, c] [] pos2) X.env) :: starEach [] X.env := by rfl) :
    PE X (.Call (.Name "list" p) [.Call (.Name "range" p2) [a, b, c] [] pos2] [] pos) (tLstRg3 ta) := by
  refine ⟨fun pins s σ H Q I h => ?_⟩
  have inner : wpAny (model X.prog X.w) X.A (eval (Expr.Call (.Name "range" p2) [a, b, c] [] pos2) X.env) (fun x s1 => ∃ (r : Addr) (i j k : Int) (n : Nat) (t u v : Tok) (H1 : Hp), x = Value.ref r ∧ IsRange s1.heap r i j k t u v ∧ L2.Inv X pins σ H1 s1 ∧ Builtin.Range.small i j k = true ∧ Builtin.Range.rangeSize i j k = (n : Int) ∧ n ≤ 2 ^ 24 ∧ ∀ q, H1 q = none → Q (.ref q) (upd H1 q (.lst (rgC i k n)))) X.xe s := by
    refine Call_ (ld_blt I hg2 hm2 boot_range (PyProof.Rows.callWith_type1 (thn (ha.run pos2 pins s σ H _ I h) fun us s1 hx => ?_) hs hpl) (by decide) (by decide)) rfl
    obtain ⟨vs, H1, I1, r1, i, j, k, n, rfl, k0, kd, ks, kn, n24, q⟩ := hx
    obtain ⟨u1, u2, u3, rfl, r2, r3, r4⟩ : ∃ u1 u2 u3, us = [u1, u2, u3] ∧ RelV (.int i) u1 ∧ RelV (.int j) u2 ∧ RelV (.int k) u3 := by
      cases r1 with
      | cons a r => cases r with
        | cons b r => cases r with
          | cons c r => cases r with
            | nil => exact ⟨_, _, _, rfl, a, b, c⟩
    obtain ⟨t, rfl⟩ := r2
    obtain ⟨u, rfl⟩ := r3
    obtain ⟨v, rfl⟩ := r4
    refine call_range_3 k0 ?_ (.inl kd)
    exact ⟨_, i, j, k, n, t, u, v, H1, rfl, IsRange.new s1.heap i j k t u v, I1.kept fun b o e => Heap.get?_push_of_some _ e, ks, kn, n24, q⟩
  refine Call_ (ld_blt I hg hm boot_list (PyProof.Rows.callWith_type1 (args_cons (thn inner fun x s1 hx => ?_) na) na rfl) (by decide) (by decide)) rfl
  obtain ⟨r, i, j, k, n, t, u, v, H1, rfl, hr, I1, ks, kn, n24, q⟩ := hx
  refine args_nil ?_
  refine call_list_range (I1.ok.hd hc) hr ks kn n24 fun h' tk acc c' hk e' hi => ?_
  refine ⟨.ref s1.heap.objs.size, upd H1 s1.heap.objs.size (.lst (rgC i k n)), I1.laid hk (Nat.le_refl _) ⟨?_, acc.toList, c', vals_rgC hi, ?_⟩, rfl, q _ (I1.hok.fresh (Nat.le_refl _))⟩
  · unfold rgC
    rw [List.length_map, List.length_range]
    exact Nat.le_trans n24 (by decide)
  · rw [Array.toArray_toList]
    exact e'
end
end KB
set_option Elab.async false
set_option linter.all false
set_option maxRecDepth 100000
set_option maxHeartbeats 4000000
/-! max(xs, default=d), xs a list of ints. -/
namespace KB
open PySem PySem.Spec PyProof.Rows L2
def kwD (dv : Value) : List (Str × Value) := [(Str.ofString "default", dv)]
abbrev mxC (J S : Addr) (dv : Value) : Code := .builtin "max.loop" ⟨[.ref J, .none, .ref S], kwD dv⟩
section
variable {prog : Program} {w : World} {A : Around} {R : Result → Shared → Prop} {J S : Addr} {fq wq : List Addr} {N : Nat} {Iv : Nat → Value → Prop} {Sv : Nat → Heap → Prop} {dv : Value}
theorem mx_name : (toString "max" ++ toString ".loop" : String) = "max.loop" := by decide
/-- what is promised of the end -/
def MxEnd (R : Result → Shared → Prop) (S : Addr) (wq : List Addr) (G : Value → Prop) (s : Shared) : Prop :=
  ∀ (v : Value) (h' : Heap) (tk : Nat), G v → (∀ (b : Addr) (o : Obj), b ∉ wq → b ≠ S → s.heap.get? b = some o → h'.get? b = some o) → R (.ok (.ret v)) { s with heap := h', toks := tk }
theorem MxEnd.on {G : Value → Prop} {s : Shared} {h1 : Heap} {t1 : Nat} (m : MxEnd R S wq G s) (k : ∀ (b : Addr) (o : Obj), b ∉ wq → b ≠ S → s.heap.get? b = some o → h1.get? b = some o) : MxEnd R S wq G { s with heap := h1, toks := t1 } :=
  fun v h' tk g kk => m v h' tk g fun b o n1 n2 e => kk b o n1 n2 (k b o n1 n2 e)
theorem mx_turns (Wk : Walks prog w A.in1 J fq wq N Iv Sv) (bt : Nat → Nat → Bool) (C : CmpOf prog w A.in1 .Gt Iv bt) (nS : S ∉ fq) (d : Nat) : ∀ (i : Nat) (s : Shared) (u : Value) (cap : Nat), N = (i + 1) + d → Sv (i + 1) s.heap → Iv (argBest bt i) u →
    s.heap.get? S = some { cls := .type "list", dict := none, data := .seq #[u, u] cap, slots := #[] } → MxEnd R S wq (Iv (argBest bt (N - 1))) s → codeAny (model prog w) A (mxC J S dv) R s := by
  have nw : S ∉ wq := fun m => nS (Wk.sub _ m)
  induction d with
  | zero =>
    intro i s u cap hN hSt hI hS hE
    have eN : i + 1 = N := by omega
    refine codeAny_builtin PySem.F.entry_max_loop ?_
    rw [Around.under_plainId PySem.F.plain_max_loop _]
    show wpAny _ A.in1 (seqItems? (.ref S) >>= _) _ _ s
    refine wpAny_bind (wpAny_seqItems hS rfl ?_)
    show wpAny _ A.in1 (tryCatch (pyNext (.ref J)) _ >>= _) _ _ s
    refine wpAny_bind (wpAny_tryCatch (Wk.done s _ _ (by rw [← eN]; exact hSt) fun h1 t1 k1 => ?_))
    have hS1 := k1 S _ nw hS
    show wpAny _ A.in1 (updateSeq S (fun _ => #[]) >>= _) _ _ _
    refine wpAny_bind (wpAny_updateSeq hS1 rfl (wpAny_bind (wpAny_letGo (wpAny_pure ?_))))
    refine hE u _ t1 (by rw [← eN]; exact hI) fun b o n1 n2 e => ?_
    exact (Heap.get?_update_other _ _ (Ne.symm n2)).trans (k1 b o n1 e)
  | succ d ih =>
    intro i s u cap hN hSt hI hS hE
    have hi : i + 1 < N := by omega
    refine codeAny_builtin PySem.F.entry_max_loop ?_
    rw [Around.under_plainId PySem.F.plain_max_loop _]
    show wpAny _ A.in1 (seqItems? (.ref S) >>= _) _ _ s
    refine wpAny_bind (wpAny_seqItems hS rfl ?_)
    show wpAny _ A.in1 (tryCatch (pyNext (.ref J)) _ >>= _) _ _ s
    refine wpAny_bind (wpAny_tryCatch (Wk.item (i + 1) s _ _ hi hSt fun v h1 t1 hv hSt1 k1 => ?_))
    have hS1 := k1 S _ nw hS
    show wpAny _ A.in1 (tryCatch (holding [v, v] (richCompare .Gt v u >>= _)) _ >>= _) _ _ _
    refine wpAny_bind (wpAny_tryCatch (wpAny_holding (wpAny_bind (C (i + 1) (argBest bt i) v u _ _ _ hv hI ?_))))
    refine wpAny_bind (wpAny_holding (wpAny_truthy_bool (wpAny_bind (wpAny_letGo (wpAny_pure ?_)))))
    cases q : bt (i + 1) (argBest bt i) with
    | true =>
      have eB : argBest bt (i + 1) = i + 1 := by simp only [argBest, q, if_true]
      simp only [if_true]
      refine wpAny_bind (wpAny_updateSeq hS1 rfl (wpAny_bind (wpAny_letGo ?_)))
      rw [mx_name]
      refine wpAny_pure ⟨plainId_quiet PySem.F.plain_max_loop _, ih (i + 1) _ v _ (by omega) (Wk.frame _ _ _ hSt1 fun b hb o e => ?_) (by rw [eB]; exact hv) (Heap.get?_update_self _ hS1 rfl) (hE.on fun b o n1 n2 e => ?_)⟩
      · exact (Heap.get?_update_other _ _ (fun z : S = b => nS (z ▸ hb))).trans e
      · exact (Heap.get?_update_other _ _ (Ne.symm n2)).trans (k1 b o n1 e)
    | false =>
      have eB : argBest bt (i + 1) = argBest bt i := by simp only [argBest, q, Bool.false_eq_true, if_false]
      simp only [Bool.false_eq_true, if_false]
      refine wpAny_bind (wpAny_letGo ?_)
      rw [mx_name]
      exact wpAny_pure ⟨plainId_quiet PySem.F.plain_max_loop _, ih (i + 1) _ u cap (by omega) hSt1 (by rw [eB]; exact hI) hS1 (hE.on fun b o n1 n2 e => k1 b o n1 e)⟩
/-- from the first turn on -/
theorem mx_first (Wk : Walks prog w A.in1 J fq wq N Iv Sv) (bt : Nat → Nat → Bool) (C : CmpOf prog w A.in1 .Gt Iv bt) (nS : S ∉ fq) {s : Shared} {cap : Nat} (hSt : Sv 0 s.heap)
    (hS : s.heap.get? S = some { cls := .type "list", dict := none, data := .seq #[] cap, slots := #[] }) (h0 : N = 0 → MxEnd R S wq (fun v => v = dv) s) (h1 : 0 < N → MxEnd R S wq (Iv (argBest bt (N - 1))) s) : codeAny (model prog w) A (mxC J S dv) R s := by
  have nw : S ∉ wq := fun m => nS (Wk.sub _ m)
  refine codeAny_builtin PySem.F.entry_max_loop ?_
  rw [Around.under_plainId PySem.F.plain_max_loop _]
  show wpAny _ A.in1 (seqItems? (.ref S) >>= _) _ _ s
  refine wpAny_bind (wpAny_seqItems hS rfl ?_)
  show wpAny _ A.in1 (tryCatch (pyNext (.ref J)) _ >>= _) _ _ s
  rcases Nat.eq_zero_or_pos N with e | hN
  · refine wpAny_bind (wpAny_tryCatch (Wk.done s _ _ (by rw [e]; exact hSt) fun h' tk k' => ?_))
    show wpAny _ A.in1 (rule (toString "max" ++ toString ".default") >>= fun _ => ret dv) _ _ _
    refine wpAny_bind (wpAny_rule ?_)
    exact wpAny_pure (h0 e dv h' tk rfl fun b o n1 n2 ee => k' b o n1 ee)
  · refine wpAny_bind (wpAny_tryCatch (Wk.item 0 s _ _ hN hSt fun v h' tk hv hSt1 k' => ?_))
    have hS1 := k' S _ nw hS
    show wpAny _ A.in1 (updateSeq S (fun _ => #[v, v]) >>= _) _ _ _
    refine wpAny_bind (wpAny_updateSeq hS1 rfl ?_)
    rw [mx_name]
    refine wpAny_pure ⟨plainId_quiet PySem.F.plain_max_loop _, mx_turns Wk bt C nS (N - 1) 0 _ v _ (by omega) (Wk.frame _ _ _ hSt1 fun b hb o e => ?_) hv (Heap.get?_update_self _ hS1 rfl) ((h1 hN).on fun b o n1 n2 e => ?_)⟩
    · exact (Heap.get?_update_other _ _ (fun z : S = b => nS (z ▸ hb))).trans e
    · exact (Heap.get?_update_other _ _ (Ne.symm n2)).trans (k' b o n1 e)
end
section
variable {prog : Program} {w : World} {A : Around} {E : Value → Shared → Prop} {s : Shared} {l : Addr}
theorem mx_args (a v : Value) : argsOk "max" ⟨[a], kwD v⟩ := by unfold argsOk kwD; kernel_rfl
theorem max_dflt {xs : Array (Int × Tok)} {dv : Value} {Q : Value → Shared → Prop} (hh : A.handled = none) (hl : s.heap.IsList l (intItems xs))
    (k0 : xs.size = 0 → ∀ h' tk, (∀ b o, s.heap.get? b = some o → h'.get? b = some o) → Q dv { s with heap := h', toks := tk })
    (k1 : 0 < xs.size → ∀ v h' tk, (intItems xs)[argBest (fun i j => decide (numAt xs i > numAt xs j)) (xs.size - 1)]? = some v → (∀ b o, s.heap.get? b = some o → h'.get? b = some o) → Q v { s with heap := h', toks := tk }) :
    wpAny (model prog w) A (call (.builtin "max") [.ref l] (kwD dv)) Q E s := by
  have fin : wpAny (model prog w) A.in1 (Builtin.«max» ⟨[.ref l], kwD dv⟩) (fun z s' => match z with
      | .done f => (match (Except.ok f : Result) with | .ok (.ret v) => Q v s' | .ok _ => False | .error e => E e s')
      | .again c' => c'.quiet = true ∧ codeAny (model prog w) A c' (fun r s' => match r with | .ok (.ret v) => Q v s' | .ok _ => False | .error e => E e s') s') E s := by
    show wpAny _ A.in1 (Builtin.Builtins.bindParams "max" ["key", "default"] 0 ⟨[], kwD dv⟩ >>= _) _ _ s
    refine wpAny_bind (wpAny_of_eq (show Builtin.Builtins.bindParams "max" ["key", "default"] 0 ⟨[], kwD dv⟩ = pure [none, some dv] from rfl) ?_)
    refine wpAny_bind (wpAny_pure ?_)
    refine wpAny_bind (iter_intList hl fun s2 e hI hlt ne => ?_)
    subst e
    refine wpAny_bind (wpAny_newObj_type ?_)
    rw [mx_name]
    have nS : s.heap.objs.size + 1 ∉ [s.heap.objs.size, l] := fun m => by
      have hl' : l < s.heap.objs.size := by
        obtain ⟨_, e, _⟩ := hl
        exact Heap.lt_size e
      rcases List.mem_cons.mp m with e | m
      · exact absurd e (Nat.succ_ne_self _)
      · rw [List.mem_singleton] at m
        rw [← m] at hl'
        exact Nat.lt_irrefl _ (Nat.lt_of_succ_lt hl')
    have sz : (s.heap.push { cls := .type "list_iterator", data := .fields #[.ref l, .int 0 0] }).objs.size = s.heap.objs.size + 1 := Heap.size_push ..
    have Wk := Walks.list (prog := prog) (w := w) (A := A.in1) hh s.heap.objs.size l ne (intItems xs)
    have old : ∀ (b : Addr) (o : Obj), s.heap.get? b = some o → b ∉ [s.heap.objs.size] ∧ b ≠ s.heap.objs.size + 1 := fun b o e => by
      have := Heap.lt_size e
      refine ⟨fun m => ?_, Nat.ne_of_lt (Nat.lt_succ_of_lt this)⟩
      rw [List.mem_singleton] at m
      exact Nat.ne_of_lt this m
    refine wpAny_pure ⟨plainId_quiet PySem.F.plain_max_loop _, ?_⟩
    rw [sz]
    refine mx_first (S := s.heap.objs.size + 1) (dv := dv) Wk (fun i j => decide (numAt xs i > numAt xs j)) (CmpOf.ints_gt (numAt xs) fun _ _ => intItems_at) nS (Wk.frame _ _ _ hI fun b _ o e => Heap.get?_push_of_some _ e) (by rw [← sz]; exact Heap.get?_push_size _ rfl) (fun h0 v h' tk g k => ?_) (fun h1 v h' tk g k => ?_)
    · subst g
      exact k0 (by simpa [intItems] using h0) h' tk fun b o e => k b o (old b o e).1 (old b o e).2 (Heap.get?_push_of_some _ (Heap.get?_push_of_some _ e))
    · exact k1 (by simpa [intItems] using h1) v h' tk (by simpa [intItems] using g) fun b o e => k b o (old b o e).1 (old b o e).2 (Heap.get?_push_of_some _ (Heap.get?_push_of_some _ e))
  refine wpAny_call (codeAny_call_builtin PySem.F.plain_max PySem.F.entry_max ?_)
  simp only [checkBuiltinCall, PySem.F.kind_max]
  cases q : Manifest.signature? "max" with
  | none => exact wpAny_pure fin
  | some sig =>
    have ha := mx_args (.ref l) dv
    simp only [argsOk, q] at ha
    show wpAny _ A.in1 (Bind.checkArgs "max" sig ⟨[.ref l], kwD dv⟩) _ _ s
    rw [show Bind.checkArgs "max" sig ⟨[.ref l], kwD dv⟩ = pure () from ha]
    exact wpAny_pure fin
end
section
variable {X : Cx}
/-- max(xs, default=d) -/
def rMaxDf (K : PySem.W.Frag) : List V → List V → Hp → VK → Prop := fun vs zs H Q => ∃ (a : Addr) (ns : List Int) (d : Int), vs = [.ref a] ∧ zs = [.int d] ∧ SqL K H a (ns.map V.int) ∧ ∀ m : Int, (ns = [] → m = d) → (ns ≠ [] → m ∈ ns ∧ ∀ y ∈ ns, y ≤ m) → Q (.int m) H
theorem cr_maxDf (hc : X.calm = true) : CallRK X (.builtin "max") [Str.ofString "default"] (rMaxDf X.K) := by
  intro pins s σ H vs zs us ws Q I r rz h
  obtain ⟨a, ns, d, rfl, rfl, hs, q⟩ := h
  obtain ⟨dv, rfl, rd⟩ := rz.one
  obtain ⟨its, rv, hl, _⟩ := I.list hs
  rw [Vals.ref1 r]
  obtain ⟨xs, e⟩ := rv.ints.allInts.items
  have hn : numsOf (intItems xs).toList = ns := by
    rw [← e]
    exact rv.ints.numsOf
  rw [nums_intItems] at hn
  have hl' := hl.isList
  rw [e] at hl'
  have ln : ns.length = xs.size := by rw [← hn, List.length_map, Array.length_toList]
  refine max_dflt (I.ok.hd hc) hl' (fun h0 h' tk k => ?_) (fun h1 v h' tk hv k => ?_)
  · have e0 : ns = [] := List.eq_nil_of_length_eq_zero (by omega)
    exact ⟨.int d, H, I.kept k, rd, q d (fun _ => rfl) fun z => absurd e0 z⟩
  · obtain ⟨t, rfl⟩ := intItems_at hv
    obtain ⟨b1, b2⟩ := argBest_gt (numAt xs) (xs.size - 1)
    have ne : ns ≠ [] := fun z => by
      rw [z] at ln
      simp at ln
      omega
    refine ⟨.int _, H, I.kept k, ⟨_, rfl⟩, q _ (fun z => absurd z ne) fun _ => ⟨?_, fun y hy => ?_⟩⟩
    · rw [numAt_eq, hn]
      exact PySem.getD_mem (by omega)
    · obtain ⟨j, hj, rfl⟩ := mem_getD hy
      rw [← hn, ← numAt_eq]
      exact b2 j (by omega)
end
end KB
set_option Elab.async false
set_option linter.all false
set_option maxRecDepth 100000
set_option maxHeartbeats 4000000
/-! y = {k: v for ..}, y a local name. -/
namespace KB
open PySem PySem.Spec PyProof.Rows L2
theorem ps_setDc {X : Cx} {i : Nat} {y : Str} {py : Pos} {kx vx tg iter : Expr} {ifs : List Expr} {scope : Scope} {own : List (Str × Nat)} {pos spos : Pos} {wi : TI} {g : TG} {tt : TT} {tk tv : TE}
    (hc : X.calm = true) (hN : X.N.Nodup) (hy : X.N[i]? = some y) (hl : X.env.scope.names.lookup y = some .local) (sw : swapsWith (.DictComp kx vx [⟨tg, iter, ifs, 0⟩] scope pos) (some (.Name y py)) spos.line X.env = pure true)
    (hi : PI X tg iter wi) (ok : BlkOk X.N X.env.scope scope own)
    (hg : ∀ (s : Shared) (H : Hp) (C : Addr) (cl : List (Str × Addr)) (fp : List Addr), PG (X.blk s H scope (compEnvC scope cl C X.env) fp) tg g) (ht : ∀ (s : Shared) (H : Hp) (C : Addr) (cl : List (Str × Addr)) (fp : List Addr), PTs (X.blk s H scope (compEnvC scope cl C X.env) fp) ifs tt)
    (hk : ∀ (s : Shared) (H : Hp) (C : Addr) (cl : List (Str × Addr)) (fp : List Addr), PE (X.blk s H scope (compEnvC scope cl C X.env) fp) kx tk) (hv : ∀ (s : Shared) (H : Hp) (C : Addr) (cl : List (Str × Addr)) (fp : List Addr), PE (X.blk s H scope (compEnvC scope cl C X.env) fp) vx tv)
    (hs : ∀ x, foldedSetIterable iter X.env x = pure x := by intro _; rfl) : PS X (.Assign [.Name y py] (.DictComp kx vx [⟨tg, iter, ifs, 0⟩] scope pos) spos) (tAsg (tDc wi g tt tk tv (own.map (·.2))) (gName i)) := by
  refine ⟨fun pins s σ H D I h => ?_⟩
  rw [exec_Assign_Name_used _ _ _ _ sw]
  refine wpAny_bind (wpAny_standAt (wpAny_bind ?_))
  have h' : tDc wi g tt tk tv (own.map (·.2)) σ H (fun x G => gName i x σ G D.nx) := h
  have run := dc_core (use := some (assign (.Name y py) X.env)) (pos := pos) (pos' := firstIterPos [⟨tg, iter, ifs, 0⟩] pos) (Qf := fun _ s' => SP X pins D .next s') hc hN I hi ok hg ht hk hv hs h' fun L C s' m G J q hn f => by
    show wpAny _ _ (assign (.Name y py) X.env (.ref L)) _ _ _
    refine wpAny_assign_Name (store_ok2 (v := V.ref L) J hN hy (.inl hl) rfl (fun s2 J2 ⟨a, sb, ha⟩ => ?_) (.inr hl))
    obtain ⟨f0, f1, f2, f3, f4, f5⟩ := f
    have ne : C ≠ a := by
      rcases ha with z | z
      · rw [z]
        exact f1
      · exact fun e => f4 y a z e.symm
    exact ⟨m, hn.sameBut sb ne, fun h3 sb3 => ⟨_, G, J2.turned (t' := s2.toks) (fun b o hb e => (sb3.2 b hb).trans e) f0 f1 f3 f4 f5, q⟩⟩
  refine wpAny_bind (thn run fun _ s' hq => ?_)
  exact wpAny_pure (wpAny_pure hq)
end KB
set_option Elab.async false
set_option linter.all false
set_option maxRecDepth 100000
set_option maxHeartbeats 4000000
/-! Codes, pictures, values of any kind. -/
namespace K06
open PySem PySem.Spec PyProof.Rows L2 KB
structure FreeS (mg : Str → Option Value) : Prop extends Free mg where
  tstr : mg "str" = none
  sorted : mg "sorted" = none
theorem SqT_up {K : PySem.W.Frag} {H H' : Hp} {a : Addr} {xs : List V} (k : Same H H') (h : SqT K H a xs) : SqT K H' a xs := by
  rcases h with (h | ⟨o, h⟩) | h
  · exact .inl (.inl (k _ _ h))
  · exact .inl (.inr ⟨o, k _ _ h⟩)
  · exact .inr h
def rTupOf (K : PySem.W.Frag) : List V → Hp → VK → Prop := fun xs H Q => ∃ p ys, xs = [V.ref p] ∧ ((SqL K H p ys ∧ ∀ l, H l = none → Q (V.ref l) (upd H l (.tup ys))) ∨ (SqT K H p ys ∧ Q (V.ref p) H))
theorem call_tuple_ofR {X : Cx} : CallR X (.type "tuple") (rTupOf X.K) := call_tuple_of
def rLenS (K : PySem.W.Frag) : List V → Hp → VK → Prop := fun xs H Q => ∃ p ys, xs = [V.ref p] ∧ (SqL K H p ys ∨ SqT K H p ys) ∧ Q (.int (ys.length : Int)) H
theorem call_lenR {X : Cx} : CallR X (.builtin "len") (rLenS X.K) := call_len_seq
abbrev rIsN : R2 := fun x y H Q => y = V.non ∧ Q (V.bl (decide (x = V.non))) H
abbrev rNotN : R2 := fun x y H Q => y = V.non ∧ Q (V.bl !decide (x = V.non)) H
abbrev numsV (ns : List Nat) : List V := ns.map fun i : Nat => V.int (i : Int)
theorem numsV_len (ns : List Nat) : (numsV ns).length = ns.length := List.length_map _
theorem numsV_at {ns : List Nat} {i : Nat} {v : V} (h : (numsV ns)[i]? = some v) : ∃ hi : i < ns.length, v = .int (ns[i] : Int) := by
  rw [List.getElem?_map] at h
  obtain ⟨n, e1, e2⟩ := Option.map_eq_some_iff.mp h
  obtain ⟨hi, e3⟩ := List.getElem?_eq_some_iff.mp e1
  exact ⟨hi, by rw [← e2, ← e3]⟩
theorem numsV_get {ns : List Nat} {i : Nat} (hi : i < ns.length) : (numsV ns)[i]? = some (.int (ns[i] : Int)) := by
  rw [List.getElem?_map, List.getElem?_eq_getElem hi]
  rfl
/-- a code: pages of counts -/
def CodeAt (H : Hp) (a : Addr) (c : List (List Nat)) : Prop := ∃ xs, H a = some (.lst xs) ∧ Paired (LsAt H) c xs
theorem CodeAt.same {H H' : Hp} {a : Addr} {c : List (List Nat)} (k : Same H H') : CodeAt H a c → CodeAt H' a c := fun ⟨xs, h, p⟩ => ⟨xs, k _ _ h, paired_mono (fun _ _ q => q.same k) p⟩
theorem CodeAt.at {H : Hp} {a : Addr} {c : List (List Nat)} (h : CodeAt H a c) : ∃ xs, H a = some (.lst xs) ∧ xs.length = c.length ∧ ∀ (i : Nat) (hi : i < c.length), ∃ p, xs[i]? = some (.ref p) ∧ H p = some (.lst (numsV c[i])) := by
  obtain ⟨xs, h1, h2⟩ := h
  refine ⟨xs, h1, h2.length.symm, fun i hi => ?_⟩
  obtain ⟨y, e, T, rfl, hT⟩ := paired_get1 h2 (List.getElem?_eq_getElem hi)
  exact ⟨T, e, hT⟩
/-- n pages of m cells, no two alike -/
structure Good (c : List (List Nat)) (m : Nat) : Prop where
  two : 2 ≤ c.length
  few : c.length ≤ 30
  cells : 1 ≤ m
  small : m ≤ 100
  len : ∀ r ∈ c, r.length = m
  nd : c.Nodup
def oV : Option Nat → V
  | none => .non
  | some n => .int (n : Int)
theorem sqT_ty {K : PySem.W.Frag} {H : Hp} {a : Addr} {xs : List V} (h : SqT K H a xs) : TyX K H (.ref a) (.type "tuple") := by
  rcases h with (h | ⟨o, h⟩) | ⟨o, its, n, e1, e2, _⟩
  · exact .base (.tup h)
  · exact .fTuple h
  · exact .kTuple e1 e2
/-- told a count or not -/
def CntV (K : PySem.W.Frag) (H : Hp) (x : V) (c : Bool) : Prop := ∃ t i b, TyX K H x (.type t) ∧ kitB t "int" = some i ∧ kitB t "bool" = some b ∧ ((i && !b) = true → ∃ j : Int, x = .int j ∧ c = decide (j ≥ 0)) ∧ ((i && !b) = false → c = false)
theorem CntV.int {K : PySem.W.Frag} {H : Hp} (j : Int) : CntV K H (.int j) (decide (j ≥ 0)) := ⟨"int", true, false, .base (.int j), by decide +kernel, by decide +kernel, fun _ => ⟨j, rfl, rfl⟩, fun z => (by cases z)⟩
theorem CntV.nat {K : PySem.W.Frag} {H : Hp} (j : Nat) : CntV K H (.int (j : Int)) true := by
  have := CntV.int (K := K) (H := H) (j : Int)
  rwa [decide_eq_true (by omega)] at this
theorem CntV.bl {K : PySem.W.Frag} {H : Hp} (b : Bool) : CntV K H (.bl b) false := ⟨"bool", true, true, .base (.bl b), by decide +kernel, by decide +kernel, fun z => (by cases z), fun _ => rfl⟩
theorem CntV.str {K : PySem.W.Frag} {H : Hp} (z : Str) : CntV K H (.str z) false := ⟨"str", false, false, .base (.str z), by decide +kernel, by decide +kernel, fun z => (by cases z), fun _ => rfl⟩
theorem CntV.lst {K : PySem.W.Frag} {H : Hp} {a : Addr} {xs : List V} (h : H a = some (.lst xs)) : CntV K H (.ref a) false := ⟨"list", false, false, .base (.lst h), by decide +kernel, by decide +kernel, fun z => (by cases z), fun _ => rfl⟩
theorem TyX_up {K : PySem.W.Frag} {H H' : Hp} (k : Same H H') {x : V} {t : Value} (h : TyX K H x t) : TyX K H' x t := by
  cases h with
  | base b =>
    refine .base ?_
    cases b <;> first
      | (constructor; done)
      | exact .lst (k _ _ (by assumption))
      | exact .tup (k _ _ (by assumption))
      | exact .dK (k _ _ (by assumption))
      | exact .dT (k _ _ (by assumption))
      | exact .frz (k _ _ (by assumption))
      | exact .ins (k _ _ (by assumption)) (by assumption) (by assumption) (by assumption) (by assumption) (by assumption)
  | byt b => exact .byt b
  | set h => exact .set (k _ _ h)
  | kList a b => exact .kList a b
  | kTuple a b => exact .kTuple a b
  | kDict a b => exact .kDict a b
  | fTuple h => exact .fTuple (k _ _ h)
  | fDict h => exact .fDict (k _ _ h)
theorem CntV.up {K : PySem.W.Frag} {H H' : Hp} (k : Same H H') {x : V} {c : Bool} : CntV K H x c → CntV K H' x c := fun ⟨t, i, b, h, r⟩ => ⟨t, i, b, TyX_up k h, r⟩
/-- an element of a value: None, or a thing that is a count or is none -/
def EltV (K : PySem.W.Frag) (H : Hp) (x : V) (c : Bool) : Prop := (x = .non ∧ c = true) ∨ (x ≠ .non ∧ CntV K H x c)
theorem EltV.up {K : PySem.W.Frag} {H H' : Hp} (k : Same H H') {x : V} {c : Bool} : EltV K H x c → EltV K H' x c := Or.imp_right fun ⟨n, h⟩ => ⟨n, h.up k⟩
/-- a value that can't be a picture of m cells -/
def Odd (K : PySem.W.Frag) (H : Hp) (m : Nat) (v : V) : Prop := (∃ t, TyX K H v (.type t) ∧ kitB t "list" = some false) ∨
  ∃ (a : Addr) (xs : List V), v = .ref a ∧ H a = some (.lst xs) ∧ xs.length ≤ 1000 ∧ (xs.length ≠ m ∨ ∃ bs : List Bool, bs.length = xs.length ∧ false ∈ bs ∧ ∀ (i : Nat) (x : V) (b : Bool), xs[i]? = some x → bs[i]? = some b → EltV K H x b)
theorem Odd.up {K : PySem.W.Frag} {H H' : Hp} (k : Same H H') {m : Nat} {v : V} : Odd K H m v → Odd K H' m v := by
  rintro (⟨t, h, e⟩ | ⟨a, xs, e, h, l, r⟩)
  · exact .inl ⟨t, TyX_up k h, e⟩
  · exact .inr ⟨a, xs, e, k _ _ h, l, r.imp id fun ⟨bs, b1, b2, b3⟩ => ⟨bs, b1, b2, fun i x b e1 e2 => (b3 i x b e1 e2).up k⟩⟩
/-- a value: a picture of m cells, or none -/
inductive ValAt (K : PySem.W.Frag) (H : Hp) (m : Nat) : V → Option (List (Option Nat)) → Prop
  | pic {a : Addr} {os : List (Option Nat)} (h : H a = some (.lst (os.map oV))) (l : os.length = m) : ValAt K H m (.ref a) (some os)
  | odd {v : V} (h : Odd K H m v) : ValAt K H m v none
theorem ValAt.up {K : PySem.W.Frag} {H H' : Hp} (k : Same H H') {m : Nat} {v : V} {r : Option (List (Option Nat))} (h : ValAt K H m v r) : ValAt K H' m v r := by
  cases h with
  | pic h l => exact .pic (k _ _ h) l
  | odd h => exact .odd (h.up k)
/-- cells whose sign is of neither page -/
def offN (r1 r2 : List Nat) (os : List (Option Nat)) : Nat := ((List.range os.length).filter fun i => match os.getD i none with
  | none => false
  | some n => decide (n ≠ r1.getD i 0) && decide (n ≠ r2.getD i 0)).length
def shB (r1 r2 : List Nat) (r : Option (List (Option Nat))) (ch un : Nat) : Bool := match r with
  | none => false
  | some os => decide (os.count none ≤ un) && decide (offN r1 r2 os ≤ ch)
end K06
set_option Elab.async false
set_option linter.all false
set_option maxRecDepth 100000
set_option maxHeartbeats 8000000
namespace K06
open PySem PySem.Spec PyProof.Rows L2 KB RZ
abbrev s_exact : Stmt := top 38
abbrev N_exact : List Str := ["_law_mine", "_law_theirs", "_law_alike", "_law_a", "_law_b", "_law_key"]
theorem sc_exact : FnScope N_exact ["_law_mine", "_law_theirs"] (defScope s_exact) := ⟨rfl, rfl, rfl, by decide +kernel, rfl, by decide +kernel, by decide +kernel⟩
section
variable {P : Program} {w : World} {K : PySem.W.Frag} {mg : Str → Option Value} {base : Heap} {f : Addr} {fd : FuncData}
theorem ok_exact (F : FnP K "_law_exact" s_exact f fd) (Z : FreeS mg) (gE : mg "_law_exact" = some (.ref f)) : ∀ n : Nat, FnOk P w K mg base CX0 (n + 1) f fd ["_law_mine", "_law_theirs"] (spExact n) := by
  have bE : Binds K fd ["_law_mine", "_law_theirs"] [] := F.bindsN fun _ _ _ _ _ _ us hl => match us, hl with | [_, _], _ => rfl
  have kitF : ∀ {t : String}, kitB t "list" = some false → kitB t "tuple" = some false → PySem.W.kitAny K (.type t) [.type "list", .type "tuple"] = some false := fun h1 h2 =>
    kitAny_cons (kit_ty h1) (fun _ => kitAny_cons (kit_ty h2) (fun _ => kitAny_nil) (fun z => nomatch z)) (fun z => nomatch z)
  have la : kitB "list" "list" = some true := by decide +kernel
  have lt : kitB "list" "tuple" = some false := by decide +kernel
  have ta : kitB "tuple" "tuple" = some true := by decide +kernel
  have tl : kitB "tuple" "list" = some false := by decide +kernel
  intro n
  induction n with
  | zero =>
    refine F.ok sc_exact (fun vs H Q E h => ?_) (fun cdv A outer s H vs Q E hr h => ?_)
    · obtain ⟨x, y, d, rfl, _⟩ := h
      rfl
    · obtain ⟨x, y, d, rfl, hx, hy, k⟩ := h
      have hx : FlatD x d := hx
      obtain rfl : y = x := FlatD.eq hy hx
      have nd := sc_exact.nd
      refine ⟨_, PSs.nox (pss_cons (ps_if (pt_val (pe_callB call_isiT (by rfl) Z.isi (by decide +kernel) (pa_cons (pv 0) (pa_cons (pe_tup (pa_cons (pe_bltn (v := .ty "list") (by rfl) Z.tlist (by decide +kernel) rfl) (pa_cons (pe_bltn (v := .ty "tuple") (by rfl) Z.ttuple (by decide +kernel) rfl) (pa_nil)))) pa_nil)))) (pss_cons ps_dead (pss_one ps_dead)) (pss_nil))
      (pss_cons (ps_if (pt_val (pe_callB call_isi (by rfl) Z.isi (by decide +kernel) (pa_cons (pv 0) (pa_cons (pe_bltn (v := .ty "dict") (by rfl) Z.tdict (by decide +kernel) rfl) pa_nil)))) (pss_cons ps_dead (pss_one ps_dead)) (pss_nil))
      (pss_cons (ps_set (i := 2) nd rfl (Or.inl rfl) (pe_cmpR op_eq (pe_callB call_isi (by rfl) Z.isi (by decide +kernel) (pa_cons (pv 0) (pa_cons (pe_bltn (v := .ty "int") (by rfl) Z.int (by decide +kernel) rfl) pa_nil))) (pe_callB call_isi (by rfl) Z.isi (by decide +kernel) (pa_cons (pv 1) (pa_cons (pe_bltn (v := .ty "int") (by rfl) Z.int (by decide +kernel) rfl) pa_nil))) (nomark _)))
      (pss_one (ps_ret (pe_and (pv 2) (pe_and (pe_cmpR op_eq (pe_callB call_isi (by rfl) Z.isi (by decide +kernel) (pa_cons (pv 0) (pa_cons (pe_bltn (v := .ty "bool") (by rfl) Z.tbool (by decide +kernel) rfl) pa_nil))) (pe_callB call_isi (by rfl) Z.isi (by decide +kernel) (pa_cons (pv 1) (pa_cons (pe_bltn (v := .ty "bool") (by rfl) Z.tbool (by decide +kernel) rfl) pa_nil))) (nomark _)) (pe_one (pe_cmpR op_eq (pv 0) (pv 1) (nomark _)))))))))), ?_⟩
      refine ⟨_, rfl, (by show 2 ≤ sizeLine; decide), fun T hT => ?_⟩
      have s1 : Same H (upd H T (.tup [.ty "list", .ty "tuple"])) := Same.updf hT
      obtain ⟨t', ty', k1', k2', k3', i', b', k4', k5'⟩ := FlatD.ty (K := K) (H := upd H T (.tup [.ty "list", .ty "tuple"])) hx
      refine ⟨y, T, [.ty "list", .ty "tuple"], .type t', [.type "list", .type "tuple"], false, rfl, upd_same, .cons (.ty _) (.cons (.ty _) .nil), ty', kitF k1' k2', false, rfl, iteF ?_⟩
      refine ⟨_, rfl, y, .ty "dict", .type t', .type "dict", false, rfl, .ty _, ty', kit_ty k3', false, rfl, iteF ?_⟩
      refine ⟨_, rfl, y, .ty "int", .type t', .type "int", i', rfl, .ty _, ty', kit_ty k4', _, rfl, y, .ty "int", .type t', .type "int", i', rfl, .ty _, ty', kit_ty k4', rfl, ?_⟩
      rw [decide_eq_true (rfl : V.bl i' = V.bl i')]
      refine ⟨_, rfl, true, rfl, iteT ?_⟩
      refine ⟨_, rfl, y, .ty "bool", .type t', .type "bool", b', rfl, .ty _, ty', kit_ty k5', _, rfl, y, .ty "bool", .type t', .type "bool", b', rfl, .ty _, ty', kit_ty k5', rfl, ?_⟩
      rw [decide_eq_true (rfl : V.bl b' = V.bl b')]
      refine ⟨true, rfl, iteT ?_⟩
      refine ⟨_, rfl, _, rfl, FlatD.scal hx, ?_⟩
      rw [decide_eq_true (rfl : y = y)]
      exact k _ s1
  | succ n ih =>
    refine F.ok sc_exact (fun vs H Q E h => ?_) (fun cdv A outer s H vs Q E hr h => ?_)
    · obtain ⟨x, y, d, rfl, _⟩ := h
      rfl
    · obtain ⟨x, y, d, rfl, hx, hy, k⟩ := h
      have nd := sc_exact.nd
      refine ⟨_, PSs.nox (pss_cons (ps_if (pt_val (pe_callB call_isiT (by rfl) Z.isi (by decide +kernel) (pa_cons (pv 0) (pa_cons (pe_tup (pa_cons (pe_bltn (v := .ty "list") (by rfl) Z.tlist (by decide +kernel) rfl) (pa_cons (pe_bltn (v := .ty "tuple") (by rfl) Z.ttuple (by decide +kernel) rfl) (pa_nil)))) pa_nil)))) (pss_cons (ps_set (i := 2) nd rfl (Or.inl rfl) (pe_and (pe_cmpR op_eq (pe_callB call_isi (by rfl) Z.isi (by decide +kernel) (pa_cons (pv 1) (pa_cons (pe_bltn (v := .ty "list") (by rfl) Z.tlist (by decide +kernel) rfl) pa_nil))) (pe_callB call_isi (by rfl) Z.isi (by decide +kernel) (pa_cons (pv 0) (pa_cons (pe_bltn (v := .ty "list") (by rfl) Z.tlist (by decide +kernel) rfl) pa_nil))) (nomark _)) (pe_one (pe_cmpR op_eq (pe_callB call_isi (by rfl) Z.isi (by decide +kernel) (pa_cons (pv 1) (pa_cons (pe_bltn (v := .ty "tuple") (by rfl) Z.ttuple (by decide +kernel) rfl) pa_nil))) (pe_callB call_isi (by rfl) Z.isi (by decide +kernel) (pa_cons (pv 0) (pa_cons (pe_bltn (v := .ty "tuple") (by rfl) Z.ttuple (by decide +kernel) rfl) pa_nil))) (nomark _)))))
      (pss_one (ps_ret (pe_and (pv 2) (pe_and (pe_cmpR op_eq (pe_callB call_len_seq (by rfl) Z.len (by decide +kernel) (pa_cons (pv 0) (pa_nil))) (pe_callB call_len_seq (by rfl) Z.len (by decide +kernel) (pa_cons (pv 1) (pa_nil))) (nomark _)) (pe_one (pe_callB (cr_all rfl) (by rfl) Z.all (by decide +kernel) (pa_cons (pe_lc (own := [("_law_a", 3), ("_law_b", 4)]) (g := gTup K 2 (gCons (gName 3) (gCons (gName 4) (gNil)))) (tt := tYes) (te := tCall (spExact n) [] E0 (tCons (tVar 3) (tCons (tVar 4) tNil))) (by rfl) nd (pi_zipA (by rfl) Z.zip (pa_cons (pv 0) (pa_cons (pv 1) pa_nil)))
          (blkOk_by (own := [("_law_a", 3), ("_law_b", 4)]) (N := N_exact) (sc := defScope s_exact) (by decide +kernel)) (fun _ _ _ _ _ => pg_tup rfl (pgs_cons (pg_name (i := 3) nd rfl (Or.inl rfl)) (pgs_cons (pg_name (i := 4) nd rfl (Or.inl rfl)) (pgs_nil)))) (fun _ _ _ _ _ => pts_nil)
          (fun _ _ _ _ _ => pe_call ih hr rfl gE F.kp bE .nil pass0 (pa_cons (pv 3) (pa_cons (pv 4) pa_nil)))) (pa_nil))))))))) (pss_nil))
      (pss_cons (ps_if (pt_val (pe_callB call_isi (by rfl) Z.isi (by decide +kernel) (pa_cons (pv 0) (pa_cons (pe_bltn (v := .ty "dict") (by rfl) Z.tdict (by decide +kernel) rfl) pa_nil)))) (pss_cons ps_dead (pss_one ps_dead)) (pss_nil))
      (pss_cons (ps_set (i := 2) nd rfl (Or.inl rfl) (pe_cmpR op_eq (pe_callB call_isi (by rfl) Z.isi (by decide +kernel) (pa_cons (pv 0) (pa_cons (pe_bltn (v := .ty "int") (by rfl) Z.int (by decide +kernel) rfl) pa_nil))) (pe_callB call_isi (by rfl) Z.isi (by decide +kernel) (pa_cons (pv 1) (pa_cons (pe_bltn (v := .ty "int") (by rfl) Z.int (by decide +kernel) rfl) pa_nil))) (nomark _)))
      (pss_one (ps_ret (pe_and (pv 2) (pe_and (pe_cmpR op_eq (pe_callB call_isi (by rfl) Z.isi (by decide +kernel) (pa_cons (pv 0) (pa_cons (pe_bltn (v := .ty "bool") (by rfl) Z.tbool (by decide +kernel) rfl) pa_nil))) (pe_callB call_isi (by rfl) Z.isi (by decide +kernel) (pa_cons (pv 1) (pa_cons (pe_bltn (v := .ty "bool") (by rfl) Z.tbool (by decide +kernel) rfl) pa_nil))) (nomark _)) (pe_one (pe_cmpR op_eq (pv 0) (pv 1) (nomark _)))))))))), ?_⟩
      rcases hx with hx | ⟨a, xs, ds, rfl, lx, l1, tx, kx⟩
      · have hy : FlatD y d := by
          rcases hy with hy | ⟨b, ys, es, rfl, ly, l2, ty, ky⟩
          · exact hy
          · rcases ty with ⟨_, rfl⟩ | ⟨_, rfl⟩
            · exact (FlatD.noL hx).elim
            · exact (FlatD.noT hx).elim
        obtain rfl : y = x := FlatD.eq hy hx
        refine ⟨_, rfl, (by show 2 ≤ sizeLine; decide), fun T hT => ?_⟩
        have s1 : Same H (upd H T (.tup [.ty "list", .ty "tuple"])) := Same.updf hT
        obtain ⟨t', ty', k1', k2', k3', i', b', k4', k5'⟩ := FlatD.ty (K := K) (H := upd H T (.tup [.ty "list", .ty "tuple"])) hx
        refine ⟨y, T, [.ty "list", .ty "tuple"], .type t', [.type "list", .type "tuple"], false, rfl, upd_same, .cons (.ty _) (.cons (.ty _) .nil), ty', kitF k1' k2', false, rfl, iteF ?_⟩
        refine ⟨_, rfl, y, .ty "dict", .type t', .type "dict", false, rfl, .ty _, ty', kit_ty k3', false, rfl, iteF ?_⟩
        refine ⟨_, rfl, y, .ty "int", .type t', .type "int", i', rfl, .ty _, ty', kit_ty k4', _, rfl, y, .ty "int", .type t', .type "int", i', rfl, .ty _, ty', kit_ty k4', rfl, ?_⟩
        rw [decide_eq_true (rfl : V.bl i' = V.bl i')]
        refine ⟨_, rfl, true, rfl, iteT ?_⟩
        refine ⟨_, rfl, y, .ty "bool", .type t', .type "bool", b', rfl, .ty _, ty', kit_ty k5', _, rfl, y, .ty "bool", .type t', .type "bool", b', rfl, .ty _, ty', kit_ty k5', rfl, ?_⟩
        rw [decide_eq_true (rfl : V.bl b' = V.bl b')]
        refine ⟨true, rfl, iteT ?_⟩
        refine ⟨_, rfl, _, rfl, FlatD.scal hx, ?_⟩
        rw [decide_eq_true (rfl : y = y)]
        exact k _ s1
      · rcases hy with hy | ⟨b, ys, es, rfl, ly, l2, ty, ky⟩
        · rcases tx with ⟨_, rfl⟩ | ⟨_, rfl⟩
          · exact (FlatD.noL hy).elim
          · exact (FlatD.noT hy).elim
        refine ⟨_, rfl, (by show 2 ≤ sizeLine; decide), fun T hT => ?_⟩
        have s1 : Same H (upd H T (.tup [.ty "list", .ty "tuple"])) := Same.updf hT
        have ll : (1000 : Nat) ≤ 100000 := by decide
        have fin : ∀ (H2 : Hp), Same H H2 → ∀ (D : Addr), H2 D = some (.lst ((List.range xs.length).filterMap fun _ => some (V.bl true))) → ∃ (a : Addr) (bs : List Bool), [V.ref D] = [V.ref a] ∧ SqL K H2 a (bs.map V.bl) ∧ Q (.bl (bs.all id)) H2 := fun H2 s2 D hR => by
          obtain ⟨bs, hB, hb'⟩ := all_bits (K := K) hR
          refine ⟨D, bs, rfl, hB, ?_⟩
          rw [hb']
          exact k H2 s2
        rcases tx with ⟨ha, rfl⟩ | ⟨ha, rfl⟩
        · rcases ty with ⟨hb, e⟩ | ⟨hb, e⟩
          · cases e
            have ha1 := s1 _ _ ha
            have hb1 := s1 _ _ hb
            refine ⟨.ref a, T, [.ty "list", .ty "tuple"], .type "list", [.type "list", .type "tuple"], true, rfl, upd_same, .cons (.ty _) (.cons (.ty _) .nil), .base (.lst ha1), kitAny_cons (kit_ty la) (fun z => nomatch z) (fun _ => rfl), true, rfl, iteT ?_⟩
            refine ⟨_, rfl, .ref b, .ty "list", .type "list", .type "list", true, rfl, .ty _, .base (.lst hb1), kit_ty la, _, rfl, .ref a, .ty "list", .type "list", .type "list", true, rfl, .ty _, .base (.lst ha1), kit_ty la, rfl, true, rfl, iteT ?_⟩
            refine ⟨_, rfl, .ref b, .ty "tuple", .type "list", .type "tuple", false, rfl, .ty _, .base (.lst hb1), kit_ty lt, _, rfl, .ref a, .ty "tuple", .type "list", .type "tuple", false, rfl, .ty _, .base (.lst ha1), kit_ty lt, rfl, ?_⟩
            refine ⟨_, rfl, true, rfl, iteT ?_⟩
            refine ⟨_, rfl, a, xs, rfl, Or.inl (SqL.of ha1), _, rfl, b, ys, rfl, Or.inl (SqL.of hb1), rfl, ?_⟩
            rw [decide_eq_true (show V.int (xs.length : Int) = V.int (ys.length : Int) by rw [lx, ly])]
            refine ⟨true, rfl, iteT ?_⟩
            refine ⟨_, rfl, _, rfl, a, b, xs, ys, rfl, Or.inl ⟨SqL.of ha1, SqL.of hb1, fun D hD => ?_⟩⟩
            refine lc_sel (n := xs.length) (walk_zip (K := K) (a := a) (b := b) (xs := xs) (ys := ys) (by omega)) (fun _ => some (.bl true)) (by omega) hD (fun H2 s2 => ⟨SqL.of (s2 _ _ ha1), SqL.of (s2 _ _ hb1)⟩) ?_ ?_
            · rintro i v H2 H3 Qy Qn hi sH ⟨T2, x1, x2, rfl, nT, rfl, g1, g2⟩ ky' kn
              dsimp only at g1 g2
              refine ⟨T2, [_, _], rfl, .inl (.inl upd_same), rfl, _, [_], rfl, _, [], rfl, rfl, ?_⟩
              have sT : Same H2 (upd H2 T2 (.tup [x1, x2])) := Same.updf nT
              have gd : ds[i]? = some (ds[i]'(by omega)) := List.getElem?_eq_getElem _
              exact ⟨rfl, _, rfl, _, rfl, x1, x2, _, rfl, (kx i x1 _ g1 gd).same (s1.trans (sH.trans sT)), (ky i x2 _ g2 gd).same (s1.trans (sH.trans sT)), fun H5 s5 => ky' _ _ (sT.trans s5) rfl⟩
            · intro H2 s2 hR
              exact fin H2 (s1.trans s2) D hR
          · cases e
        · rcases ty with ⟨hb, e⟩ | ⟨hb, e⟩
          · cases e
          · cases e
            have ha1 := s1 _ _ ha
            have hb1 := s1 _ _ hb
            refine ⟨.ref a, T, [.ty "list", .ty "tuple"], .type "tuple", [.type "list", .type "tuple"], true, rfl, upd_same, .cons (.ty _) (.cons (.ty _) .nil), .base (.tup ha1), kitAny_cons (kit_ty tl) (fun _ => kitAny_cons (kit_ty ta) (fun z => nomatch z) (fun _ => rfl)) (fun z => nomatch z), true, rfl, iteT ?_⟩
            refine ⟨_, rfl, .ref b, .ty "list", .type "tuple", .type "list", false, rfl, .ty _, .base (.tup hb1), kit_ty tl, _, rfl, .ref a, .ty "list", .type "tuple", .type "list", false, rfl, .ty _, .base (.tup ha1), kit_ty tl, rfl, true, rfl, iteT ?_⟩
            refine ⟨_, rfl, .ref b, .ty "tuple", .type "tuple", .type "tuple", true, rfl, .ty _, .base (.tup hb1), kit_ty ta, _, rfl, .ref a, .ty "tuple", .type "tuple", .type "tuple", true, rfl, .ty _, .base (.tup ha1), kit_ty ta, rfl, ?_⟩
            refine ⟨_, rfl, true, rfl, iteT ?_⟩
            refine ⟨_, rfl, a, xs, rfl, Or.inr (Or.inl (.inl ha1)), _, rfl, b, ys, rfl, Or.inr (Or.inl (.inl hb1)), rfl, ?_⟩
            rw [decide_eq_true (show V.int (xs.length : Int) = V.int (ys.length : Int) by rw [lx, ly])]
            refine ⟨true, rfl, iteT ?_⟩
            refine ⟨_, rfl, _, rfl, a, b, xs, ys, rfl, Or.inr ⟨SqT.of ha1, SqT.of hb1, fun D hD => ?_⟩⟩
            refine lc_sel (n := xs.length) (walk_zipT (K := K) (a := a) (b := b) (xs := xs) (ys := ys) (by omega)) (fun _ => some (.bl true)) (by omega) hD (fun H2 s2 => ⟨SqT.of (s2 _ _ ha1), SqT.of (s2 _ _ hb1)⟩) ?_ ?_
            · rintro i v H2 H3 Qy Qn hi sH ⟨T2, x1, x2, rfl, nT, rfl, g1, g2⟩ ky' kn
              dsimp only at g1 g2
              refine ⟨T2, [_, _], rfl, .inl (.inl upd_same), rfl, _, [_], rfl, _, [], rfl, rfl, ?_⟩
              have sT : Same H2 (upd H2 T2 (.tup [x1, x2])) := Same.updf nT
              have gd : ds[i]? = some (ds[i]'(by omega)) := List.getElem?_eq_getElem _
              exact ⟨rfl, _, rfl, _, rfl, x1, x2, _, rfl, (kx i x1 _ g1 gd).same (s1.trans (sH.trans sT)), (ky i x2 _ g2 gd).same (s1.trans (sH.trans sT)), fun H5 s5 => ky' _ _ (sT.trans s5) rfl⟩
            · intro H2 s2 hR
              exact fin H2 (s1.trans s2) D hR
end
end K06
set_option Elab.async false
set_option linter.all false
set_option maxRecDepth 100000
set_option maxHeartbeats 8000000
namespace K06
open PySem PySem.Spec PyProof.Rows L2 KB
theorem pe_dead {X : Cx} {e : Expr} : PE X e (fun _ _ _ => False) := ⟨fun _ _ _ _ _ _ h => h.elim⟩
/-- what is new in H' -/
def nw (H H' : Hp) : Hp := fun b => match H b with
  | none => H' b
  | some _ => none
theorem nw_at {H H' : Hp} {b : Addr} (h : H b = none) : nw H H' b = H' b := by
  unfold nw
  rw [h]
theorem nw_le (H H' : Hp) : Same (nw H H') H' := fun b o e => by
  unfold nw at e
  split at e
  · exact e
  · cases e
theorem nw_none {H H' : Hp} {b : Addr} {o : HO} (h : nw H H' b = some o) : H b = none := by
  unfold nw at h
  split at h
  · assumption
  · cases h
theorem nw_same {H G G2 : Hp} (k : Same G G2) : Same (nw H G) (nw H G2) := fun b o e => by
  rw [nw_at (nw_none e)]
  exact k _ _ (nw_le _ _ _ _ e)
theorem nw_sub {H G G2 : Hp} (k : Same H G) : Same (nw G G2) (nw H G2) := fun b o e => by
  rw [nw_at (none_back k (nw_none e))]
  exact nw_le _ _ _ _ e
def spSame (n : Nat) : Sp := fun vs H Q _ => ∃ (x : V) (d : PyData), vs = [x] ∧ Tr H n x d ∧ ∀ y H', Same H H' → Tr (nw H H') n y d → Q y H'
abbrev s_same : Stmt := top 37
abbrev N_same : List Str := ["_law_thing", "_law_item", "_law_key"]
theorem sc_same : FnScope N_same ["_law_thing"] (defScope s_same) := ⟨rfl, rfl, rfl, by decide +kernel, rfl, by decide +kernel, by decide +kernel⟩
section
variable {P : Program} {w : World} {K : PySem.W.Frag} {mg : Str → Option Value} {base : Heap} {f : Addr} {fd : FuncData}
theorem ok_same (F : FnP K "_law_same" s_same f fd) (Z : FreeS mg) (gS : mg "_law_same" = some (.ref f)) : ∀ n : Nat, FnOk P w K mg base CX0 (n + 1) f fd ["_law_thing"] (spSame n) := by
  have bS : Binds K fd ["_law_thing"] [] := F.bindsN fun _ _ _ _ _ _ us hl => match us, hl with | [_], _ => rfl
  intro n
  induction n with
  | zero =>
    refine F.ok sc_same (fun vs H Q E h => ?_) (fun cdv A outer s H vs Q E hr h => ?_)
    · obtain ⟨x, d, rfl, _⟩ := h
      rfl
    · obtain ⟨x, d, rfl, hx, k⟩ := h
      have hx : FlatD x d := hx
      have nd := sc_same.nd
      refine ⟨_, PSs.nox (pss_cons (ps_if (pt_val (pe_callB call_isi (by rfl) Z.isi (by decide +kernel) (pa_cons (pv 0) (pa_cons (pe_bltn (v := .ty "dict") (by rfl) Z.tdict (by decide +kernel) rfl) pa_nil)))) (pss_one ps_dead) (pss_nil))
      (pss_cons (ps_if (pt_val (pe_callB call_isi (by rfl) Z.isi (by decide +kernel) (pa_cons (pv 0) (pa_cons (pe_bltn (v := .ty "list") (by rfl) Z.tlist (by decide +kernel) rfl) pa_nil)))) (pss_one ps_dead) (pss_nil))
      (pss_one (ps_ret (pe_ifExp (pt_val (pe_callB call_isi (by rfl) Z.isi (by decide +kernel) (pa_cons (pv 0) (pa_cons (pe_bltn (v := .ty "tuple") (by rfl) Z.ttuple (by decide +kernel) rfl) pa_nil)))) (pe_dead) (pv 0)))))), ?_⟩
      obtain ⟨t', ty', k1', k2', k3', i', b', k4', k5'⟩ := FlatD.ty (K := K) (H := H) hx
      refine ⟨_, rfl, x, .ty "dict", .type t', .type "dict", false, rfl, .ty _, ty', kit_ty k3', false, rfl, iteF ?_⟩
      refine ⟨_, rfl, x, .ty "list", .type t', .type "list", false, rfl, .ty _, ty', kit_ty k1', false, rfl, iteF ?_⟩
      refine ⟨_, rfl, x, .ty "tuple", .type t', .type "tuple", false, rfl, .ty _, ty', kit_ty k2', false, rfl, iteF ?_⟩
      exact ⟨_, rfl, k x H (Same.refl H) (Tr.flat hx)⟩
  | succ n ih =>
    refine F.ok sc_same (fun vs H Q E h => ?_) (fun cdv A outer s H vs Q E hr h => ?_)
    · obtain ⟨x, d, rfl, _⟩ := h
      rfl
    · obtain ⟨x, d, rfl, hx, k⟩ := h
      have nd := sc_same.nd
      have sl : (2000 : Nat) ≤ sizeLine := by decide
      refine ⟨_, PSs.nox (pss_cons (ps_if (pt_val (pe_callB call_isi (by rfl) Z.isi (by decide +kernel) (pa_cons (pv 0) (pa_cons (pe_bltn (v := .ty "dict") (by rfl) Z.tdict (by decide +kernel) rfl) pa_nil)))) (pss_one ps_dead) (pss_nil))
      (pss_cons (ps_if (pt_val (pe_callB call_isi (by rfl) Z.isi (by decide +kernel) (pa_cons (pv 0) (pa_cons (pe_bltn (v := .ty "list") (by rfl) Z.tlist (by decide +kernel) rfl) pa_nil)))) (pss_one (ps_ret (pe_lc (own := [("_law_item", 1)]) (g := gName 1) (tt := tYes) (te := tCall (spSame n) [] E0 (tCons (tVar 1) tNil)) (by rfl) nd (pi_list (pv 0))
          (blkOk_by (own := [("_law_item", 1)]) (N := N_same) (sc := defScope s_same) (by decide +kernel)) (fun _ _ _ _ _ => pg_name (i := 1) nd rfl (Or.inl rfl)) (fun _ _ _ _ _ => pts_nil)
          (fun _ _ _ _ _ => pe_call ih hr rfl gS F.kp bS .nil pass0 (pa_cons (pv 1) pa_nil))))) (pss_nil))
      (pss_one (ps_ret (pe_ifExp (pt_val (pe_callB call_isi (by rfl) Z.isi (by decide +kernel) (pa_cons (pv 0) (pa_cons (pe_bltn (v := .ty "tuple") (by rfl) Z.ttuple (by decide +kernel) rfl) pa_nil)))) (pe_callTy call_tuple_of (by rfl) Z.ttuple (by decide +kernel) (pa_cons (pe_lc (own := [("_law_item", 1)]) (g := gName 1) (tt := tYes) (te := tCall (spSame n) [] E0 (tCons (tVar 1) tNil)) (by rfl) nd (pi_tup (pv 0))
          (blkOk_by (own := [("_law_item", 1)]) (N := N_same) (sc := defScope s_same) (by decide +kernel)) (fun _ _ _ _ _ => pg_name (i := 1) nd rfl (Or.inl rfl)) (fun _ _ _ _ _ => pts_nil)
          (fun _ _ _ _ _ => pe_call ih hr rfl gS F.kp bS .nil pass0 (pa_cons (pv 1) pa_nil))) pa_nil)) (pv 0)))))), ?_⟩
      rcases hx with hx | ⟨a, xs, ds, rfl, lx, l1, tx, kx⟩
      · skip
        obtain ⟨t', ty', k1', k2', k3', i', b', k4', k5'⟩ := FlatD.ty (K := K) (H := H) hx
        refine ⟨_, rfl, x, .ty "dict", .type t', .type "dict", false, rfl, .ty _, ty', kit_ty k3', false, rfl, iteF ?_⟩
        refine ⟨_, rfl, x, .ty "list", .type t', .type "list", false, rfl, .ty _, ty', kit_ty k1', false, rfl, iteF ?_⟩
        refine ⟨_, rfl, x, .ty "tuple", .type t', .type "tuple", false, rfl, .ty _, ty', kit_ty k2', false, rfl, iteF ?_⟩
        exact ⟨_, rfl, k x H (Same.refl H) (Tr.flat hx)⟩
      · rcases tx with ⟨ha, rfl⟩ | ⟨ha, rfl⟩
        · refine ⟨_, rfl, .ref a, .ty "dict", .type "list", .type "dict", false, rfl, .ty _, .base (.lst ha), kit_ty (by decide +kernel), false, rfl, iteF ?_⟩
          refine ⟨_, rfl, .ref a, .ty "list", .type "list", .type "list", true, rfl, .ty _, .base (.lst ha), kit_ty (by decide +kernel), true, rfl, iteT ?_⟩
          refine ⟨_, rfl, a, rfl, ⟨_, SqL.of ha⟩, fun D hD => ?_⟩
          refine lc_it (walk_list (K := K) (a := a) (xs := xs)) (fun i G => Same H G ∧ ∃ ys : List V, G D = some (.lst ys) ∧ ys.length = i ∧ ∀ (j : Nat) (u : V) (e : PyData), ys[j]? = some u → ds[j]? = some e → Tr (KB.off (nw H G) D) n u e)
            ⟨Same.updf hD, [], upd_same, rfl, fun j u e h => by simp at h⟩ (fun i G _ hh => SqL.of (hh.1 _ _ ha)) ?_ ?_
          · rintro i v G G' hi ⟨sG, ys, hy, ly, ky'⟩ ⟨rfl, hv⟩
            have hd : ds[i]? = some ds[i] := List.getElem?_eq_getElem (by omega)
            refine ⟨rfl, _, rfl, v, _, rfl, (kx i v _ hv hd).same sG, fun y G2 s2 hy2 => ?_⟩
            refine ⟨ys, s2 _ _ hy, by omega, fun c o e => ?_, ys ++ [y], upd_same, by rw [List.length_append, ly]; rfl, fun j u e h1 h2 => ?_⟩
            · rw [upd_ne (ne_of_none e hD)]
              exact s2 _ _ (sG _ _ e)
            · have eo : KB.off (nw H (upd G2 D (.lst (ys ++ [y])))) D = KB.off (nw H G2) D := by
                funext c
                unfold KB.off
                by_cases c1 : c = D
                · rw [if_pos c1, if_pos c1]
                · rw [if_neg c1, if_neg c1]
                  unfold nw
                  rw [upd_ne c1]
              rw [eo]
              by_cases hj : j < ys.length
              · rw [List.getElem?_append_left hj] at h1
                exact (ky' j u e h1 h2).same (off_same D (nw_same s2))
              · rw [List.getElem?_append_right (by omega)] at h1
                have hz : j - ys.length < 1 := by
                  have := (List.getElem?_eq_some_iff.mp h1).1
                  simpa using this
                have q1 := List.mem_of_getElem? h1
                rw [List.mem_singleton] at q1
                rw [show j = i by omega, hd] at h2
                rw [q1, ← Option.some.inj h2]
                refine hy2.same fun c o e => ?_
                have c1 : c ≠ D := fun z => by
                  have := nw_none e
                  rw [z, hy] at this
                  cases this
                rw [off_at c1]
                exact nw_sub sG _ _ e
          · rintro G ⟨sG, ys, hy, ly, ky'⟩
            refine k (.ref D) G sG ?_
            exact Tr.lst (by rw [nw_at hD]; exact hy) (by omega) l1 fun j u e h1 h2 => (ky' j u e h1 h2).same (off_le _ D)
        · refine ⟨_, rfl, .ref a, .ty "dict", .type "tuple", .type "dict", false, rfl, .ty _, .base (.tup ha), kit_ty (by decide +kernel), false, rfl, iteF ?_⟩
          refine ⟨_, rfl, .ref a, .ty "list", .type "tuple", .type "list", false, rfl, .ty _, .base (.tup ha), kit_ty (by decide +kernel), false, rfl, iteF ?_⟩
          refine ⟨_, rfl, .ref a, .ty "tuple", .type "tuple", .type "tuple", true, rfl, .ty _, .base (.tup ha), kit_ty (by decide +kernel), true, rfl, iteT ?_⟩
          refine ⟨_, rfl, a, rfl, ⟨_, SqT.of ha⟩, fun D hD => ?_⟩
          refine lc_it (walk_tup (K := K) (a := a) (xs := xs)) (fun i G => Same H G ∧ ∃ ys : List V, G D = some (.lst ys) ∧ ys.length = i ∧ ∀ (j : Nat) (u : V) (e : PyData), ys[j]? = some u → ds[j]? = some e → Tr (KB.off (nw H G) D) n u e)
            ⟨Same.updf hD, [], upd_same, rfl, fun j u e h => by simp at h⟩ (fun i G _ hh => SqT.of (hh.1 _ _ ha)) ?_ ?_
          · rintro i v G G' hi ⟨sG, ys, hy, ly, ky'⟩ ⟨rfl, hv⟩
            have hd : ds[i]? = some ds[i] := List.getElem?_eq_getElem (by omega)
            refine ⟨rfl, _, rfl, v, _, rfl, (kx i v _ hv hd).same sG, fun y G2 s2 hy2 => ?_⟩
            refine ⟨ys, s2 _ _ hy, by omega, fun c o e => ?_, ys ++ [y], upd_same, by rw [List.length_append, ly]; rfl, fun j u e h1 h2 => ?_⟩
            · rw [upd_ne (ne_of_none e hD)]
              exact s2 _ _ (sG _ _ e)
            · have eo : KB.off (nw H (upd G2 D (.lst (ys ++ [y])))) D = KB.off (nw H G2) D := by
                funext c
                unfold KB.off
                by_cases c1 : c = D
                · rw [if_pos c1, if_pos c1]
                · rw [if_neg c1, if_neg c1]
                  unfold nw
                  rw [upd_ne c1]
              rw [eo]
              by_cases hj : j < ys.length
              · rw [List.getElem?_append_left hj] at h1
                exact (ky' j u e h1 h2).same (off_same D (nw_same s2))
              · rw [List.getElem?_append_right (by omega)] at h1
                have hz : j - ys.length < 1 := by
                  have := (List.getElem?_eq_some_iff.mp h1).1
                  simpa using this
                have q1 := List.mem_of_getElem? h1
                rw [List.mem_singleton] at q1
                rw [show j = i by omega, hd] at h2
                rw [q1, ← Option.some.inj h2]
                refine hy2.same fun c o e => ?_
                have c1 : c ≠ D := fun z => by
                  have := nw_none e
                  rw [z, hy] at this
                  cases this
                rw [off_at c1]
                exact nw_sub sG _ _ e
          · rintro G ⟨sG, ys, hy, ly, ky'⟩
            refine ⟨D, ys, rfl, .inl ⟨SqL.of hy, fun T hT => ?_⟩⟩
            have sT := Same.updf (o := .tup ys) hT
            refine k (.ref T) _ (sG.trans sT) ?_
            exact Tr.tup (by rw [nw_at (none_back sG hT), upd_same]) (by omega) l1 fun j u e h1 h2 => ((ky' j u e h1 h2).same (off_le _ D)).same (nw_same sT)
end
end K06
set_option Elab.async false
set_option linter.all false
set_option maxRecDepth 100000
set_option maxHeartbeats 8000000
/-! Kinds, needs, codes. -/
namespace K06
open PySem PySem.Spec PyProof.Rows L2 KB
def spWhole (K : PySem.W.Frag) : Sp := fun vs H Q _ => ∃ (x : V) (t : String) (i b : Bool), vs = [x] ∧ TyX K H x (.type t) ∧ kitB t "int" = some i ∧ kitB t "bool" = some b ∧ Q (.bl (i && !b)) H
def spCount (K : PySem.W.Frag) : Sp := fun vs H Q _ => ∃ (x : V) (c : Bool), vs = [x] ∧ CntV K H x c ∧ Q (.bl c) H
def spBelow : Sp := fun vs H Q _ => ∃ (i b : Nat), vs = [.int (i : Int), .int (b : Int)] ∧ Q (.bl (decide (i < b))) H
def spTupOf (K : PySem.W.Frag) : Sp := fun vs H Q _ => ∃ (t : Addr) (xs : List V) (n : Int), vs = [.ref t, .int n] ∧ SqT K H t xs ∧ Q (.bl (decide ((xs.length : Int) = n))) H
def spNeedC : Sp := fun vs H Q _ => ∃ i : Nat, vs = [.int (i : Int)] ∧ Q .non H
def spNeedCU : Sp := fun vs H Q _ => ∃ i j : Nat, vs = [.int (i : Int), .int (j : Int)] ∧ Q .non H
def spRow : Sp := fun vs H Q _ => ∃ (p : Addr) (r : List Nat), vs = [.ref p] ∧ H p = some (.lst (numsV r)) ∧ (1 ≤ r.length ∧ r.length ≤ 1000) ∧ ∀ H', Same H H' → Q (.bl true) H'
def spIsCode : Sp := fun vs H Q _ => ∃ (a : Addr) (c : List (List Nat)) (m : Nat), vs = [.ref a] ∧ CodeAt H a c ∧ Good c m ∧ ∀ H', Same H H' → Q (.bl true) H'
def spNeedCode : Sp := fun vs H Q _ => ∃ (a : Addr) (c : List (List Nat)) (m : Nat), vs = [.ref a] ∧ CodeAt H a c ∧ Good c m ∧ ∀ H', Same H H' → Q .non H'
def spNeedPos : Sp := fun vs H Q _ => ∃ (a : Addr) (c : List (List Nat)) (i : Nat), vs = [.ref a, .int (i : Int)] ∧ CodeAt H a c ∧ i < c.length ∧ Q .non H
section
variable {P : Program} {w : World} {K : PySem.W.Frag} {mg : Str → Option Value} {base : Heap}
abbrev s_is_whole_number : Stmt := top 6
abbrev N_is_whole_number : List Str := ["value"]
theorem sc_is_whole_number : FnScope N_is_whole_number ["value"] (defScope s_is_whole_number) := ⟨rfl, rfl, rfl, by decide +kernel, rfl, by decide +kernel, by decide +kernel⟩
theorem ok_is_whole_number {f : Addr} {fd : FuncData} (F : FnP K "is_whole_number" s_is_whole_number f fd) (Z : FreeS mg) :
    FnOk P w K mg base CX0 1 f fd ["value"] (spWhole K) := by
  refine F.ok sc_is_whole_number (fun vs H Q E h => ?_) (fun cdv A outer s H vs Q E hr h => ?_)
  · obtain ⟨x, t, i, b, rfl, _⟩ := h
    rfl
  · obtain ⟨x, t, i, b, rfl, ty, k1, k2, k⟩ := h
    have nd := sc_is_whole_number.nd
    refine ⟨_, PSs.nox (pss_one (ps_ret (pe_and (pe_callB call_isi (by rfl) Z.isi (by decide +kernel) (pa_cons (pv 0) (pa_cons (pe_bltn (v := .ty "int") (by rfl) Z.int (by decide +kernel) rfl) pa_nil))) (pe_one (pe_not (pe_callB call_isi (by rfl) Z.isi (by decide +kernel) (pa_cons (pv 0) (pa_cons (pe_bltn (v := .ty "bool") (by rfl) Z.tbool (by decide +kernel) rfl) pa_nil)))))))), ?_⟩
    cases i with
    | false => exact ⟨_, rfl, x, .ty "int", .type t, .type "int", false, rfl, .ty _, ty, kit_ty k1, false, rfl, iteF k⟩
    | true =>
      refine ⟨_, rfl, x, .ty "int", .type t, .type "int", true, rfl, .ty _, ty, kit_ty k1, true, rfl, iteT ?_⟩
      exact ⟨_, rfl, x, .ty "bool", .type t, .type "bool", b, rfl, .ty _, ty, kit_ty k2, b, rfl, k⟩
abbrev s_is_count : Stmt := top 7
abbrev N_is_count : List Str := ["value"]
theorem sc_is_count : FnScope N_is_count ["value"] (defScope s_is_count) := ⟨rfl, rfl, rfl, by decide +kernel, rfl, by decide +kernel, by decide +kernel⟩
theorem ok_is_count {f : Addr} {fd : FuncData} (F : FnP K "is_count" s_is_count f fd) (Z : FreeS mg)
    {f_is_whole_number : Addr} {d_is_whole_number : FuncData} (g_is_whole_number : mg "is_whole_number" = some (.ref f_is_whole_number)) (F_is_whole_number : FnP K "is_whole_number" s_is_whole_number f_is_whole_number d_is_whole_number) (G_is_whole_number : FnOk P w K mg base CX0 1 f_is_whole_number d_is_whole_number ["value"] (spWhole K)) :
    FnOk P w K mg base CX0 2 f fd ["value"] (spCount K) := by
  have b_is_whole_number : Binds K d_is_whole_number ["value"] [] := F_is_whole_number.bindsN fun _ _ _ _ _ _ us hl => match us, hl with | [_], _ => rfl
  refine F.ok sc_is_count (fun vs H Q E h => ?_) (fun cdv A outer s H vs Q E hr h => ?_)
  · obtain ⟨x, c, rfl, _⟩ := h
    rfl
  · obtain ⟨x, c, rfl, ⟨t, i, b, ty, k1, k2, k3, k4⟩, k⟩ := h
    have nd := sc_is_count.nd
    refine ⟨_, PSs.nox (pss_one (ps_ret (pe_and (pe_call G_is_whole_number (hr.mono (by decide)) rfl g_is_whole_number F_is_whole_number.kp b_is_whole_number .nil pass0 (pa_cons (pv 0) (pa_nil))) (pe_one (pe_cmpR op_ge (pv 0) (pe_int) (nomark _)))))), ?_⟩
    refine ⟨_, rfl, x, t, i, b, rfl, ty, k1, k2, _, rfl, ?_⟩
    cases e : (i && !b) with
    | false =>
      rw [k4 e] at k
      exact iteF k
    | true =>
      obtain ⟨j, rfl, rfl⟩ := k3 e
      exact iteT ⟨_, rfl, _, _, rfl, rfl, k⟩
abbrev s_is_count_below : Stmt := top 8
abbrev N_is_count_below : List Str := ["value", "bound"]
theorem sc_is_count_below : FnScope N_is_count_below ["value", "bound"] (defScope s_is_count_below) := ⟨rfl, rfl, rfl, by decide +kernel, rfl, by decide +kernel, by decide +kernel⟩
theorem ok_is_count_below {f : Addr} {fd : FuncData} (F : FnP K "is_count_below" s_is_count_below f fd) (Z : FreeS mg)
    {f_is_count : Addr} {d_is_count : FuncData} (g_is_count : mg "is_count" = some (.ref f_is_count)) (F_is_count : FnP K "is_count" s_is_count f_is_count d_is_count) (G_is_count : FnOk P w K mg base CX0 2 f_is_count d_is_count ["value"] (spCount K)) :
    FnOk P w K mg base CX0 3 f fd ["value", "bound"] spBelow := by
  have b_is_count : Binds K d_is_count ["value"] [] := F_is_count.bindsN fun _ _ _ _ _ _ us hl => match us, hl with | [_], _ => rfl
  refine F.ok sc_is_count_below (fun vs H Q E h => ?_) (fun cdv A outer s H vs Q E hr h => ?_)
  · obtain ⟨i, b, rfl, _⟩ := h
    rfl
  · obtain ⟨i, b, rfl, k⟩ := h
    have nd := sc_is_count_below.nd
    refine ⟨_, PSs.nox (pss_one (ps_ret (pe_and (pe_call G_is_count (hr.mono (by decide)) rfl g_is_count F_is_count.kp b_is_count .nil pass0 (pa_cons (pv 0) (pa_nil))) (pe_one (pe_cmpR op_lt (pv 0) (pv 1) (nomark _)))))), ?_⟩
    refine ⟨_, rfl, _, true, rfl, CntV.nat i, true, rfl, iteT ⟨_, rfl, _, rfl, _, _, rfl, rfl, ?_⟩⟩
    have e : decide ((i : Int) < (b : Int)) = decide (i < b) := by
      by_cases h : i < b
      · rw [decide_eq_true h, decide_eq_true (by omega)]
      · rw [decide_eq_false h, decide_eq_false (by omega)]
    show Q (.bl (decide ((i : Int) < (b : Int)))) H
    rw [e]
    exact k
abbrev s_is_tuple_of : Stmt := top 9
abbrev N_is_tuple_of : List Str := ["value", "length"]
theorem sc_is_tuple_of : FnScope N_is_tuple_of ["value", "length"] (defScope s_is_tuple_of) := ⟨rfl, rfl, rfl, by decide +kernel, rfl, by decide +kernel, by decide +kernel⟩
theorem ok_is_tuple_of {f : Addr} {fd : FuncData} (F : FnP K "is_tuple_of" s_is_tuple_of f fd) (Z : FreeS mg) :
    FnOk P w K mg base CX0 1 f fd ["value", "length"] (spTupOf K) := by
  refine F.ok sc_is_tuple_of (fun vs H Q E h => ?_) (fun cdv A outer s H vs Q E hr h => ?_)
  · obtain ⟨t, xs, n, rfl, _⟩ := h
    rfl
  · obtain ⟨t, xs, n, rfl, ht, k⟩ := h
    have nd := sc_is_tuple_of.nd
    refine ⟨_, PSs.nox (pss_one (ps_ret (pe_and (pe_callB call_isi (by rfl) Z.isi (by decide +kernel) (pa_cons (pv 0) (pa_cons (pe_bltn (v := .ty "tuple") (by rfl) Z.ttuple (by decide +kernel) rfl) pa_nil))) (pe_one (pe_cmpR op_eq (pe_callB call_len_seq (by rfl) Z.len (by decide +kernel) (pa_cons (pv 0) (pa_nil))) (pv 1) (nomark _)))))), ?_⟩
    refine ⟨_, rfl, .ref t, .ty "tuple", .type "tuple", .type "tuple", true, rfl, .ty _, sqT_ty ht, kit_ty (by decide +kernel), true, rfl, iteT ?_⟩
    refine ⟨_, rfl, t, xs, rfl, Or.inr ht, _, rfl, rfl, ?_⟩
    have e : decide (V.int (xs.length : Int) = V.int n) = decide ((xs.length : Int) = n) := by
      by_cases h : (xs.length : Int) = n
      · rw [decide_eq_true h, decide_eq_true (congrArg V.int h)]
      · rw [decide_eq_false h, decide_eq_false fun z => h (V.int.inj z)]
    rw [e]
    exact k
abbrev s_need_count : Stmt := top 11
abbrev N_need_count : List Str := ["number"]
theorem sc_need_count : FnScope N_need_count ["number"] (defScope s_need_count) := ⟨rfl, rfl, rfl, by decide +kernel, rfl, by decide +kernel, by decide +kernel⟩
theorem ok_need_count {f : Addr} {fd : FuncData} (F : FnP K "need_count" s_need_count f fd) (Z : FreeS mg)
    {f_is_count : Addr} {d_is_count : FuncData} (g_is_count : mg "is_count" = some (.ref f_is_count)) (F_is_count : FnP K "is_count" s_is_count f_is_count d_is_count) (G_is_count : FnOk P w K mg base CX0 2 f_is_count d_is_count ["value"] (spCount K)) :
    FnOk P w K mg base CX0 3 f fd ["number"] spNeedC := by
  have b_is_count : Binds K d_is_count ["value"] [] := F_is_count.bindsN fun _ _ _ _ _ _ us hl => match us, hl with | [_], _ => rfl
  refine F.ok sc_need_count (fun vs H Q E h => ?_) (fun cdv A outer s H vs Q E hr h => ?_)
  · obtain ⟨i, rfl, _⟩ := h
    rfl
  · obtain ⟨i, rfl, k⟩ := h
    have nd := sc_need_count.nd
    refine ⟨_, PSs.nox (pss_one (ps_if (pt_not (pt_val (pe_call G_is_count (hr.mono (by decide)) rfl g_is_count F_is_count.kp b_is_count .nil pass0 (pa_cons (pv 0) (pa_nil))))) (pss_one (ps_dead)) (pss_nil))), ?_⟩
    exact ⟨_, rfl, _, true, rfl, CntV.nat i, true, rfl, iteF k⟩
abbrev s_need_changed_and_unread : Stmt := top 12
abbrev N_need_changed_and_unread : List Str := ["changed", "unread"]
theorem sc_need_changed_and_unread : FnScope N_need_changed_and_unread ["changed", "unread"] (defScope s_need_changed_and_unread) := ⟨rfl, rfl, rfl, by decide +kernel, rfl, by decide +kernel, by decide +kernel⟩
theorem ok_need_changed_and_unread {f : Addr} {fd : FuncData} (F : FnP K "need_changed_and_unread" s_need_changed_and_unread f fd) (Z : FreeS mg)
    {f_need_count : Addr} {d_need_count : FuncData} (g_need_count : mg "need_count" = some (.ref f_need_count)) (F_need_count : FnP K "need_count" s_need_count f_need_count d_need_count) (G_need_count : FnOk P w K mg base CX0 3 f_need_count d_need_count ["number"] spNeedC) :
    FnOk P w K mg base CX0 4 f fd ["changed", "unread"] spNeedCU := by
  have b_need_count : Binds K d_need_count ["number"] [] := F_need_count.bindsN fun _ _ _ _ _ _ us hl => match us, hl with | [_], _ => rfl
  refine F.ok sc_need_changed_and_unread (fun vs H Q E h => ?_) (fun cdv A outer s H vs Q E hr h => ?_)
  · obtain ⟨i, j, rfl, _⟩ := h
    rfl
  · obtain ⟨i, j, rfl, k⟩ := h
    have nd := sc_need_changed_and_unread.nd
    refine ⟨_, PSs.nox (pss_cons (ps_expr (pe_call G_need_count (hr.mono (by decide)) rfl g_need_count F_need_count.kp b_need_count .nil pass0 (pa_cons (pv 0) (pa_nil))))
      (pss_one (ps_expr (pe_call G_need_count (hr.mono (by decide)) rfl g_need_count F_need_count.kp b_need_count .nil pass0 (pa_cons (pv 1) (pa_nil)))))), ?_⟩
    exact ⟨_, rfl, i, rfl, _, rfl, j, rfl, k⟩
abbrev s_is_row_of_signs : Stmt := top 15
abbrev N_is_row_of_signs : List Str := ["value", "sign"]
theorem sc_is_row_of_signs : FnScope N_is_row_of_signs ["value"] (defScope s_is_row_of_signs) := ⟨rfl, rfl, rfl, by decide +kernel, rfl, by decide +kernel, by decide +kernel⟩
theorem ok_is_row_of_signs {f : Addr} {fd : FuncData} (F : FnP K "is_row_of_signs" s_is_row_of_signs f fd) (Z : FreeS mg)
    {f_is_count : Addr} {d_is_count : FuncData} (g_is_count : mg "is_count" = some (.ref f_is_count)) (F_is_count : FnP K "is_count" s_is_count f_is_count d_is_count) (G_is_count : FnOk P w K mg base CX0 2 f_is_count d_is_count ["value"] (spCount K)) :
    FnOk P w K mg base CX0 3 f fd ["value"] spRow := by
  have b_is_count : Binds K d_is_count ["value"] [] := F_is_count.bindsN fun _ _ _ _ _ _ us hl => match us, hl with | [_], _ => rfl
  refine F.ok sc_is_row_of_signs (fun vs H Q E h => ?_) (fun cdv A outer s H vs Q E hr h => ?_)
  · obtain ⟨p, r, rfl, _⟩ := h
    rfl
  · obtain ⟨p, r, rfl, hp, ⟨l1, l2⟩, k⟩ := h
    have nd := sc_is_row_of_signs.nd
    refine ⟨_, PSs.nox (pss_one (ps_ret (pe_and (pe_callB call_isi (by rfl) Z.isi (by decide +kernel) (pa_cons (pv 0) (pa_cons (pe_bltn (v := .ty "list") (by rfl) Z.tlist (by decide +kernel) rfl) pa_nil))) (pe_and (pe_cmpR op_gt (pe_callB call_len_seq (by rfl) Z.len (by decide +kernel) (pa_cons (pv 0) (pa_nil))) (pe_int) (nomark _)) (pe_one (pe_callB (cr_all rfl) (by rfl) Z.all (by decide +kernel) (pa_cons (pe_lc (own := [("sign", 1)]) (g := gName 1) (tt := tYes) (te := tCall (spCount K) [] E0 (tCons (tVar 1) (tNil))) (by rfl) nd (pi_list (pv 0))
          (blkOk_by (own := [("sign", 1)]) (N := N_is_row_of_signs) (sc := defScope s_is_row_of_signs) (by decide +kernel)) (fun _ _ _ _ _ => pg_name (i := 1) nd rfl (Or.inl rfl)) (fun _ _ _ _ _ => pts_nil)
          (fun _ _ _ _ _ => pe_call G_is_count (hr.mono (by decide)) rfl g_is_count F_is_count.kp b_is_count .nil pass0 (pa_cons (pv 1) (pa_nil)))) (pa_nil)))))))), ?_⟩
    refine ⟨_, rfl, .ref p, .ty "list", .type "list", .type "list", true, rfl, .ty _, .base (.lst hp), kit_ty (by decide +kernel), true, rfl, iteT ?_⟩
    refine ⟨_, rfl, p, _, rfl, .inl (SqL.of hp), ?_⟩
    refine ⟨_, _, rfl, rfl, _, rfl, ?_⟩
    have ln := numsV_len r
    rw [decide_eq_true (show (0 : Int) < ((numsV r).length : Int) by omega)]
    refine iteT ⟨_, rfl, p, rfl, ⟨_, SqL.of hp⟩, fun D hD => ?_⟩
    refine lc_sel (walk_list (K := K) (a := p) (xs := numsV r)) (fun _ => some (.bl true)) (by omega) hD (fun H2 s2 => SqL.of (s2 _ _ hp)) ?_ ?_
    · rintro i v H2 H3 Qy Qn hi sH ⟨rfl, hv⟩ ky kn
      obtain ⟨hi2, rfl⟩ := numsV_at hv
      exact ⟨rfl, _, rfl, _, true, rfl, CntV.nat _, ky _ _ (Same.refl _) rfl⟩
    · intro H2 s2 hR
      obtain ⟨bs, hB, hb⟩ := all_bits (K := K) hR
      refine ⟨D, bs, rfl, hB, ?_⟩
      rw [hb]
      exact k _ s2
end
end K06
set_option Elab.async false
set_option linter.all false
set_option maxRecDepth 100000
set_option maxHeartbeats 8000000
/-! is_code, its needs. -/
namespace K06
open PySem PySem.Spec PyProof.Rows L2 KB
def toI (r : List Nat) : List Int := r.map fun i : Nat => (i : Int)
theorem toI_inj : ∀ {r s : List Nat}, toI r = toI s → r = s
  | [], [], _ => rfl
  | [], _ :: _, h => by cases h
  | _ :: _, [], h => by cases h
  | a :: r, b :: s, h => by
    have h' : ((a : Int) :: toI r) = ((b : Int) :: toI s) := h
    obtain ⟨h1, h2⟩ := List.cons.inj h'
    rw [toI_inj h2, show a = b by omega]
theorem not_mem_take {c : List (List Nat)} (nd : c.Nodup) {i : Nat} (hi : i < c.length) : c[i] ∉ c.take i := fun z => by
  obtain ⟨j, hj, e⟩ := List.mem_iff_getElem.mp z
  rw [List.length_take] at hj
  rw [List.getElem_take] at e
  have := List.pairwise_iff_getElem.mp nd j i (by omega) hi (by omega)
  exact this e
theorem SqT_set {P : Program} {w : World} {K : PySem.W.Frag} {G : Hp} {D t : Addr} {L : List (Addr × List Int)} {o : HO} {xs : List V} (h : SqT K G t xs) (hD : G D = some (SetTO P w D L)) : SqT K (upd G D o) t xs := by
  rcases h with (h | ⟨u, h⟩) | h
  · refine .inl (.inl ?_)
    rw [upd_ne fun z => by rw [z, hD] at h; cases h]
    exact h
  · refine .inl (.inr ⟨u, ?_⟩)
    rw [upd_ne fun z => by rw [z, hD] at h; cases h]
    exact h
  · exact .inr h
section
variable {P : Program} {w : World} {K : PySem.W.Frag} {mg : Str → Option Value} {base : Heap}
abbrev s_is_code : Stmt := top 14
abbrev N_is_code : List Str := ["value", "page"]
theorem sc_is_code : FnScope N_is_code ["value"] (defScope s_is_code) := ⟨rfl, rfl, rfl, by decide +kernel, rfl, by decide +kernel, by decide +kernel⟩
theorem ok_is_code {f : Addr} {fd : FuncData} (F : FnP K "is_code" s_is_code f fd) (Z : FreeS mg)
    {f_is_row_of_signs : Addr} {d_is_row_of_signs : FuncData} (g_is_row_of_signs : mg "is_row_of_signs" = some (.ref f_is_row_of_signs)) (F_is_row_of_signs : FnP K "is_row_of_signs" s_is_row_of_signs f_is_row_of_signs d_is_row_of_signs) (G_is_row_of_signs : FnOk P w K mg base CX0 3 f_is_row_of_signs d_is_row_of_signs ["value"] spRow) :
    FnOk P w K mg base CX0 4 f fd ["value"] spIsCode := by
  have b_is_row_of_signs : Binds K d_is_row_of_signs ["value"] [] := F_is_row_of_signs.bindsN fun _ _ _ _ _ _ us hl => match us, hl with | [_], _ => rfl
  refine F.ok sc_is_code (fun vs H Q E h => ?_) (fun cdv A outer s H vs Q E hr h => ?_)
  · obtain ⟨a, c, m, rfl, _⟩ := h
    rfl
  · obtain ⟨a, c, m, rfl, hc, g, k⟩ := h
    obtain ⟨xs, ha, lx, hx⟩ := hc.at
    have hu : (A.deeper (envOfC "is_code" (defScope s_is_code) s.heap.objs.size f cdv)).units + 1 < cLine := by
      have := hr.units
      omega
    have nd := sc_is_code.nd
    refine ⟨_, PSs.nox (pss_cons (ps_if (PW.pt (pw_or (pt_not (pt_val (pe_callB call_isi (by rfl) Z.isi (by decide +kernel) (pa_cons (pv 0) (pa_cons (pe_bltn (v := .ty "list") (by rfl) Z.tlist (by decide +kernel) rfl) pa_nil))))) (pw_or1 (pt_cmpR op_lt (pe_callB call_len_seq (by rfl) Z.len (by decide +kernel) (pa_cons (pv 0) (pa_nil))) (pe_int) (nomark _))))) (pss_one (ps_ret (pe_bl))) (pss_nil))
      (pss_cons (ps_if (pt_not (pt_val (pe_callB (cr_all rfl) (by rfl) Z.all (by decide +kernel) (pa_cons (pe_lc (own := [("page", 1)]) (g := gName 1) (tt := tYes) (te := tCall spRow [] E0 (tCons (tVar 1) (tNil))) (by rfl) nd (pi_list (pv 0))
          (blkOk_by (own := [("page", 1)]) (N := N_is_code) (sc := defScope s_is_code) (by decide +kernel)) (fun _ _ _ _ _ => pg_name (i := 1) nd rfl (Or.inl rfl)) (fun _ _ _ _ _ => pts_nil)
          (fun _ _ _ _ _ => pe_call G_is_row_of_signs (hr.mono (by decide)) rfl g_is_row_of_signs F_is_row_of_signs.kp b_is_row_of_signs .nil pass0 (pa_cons (pv 1) (pa_nil)))) (pa_nil))))) (pss_one (ps_ret (pe_bl))) (pss_nil))
      (pss_cons (ps_if (pt_not (pt_val (pe_callB (cr_all rfl) (by rfl) Z.all (by decide +kernel) (pa_cons (pe_lc (own := [("page", 1)]) (g := gName 1) (tt := tYes) (te := tOp rEq (tCB (rLenS K) (tCons (tVar 1) tNil)) (tCB (rLenS K) (tCons (tOp (rIxL K) (tVar 0) (tC (.int 0))) tNil))) (by rfl) nd (pi_list (pv 0))
          (blkOk_by (own := [("page", 1)]) (N := N_is_code) (sc := defScope s_is_code) (by decide +kernel)) (fun _ _ _ _ _ => pg_name (i := 1) nd rfl (Or.inl rfl)) (fun _ _ _ _ _ => pts_nil)
          (fun _ _ _ _ _ => pe_cmpR op_eq (pe_callB call_len_seq (by rfl) Z.len (by decide +kernel) (pa_cons (pv 1) (pa_nil))) (pe_callB call_len_seq (by rfl) Z.len (by decide +kernel) (pa_cons (pe_ix ix_list (pv 0) (pe_int) (fun _ _ => rfl)) (pa_nil))) (nomark _))) (pa_nil))))) (pss_one (ps_ret (pe_bl))) (pss_nil))
      (pss_one (ps_ret (pe_cmpR op_eq (pe_callB cr_lenT (by rfl) Z.len (by decide +kernel) (pa_cons (pe_sc1R (own := [("page", 1)]) (g := gName 1) (tt := tYes) (te := tCB (rTupOf K) (tCons (tVar 1) tNil)) (O0 := fun D => SetTO P w D []) (r := rTAdd K P w) rfl nd (pi_list (pv 0)) (blkOk_by (own := [("page", 1)]) (N := N_is_code) (sc := defScope s_is_code) (by decide +kernel)) (fun _ _ _ _ _ => pg_name (i := 1) nd rfl (Or.inl rfl)) (fun _ _ _ _ _ => pts_nil) (fun _ _ _ _ _ => pe_callTy call_tuple_ofR (by rfl) Z.ttuple (by decide +kernel) (pa_cons (pv 1) pa_nil)) (fun _ _ => new_setT _ _) (fun _ _ _ _ _ => mt_addT hu)) pa_nil)) (pe_callB call_len_seq (by rfl) Z.len (by decide +kernel) (pa_cons (pv 0) (pa_nil))) (nomark _))))))), ?_⟩
    have e2 := g.two
    have e3 := g.few
    have e4 := g.cells
    have e5 := g.small
    refine ⟨_, rfl, .ref a, .ty "list", .type "list", .type "list", true, rfl, .ty _, .base (.lst ha), kit_ty (by decide +kernel), true, rfl, iteF ?_⟩
    refine ⟨_, rfl, a, _, rfl, .inl (SqL.of ha), _, _, rfl, rfl, _, rfl, ?_⟩
    rw [decide_eq_false (show ¬ ((xs.length : Int) < 2) by omega)]
    refine iteF ?_
    refine ⟨_, rfl, a, rfl, ⟨_, SqL.of ha⟩, fun D hD => ?_⟩
    refine lc_sel (walk_list (K := K) (a := a) (xs := xs)) (fun _ => some (.bl true)) (by omega) hD (fun H2 s2 => SqL.of (s2 _ _ ha)) ?_ ?_
    · rintro i v H2 H3 Qy Qn hi sH ⟨rfl, hv⟩ ky kn
      obtain ⟨p, f1, f2⟩ := hx i (by omega)
      rw [f1] at hv
      cases hv
      have fl := g.len _ (List.getElem_mem (show i < c.length by omega))
      exact ⟨rfl, _, rfl, p, _, rfl, sH _ _ f2, ⟨by omega, by omega⟩, fun H4 s4 => ky _ _ s4 rfl⟩
    intro H2 s2 hR
    obtain ⟨bs, hB, hb⟩ := all_bits (K := K) hR
    refine ⟨D, bs, rfl, hB, ?_⟩
    rw [hb]
    refine ⟨true, rfl, iteF ?_⟩
    have ha2 := s2 _ _ ha
    refine ⟨_, rfl, a, rfl, ⟨_, SqL.of ha2⟩, fun D2 hD2 => ?_⟩
    refine lc_sel (walk_list (K := K) (a := a) (xs := xs)) (fun _ => some (.bl true)) (by omega) hD2 (fun H3 s3 => SqL.of (s3 _ _ ha2)) ?_ ?_
    · rintro i v H3 H4 Qy Qn hi sH ⟨rfl, hv⟩ ky kn
      obtain ⟨p, f1, f2⟩ := hx i (by omega)
      rw [f1] at hv
      cases hv
      obtain ⟨p0, z1, z2⟩ := hx 0 (by omega)
      have fl := g.len _ (List.getElem_mem (show i < c.length by omega))
      have f0 := g.len _ (List.getElem_mem (show 0 < c.length by omega))
      refine ⟨rfl, _, rfl, p, _, rfl, .inl (SqL.of (sH _ _ (s2 _ _ f2))), ?_⟩
      refine ⟨_, rfl, a, xs, 0, .ref p0, rfl, rfl, SqL.of (sH _ _ ha2), atI_nat (j := 0) z1, ?_⟩
      refine ⟨p0, _, rfl, .inl (SqL.of (sH _ _ (s2 _ _ z2))), rfl, ky _ _ (Same.refl _) ?_⟩
      rw [numsV_len, numsV_len, fl, f0]
      exact congrArg (fun b => some (V.bl b)) (decide_eq_true rfl).symm
    intro H3 s3 hR3
    obtain ⟨bs3, hB3, hb3⟩ := all_bits (K := K) hR3
    refine ⟨D2, bs3, rfl, hB3, ?_⟩
    rw [hb3]
    refine ⟨true, rfl, iteF ?_⟩
    have s23 := s2.trans s3
    have ha3 := s3 _ _ ha2
    refine ⟨_, rfl, a, rfl, ⟨_, SqL.of ha3⟩, fun D3 hD3 => ?_⟩
    refine cl_walk (walk_list (K := K) (a := a) (xs := xs)) (fun i G => Same H3 G ∧ ∃ L : List (Addr × List Int), G D3 = some (SetTO P w D3 L) ∧ (L.map (·.2)).Perm ((c.take i).map toI) ∧ ∀ p ∈ L, SqT K G p.1 (p.2.map V.int))
      ⟨Same.updf hD3, [], upd_same, by simp, fun p hp => by cases hp⟩ (fun i G _ hh => SqL.of (hh.1 _ _ ha3)) ?_ ?_
    · rintro i x G0 G hi ⟨sG, L, hS, pL, tL⟩ ⟨rfl, hv⟩
      obtain ⟨p, f1, f2⟩ := hx i (by omega)
      rw [f1] at hv
      cases hv
      refine ⟨rfl, ?_⟩
      have fG := sG _ _ (s3 _ _ (s2 _ _ f2))
      refine ⟨_, rfl, p, _, rfl, .inl ⟨SqL.of fG, fun l hl => ?_⟩⟩
      have lD : l ≠ D3 := fun z => by
        rw [z, hS] at hl
        cases hl
      have sL : Same G (upd G l (.tup (numsV (c[i]'(by omega))))) := Same.updf hl
      have ll : L.length = i := by
        have := pL.length_eq
        rw [List.length_map, List.length_map, List.length_take] at this
        omega
      refine ⟨D3, l, L, toI (c[i]'(by omega)), rfl, rfl, by rw [upd_ne (Ne.symm lD)]; exact hS, fun q hq => SqT_up sL (tL q hq), ?_, by omega, fun L' k1 k2 => ?_⟩
      · rw [show (toI (c[i]'(by omega))).map V.int = numsV (c[i]'(by omega)) from by unfold toI numsV; rw [List.map_map]; rfl]
        exact SqT.of upd_same
      · have nin : toI (c[i]'(by omega)) ∉ L.map (·.2) := fun z => by
          have z2 := pL.mem_iff.mp z
          obtain ⟨r, r1, r2⟩ := List.mem_map.mp z2
          have r3 := toI_inj r2
          rw [r3] at r1
          exact not_mem_take g.nd (by omega) r1
        have pk := k2 nin
        refine ⟨fun b o e => ?_, L', upd_same, ?_, fun q hq => ?_⟩
        · have e1 : b ≠ D3 := ne_of_none e hD3
          rw [upd_ne e1]
          exact sL _ _ (sG _ _ e)
        · refine (pk.map _).trans ?_
          rw [List.take_succ, List.getElem?_eq_getElem (by omega), List.map_append]
          exact (List.Perm.cons _ pL).trans (List.perm_append_singleton _ _).symm
        · have hq2 := pk.mem_iff.mp hq
          have tq : SqT K (upd G l (.tup (numsV (c[i]'(by omega))))) q.1 (q.2.map V.int) := by
            rcases List.mem_cons.mp hq2 with rfl | hq3
            · show SqT K _ l ((toI (c[i]'(by omega))).map V.int)
              rw [show (toI (c[i]'(by omega))).map V.int = numsV (c[i]'(by omega)) from by unfold toI numsV; rw [List.map_map]; rfl]
              exact SqT.of upd_same
            · exact SqT_up sL (tL q hq3)
          exact SqT_set tq (by rw [upd_ne (Ne.symm lD)]; exact hS)
    · rintro G ⟨sG, L, hS, pL, tL⟩
      refine ⟨D3, L, rfl, hS, _, rfl, a, _, rfl, .inl (SqL.of (sG _ _ ha3)), ?_⟩
      have ll : L.length = xs.length := by
        have := pL.length_eq
        rw [List.length_map, List.length_map, List.length_take] at this
        omega
      refine ⟨rfl, ?_⟩
      rw [ll, decide_eq_true rfl]
      exact k _ (s23.trans sG)
end
end K06
set_option Elab.async false
set_option linter.all false
set_option maxRecDepth 100000
set_option maxHeartbeats 8000000
/-! shows_two. -/
namespace K06
open PySem PySem.Spec PyProof.Rows L2 KB
def spShows (K : PySem.W.Frag) : Sp := fun vs H Q _ => ∃ (p q : Addr) (r1 r2 : List Nat) (v : V) (r : Option (List (Option Nat))) (ch un : Nat), vs = [.ref p, .ref q, v, .int (ch : Int), .int (un : Int)] ∧ H p = some (.lst (numsV r1)) ∧ H q = some (.lst (numsV r2)) ∧ (r1.length = r2.length ∧ r1.length ≤ 100) ∧ ValAt K H r1.length v r ∧ ∀ H', Same H H' → Q (.bl (shB r1 r2 r ch un)) H'
/-- the strange sign of a cell, if there is one -/
def offV (r1 r2 : List Nat) (os : List (Option Nat)) (i : Nat) : Option V := match os.getD i none with
  | none => none
  | some n => if n ≠ r1.getD i 0 ∧ n ≠ r2.getD i 0 then some (.int (n : Int)) else none
theorem offV_at {r1 r2 : List Nat} {os : List (Option Nat)} {i : Nat} (h : i < os.length) : offV r1 r2 os i = match os[i] with
  | none => none
  | some n => if n ≠ r1.getD i 0 ∧ n ≠ r2.getD i 0 then some (.int (n : Int)) else none := by
  unfold offV
  rw [List.getD_eq_getElem?_getD, List.getElem?_eq_getElem h]
  rfl
theorem fm_len {α β : Type} {f : α → Option β} {c : α → Bool} (h : ∀ a, (f a).isSome = c a) : ∀ l : List α, (l.filterMap f).length = (l.filter c).length
  | [] => rfl
  | a :: l => by
    rw [List.filterMap_cons, List.filter_cons, ← h a]
    cases f a with
    | none => exact fm_len h l
    | some b => exact congrArg (· + 1) (fm_len h l)
theorem offV_len (r1 r2 : List Nat) (os : List (Option Nat)) : ((List.range os.length).filterMap (offV r1 r2 os)).length = offN r1 r2 os := by
  refine fm_len (fun i => ?_) _
  unfold offV
  cases os.getD i none with
  | none => rfl
  | some n =>
    dsimp only
    by_cases h1 : n = r1.getD i 0
    · rw [if_neg (fun z => z.1 h1), decide_eq_false (fun z => z h1)]
      rfl
    by_cases h2 : n = r2.getD i 0
    · rw [if_neg (fun z => z.2 h2), show decide (n ≠ r2.getD i 0) = false from decide_eq_false fun z => z h2, Bool.and_false]
      rfl
    rw [if_pos ⟨h1, h2⟩, decide_eq_true h1, decide_eq_true h2]
    rfl
def oD : Option Nat → PyData
  | none => .none
  | some n => .int (n : Int)
theorem shaped_oD (os : List (Option Nat)) : SeqAt.shaped (.list (os.map oD)) = true := by
  have g : PyData.canLayAll0 (os.map oD) = true ∧ PyData.depthAll (os.map oD) ≤ 1 := by
    induction os with
    | nil => exact ⟨rfl, Nat.zero_le _⟩
    | cons x P ih =>
      rw [List.map_cons]
      cases x with
      | none => exact ⟨by simp only [oD, PyData.canLayAll0, PyData.canLay0, ih.1, Bool.and_self], by simp only [oD, PyData.depthAll, PyData.depth]; have := ih.2; omega⟩
      | some n => exact ⟨by simp only [oD, PyData.canLayAll0, PyData.canLay0, ih.1, Bool.and_self], by simp only [oD, PyData.depthAll, PyData.depth]; have := ih.2; omega⟩
  refine Bool.and_eq_true_iff.mpr ⟨?_, decide_eq_true ?_⟩
  · simp only [PyData.canLay0]
    exact g.1
  · simp only [PyData.depth]
    have := g.2
    omega
theorem dpAll_oD {K : PySem.W.Frag} {H : Hp} : ∀ os : List (Option Nat), DpAll K H (os.map oV) (os.map oD)
  | [] => .nil
  | none :: os => .cons .non (dpAll_oD os)
  | some n :: os => .cons (.int _) (dpAll_oD os)
theorem cnt_oD : ∀ os : List (Option Nat), ((os.map oD).countP fun z => PyData.eqv z .none) = os.count none
  | [] => rfl
  | none :: os => by
    rw [List.map_cons, List.countP_cons, cnt_oD os, List.count_cons]
    rfl
  | some n :: os => by
    rw [List.map_cons, List.countP_cons, cnt_oD os, List.count_cons]
    rfl
section
variable {P : Program} {w : World} {K : PySem.W.Frag} {mg : Str → Option Value} {base : Heap}
abbrev s_need_code : Stmt := top 16
abbrev N_need_code : List Str := ["code"]
theorem sc_need_code : FnScope N_need_code ["code"] (defScope s_need_code) := ⟨rfl, rfl, rfl, by decide +kernel, rfl, by decide +kernel, by decide +kernel⟩
theorem ok_need_code {f : Addr} {fd : FuncData} (F : FnP K "need_code" s_need_code f fd) (Z : FreeS mg)
    {f_is_code : Addr} {d_is_code : FuncData} (g_is_code : mg "is_code" = some (.ref f_is_code)) (F_is_code : FnP K "is_code" s_is_code f_is_code d_is_code) (G_is_code : FnOk P w K mg base CX0 4 f_is_code d_is_code ["value"] spIsCode) :
    FnOk P w K mg base CX0 5 f fd ["code"] spNeedCode := by
  have b_is_code : Binds K d_is_code ["value"] [] := F_is_code.bindsN fun _ _ _ _ _ _ us hl => match us, hl with | [_], _ => rfl
  refine F.ok sc_need_code (fun vs H Q E h => ?_) (fun cdv A outer s H vs Q E hr h => ?_)
  · obtain ⟨a, c, m, rfl, _⟩ := h
    rfl
  · obtain ⟨a, c, m, rfl, hc, g, k⟩ := h
    have nd := sc_need_code.nd
    refine ⟨_, PSs.nox (pss_one (ps_if (pt_not (pt_val (pe_call G_is_code (hr.mono (by decide)) rfl g_is_code F_is_code.kp b_is_code .nil pass0 (pa_cons (pv 0) (pa_nil))))) (pss_one (ps_dead)) (pss_nil))), ?_⟩
    exact ⟨_, rfl, a, c, m, rfl, hc, g, fun H1 s1 => ⟨true, rfl, iteF (k H1 s1)⟩⟩
abbrev s_need_position : Stmt := top 17
abbrev N_need_position : List Str := ["code", "position"]
theorem sc_need_position : FnScope N_need_position ["code", "position"] (defScope s_need_position) := ⟨rfl, rfl, rfl, by decide +kernel, rfl, by decide +kernel, by decide +kernel⟩
theorem ok_need_position {f : Addr} {fd : FuncData} (F : FnP K "need_position" s_need_position f fd) (Z : FreeS mg)
    {f_is_count_below : Addr} {d_is_count_below : FuncData} (g_is_count_below : mg "is_count_below" = some (.ref f_is_count_below)) (F_is_count_below : FnP K "is_count_below" s_is_count_below f_is_count_below d_is_count_below) (G_is_count_below : FnOk P w K mg base CX0 3 f_is_count_below d_is_count_below ["value", "bound"] spBelow) :
    FnOk P w K mg base CX0 4 f fd ["code", "position"] spNeedPos := by
  have b_is_count_below : Binds K d_is_count_below ["value", "bound"] [] := F_is_count_below.bindsN fun _ _ _ _ _ _ us hl => match us, hl with | [_, _], _ => rfl
  refine F.ok sc_need_position (fun vs H Q E h => ?_) (fun cdv A outer s H vs Q E hr h => ?_)
  · obtain ⟨a, c, i, rfl, _⟩ := h
    rfl
  · obtain ⟨a, c, i, rfl, hc, hi, k⟩ := h
    obtain ⟨xs, ha, lx, hx⟩ := hc.at
    have nd := sc_need_position.nd
    refine ⟨_, PSs.nox (pss_one (ps_if (pt_not (pt_val (pe_call G_is_count_below (hr.mono (by decide)) rfl g_is_count_below F_is_count_below.kp b_is_count_below .nil pass0 (pa_cons (pv 1) (pa_cons (pe_callB call_len_seq (by rfl) Z.len (by decide +kernel) (pa_cons (pv 0) (pa_nil))) (pa_nil)))))) (pss_one (ps_dead)) (pss_nil))), ?_⟩
    refine ⟨_, rfl, _, rfl, a, _, rfl, .inl (SqL.of ha), i, xs.length, rfl, ?_⟩
    rw [lx, decide_eq_true hi]
    exact ⟨true, rfl, iteF k⟩
abbrev s_shows_two : Stmt := top 18
abbrev N_shows_two : List Str := ["one", "other", "value", "changed", "unread", "strange", "x", "y", "sign"]
theorem sc_shows_two : FnScope N_shows_two ["one", "other", "value", "changed", "unread"] (defScope s_shows_two) := ⟨rfl, rfl, rfl, by decide +kernel, rfl, by decide +kernel, by decide +kernel⟩
theorem ok_shows_two {f : Addr} {fd : FuncData} (F : FnP K "shows_two" s_shows_two f fd) (Z : FreeS mg)
    {f_is_count : Addr} {d_is_count : FuncData} (g_is_count : mg "is_count" = some (.ref f_is_count)) (F_is_count : FnP K "is_count" s_is_count f_is_count d_is_count) (G_is_count : FnOk P w K mg base CX0 2 f_is_count d_is_count ["value"] (spCount K)) :
    FnOk P w K mg base CX0 3 f fd ["one", "other", "value", "changed", "unread"] (spShows K) := by
  have b_is_count : Binds K d_is_count ["value"] [] := F_is_count.bindsN fun _ _ _ _ _ _ us hl => match us, hl with | [_], _ => rfl
  refine F.ok sc_shows_two (fun vs H Q E h => ?_) (fun cdv A outer s H vs Q E hr h => ?_)
  · obtain ⟨p, q, r1, r2, v, r, ch, un, rfl, _⟩ := h
    rfl
  · obtain ⟨p, q, r1, r2, v, r, ch, un, rfl, hp, hq, ⟨l1, l2⟩, hv, k⟩ := h
    have hu : (A.deeper (envOfC "shows_two" (defScope s_shows_two) s.heap.objs.size f cdv)).units + 65 < cLine := by
      have := hr.un
      omega
    have nd := sc_shows_two.nd
    refine ⟨_, PSs.nox (pss_cons (ps_if (PW.pt (pw_or (pt_not (pt_val (pe_callB call_isi (by rfl) Z.isi (by decide +kernel) (pa_cons (pv 2) (pa_cons (pe_bltn (v := .ty "list") (by rfl) Z.tlist (by decide +kernel) rfl) pa_nil))))) (pw_or1 (pt_cmpR op_ne (pe_callB call_len_seq (by rfl) Z.len (by decide +kernel) (pa_cons (pv 2) (pa_nil))) (pe_callB call_len_seq (by rfl) Z.len (by decide +kernel) (pa_cons (pv 0) (pa_nil))) (nomark _))))) (pss_one (ps_ret (pe_bl))) (pss_nil))
      (pss_cons (ps_if (pt_not (pt_val (pe_callB (cr_all rfl) (by rfl) Z.all (by decide +kernel) (pa_cons (pe_lc (own := [("sign", 8)]) (g := gName 8) (tt := tYes) (te := tOrV (tOp rIsN (tVar 8) (tC .non)) (tCall (spCount K) [] E0 (tCons (tVar 8) (tNil)))) (by rfl) nd (pi_list (pv 2))
          (blkOk_by (own := [("sign", 8)]) (N := N_shows_two) (sc := defScope s_shows_two) (by decide +kernel)) (fun _ _ _ _ _ => pg_name (i := 8) nd rfl (Or.inl rfl)) (fun _ _ _ _ _ => pts_nil)
          (fun _ _ _ _ _ => pe_or (pe_cmpR op_isN (pv 8) (pe_non) (nomark _)) (pe_one (pe_call G_is_count (hr.mono (by decide)) rfl g_is_count F_is_count.kp b_is_count .nil pass0 (pa_cons (pv 8) (pa_nil)))))) (pa_nil))))) (pss_one (ps_ret (pe_bl))) (pss_nil))
      (pss_cons (ps_setLc (i := 5) (own := [("x", 6), ("y", 7), ("sign", 8)]) (g := gTup K 3 (gCons (gName 6) (gCons (gName 7) (gCons (gName 8) (gNil))))) (tt := tAnd (tTest (tOp rNotN (tVar 8) (tC .non))) (tAnd (tTest (tOp rNe (tVar 8) (tVar 6))) (tTest (tOp rNe (tVar 8) (tVar 7))))) (te := tVar 8) (by rfl) nd rfl rfl rfl (pi_zip3 (by rfl) Z.zip (pa_cons (pv 0) (pa_cons (pv 1) (pa_cons (pv 2) (pa_nil)))))
          (blkOk_by (own := [("x", 6), ("y", 7), ("sign", 8)]) (N := N_shows_two) (sc := defScope s_shows_two) (by decide +kernel)) (fun _ _ _ _ _ => pg_tup rfl (pgs_cons (pg_name (i := 6) nd rfl (Or.inl rfl)) (pgs_cons (pg_name (i := 7) nd rfl (Or.inl rfl)) (pgs_cons (pg_name (i := 8) nd rfl (Or.inl rfl)) (pgs_nil))))) (fun _ _ _ _ _ => pts_one (PW.pt (pw_and (pt_cmpR op_notN (pv 8) (pe_non) (nomark _)) (pw_and (pt_cmpR op_ne (pv 8) (pv 6) (nomark _)) (pw_and1 (pt_cmpR op_ne (pv 8) (pv 7) (nomark _)))))))
          (fun _ _ _ _ _ => pv 8))
      (pss_one (ps_ret (pe_and (pe_cmpR op_le (pe_bm PySem.F.plainAttrs_list PySem.F.slot_list_count PySem.F.type_list_count (mt_countD hu) (pv 2) (pa_cons (pe_non) (pa_nil))) (pv 4) (nomark _)) (pe_one (pe_cmpR op_le (pe_callB call_len_seq (by rfl) Z.len (by decide +kernel) (pa_cons (pv 5) (pa_nil))) (pv 3) (nomark _))))))))), ?_⟩
    cases hv with
    | odd ho =>
      rcases ho with ⟨t, ty, kl⟩ | ⟨a, xs, rfl, ha, xl, alt⟩
      · exact ⟨_, rfl, v, .ty "list", .type t, .type "list", false, rfl, .ty _, ty, kit_ty kl, false, rfl, iteT (k _ (Same.refl _))⟩
      refine ⟨_, rfl, .ref a, .ty "list", .type "list", .type "list", true, rfl, .ty _, .base (.lst ha), kit_ty (by decide +kernel), true, rfl, iteF ?_⟩
      refine ⟨_, rfl, a, xs, rfl, .inl (SqL.of ha), _, rfl, p, _, rfl, .inl (SqL.of hp), rfl, _, rfl, ?_⟩
      by_cases hl : xs.length = r1.length
      · rw [numsV_len, decide_eq_true (congrArg (fun n : Nat => V.int (n : Int)) hl)]
        refine iteF ?_
        rcases alt with z | ⟨bs, bl, bf, be⟩
        · exact absurd hl z
        refine ⟨_, rfl, a, rfl, ⟨_, SqL.of ha⟩, fun D hD => ?_⟩
        refine lc_sel (walk_list (K := K) (a := a) (xs := xs)) (fun i => some (.bl (bs.getD i false))) (by omega) hD (fun H2 s2 => SqL.of (s2 _ _ ha)) ?_ ?_
        · rintro i x H2 H3 Qy Qn hi sH ⟨rfl, hx⟩ ky kn
          have hb : bs[i]? = some (bs[i]'(by omega)) := List.getElem?_eq_getElem _
          have ed : bs.getD i false = bs[i]'(by omega) := by rw [List.getD_eq_getElem?_getD, hb]; rfl
          rcases (be i x _ hx hb).up sH with ⟨rfl, e⟩ | ⟨n, hc⟩
          · refine ⟨rfl, _, rfl, rfl, _, rfl, ?_⟩
            refine iteT (ky _ _ (Same.refl _) ?_)
            rw [ed, e]
          · refine ⟨rfl, _, rfl, rfl, _, rfl, ?_⟩
            rw [decide_eq_false n]
            refine iteF ⟨_, rfl, _, _, rfl, hc, ky _ _ (Same.refl _) ?_⟩
            rw [ed]
        · intro H2 s2 hR
          have el : ((List.range xs.length).filterMap fun i => some (V.bl (bs.getD i false))) = bs.map V.bl := by
            rw [List.filterMap_eq_map']
            apply List.ext_getElem?
            intro j
            rw [List.getElem?_map, List.getElem?_map]
            by_cases hj : j < xs.length
            · rw [List.getElem?_range hj, List.getElem?_eq_getElem (by omega)]
              simp [List.getD_eq_getElem?_getD, List.getElem?_eq_getElem (show j < bs.length by omega)]
            · rw [List.getElem?_eq_none (by simp; omega), List.getElem?_eq_none (by omega)]
              rfl
          rw [el] at hR
          refine ⟨D, bs, rfl, SqL.of hR, false, ?_, iteT (k _ s2)⟩
          have : bs.all id = false := by
            rw [List.all_eq_false]
            exact ⟨false, bf, by simp⟩
          rw [this]
      · rw [numsV_len, decide_eq_false fun z => hl (by have := V.int.inj z; omega)]
        exact iteT (k _ (Same.refl _))
    | @pic a os ha lo =>
      refine ⟨_, rfl, .ref a, .ty "list", .type "list", .type "list", true, rfl, .ty _, .base (.lst ha), kit_ty (by decide +kernel), true, rfl, iteF ?_⟩
      refine ⟨_, rfl, a, _, rfl, .inl (SqL.of ha), _, rfl, p, _, rfl, .inl (SqL.of hp), rfl, _, rfl, ?_⟩
      rw [numsV_len, List.length_map, lo, decide_eq_true rfl]
      refine iteF ?_
      refine ⟨_, rfl, a, rfl, ⟨_, SqL.of ha⟩, fun D hD => ?_⟩
      refine lc_sel (walk_list (K := K) (a := a) (xs := os.map oV)) (fun _ => some (.bl true)) (by rw [List.length_map]; omega) hD (fun H2 s2 => SqL.of (s2 _ _ ha)) ?_ ?_
      · rintro i x H2 H3 Qy Qn hi sH ⟨rfl, hx⟩ ky kn
        rw [List.getElem?_map] at hx
        obtain ⟨o, ho, rfl⟩ := Option.map_eq_some_iff.mp hx
        cases o with
        | none => exact ⟨rfl, _, rfl, rfl, _, rfl, iteT (ky _ _ (Same.refl _) rfl)⟩
        | some n => exact ⟨rfl, _, rfl, rfl, _, rfl, iteF ⟨_, rfl, _, _, rfl, CntV.nat n, ky _ _ (Same.refl _) rfl⟩⟩
      intro H2 s2 hR
      obtain ⟨bs, hB, hb⟩ := all_bits (K := K) hR
      refine ⟨D, bs, rfl, hB, ?_⟩
      rw [hb]
      refine ⟨true, rfl, iteF ?_⟩
      have hp2 := s2 _ _ hp
      have hq2 := s2 _ _ hq
      have ha2 := s2 _ _ ha
      have lm : (os.map oV).length = os.length := List.length_map _
      have ln1 := numsV_len r1
      have ln2 := numsV_len r2
      refine ⟨_, rfl, _, rfl, _, rfl, p, q, a, _, _, _, rfl, SqL.of hp2, SqL.of hq2, SqL.of ha2, fun D2 hD2 => ?_⟩
      refine lc_sel (n := os.length) (walk_zip3 (K := K) (a := p) (b := q) (c := a) (xs := numsV r1) (ys := numsV r2) (zs := os.map oV) (by omega) (by omega) (by omega)) (offV r1 r2 os) (by omega) hD2 (fun H3 s3 => ⟨SqL.of (s3 _ _ hp2), SqL.of (s3 _ _ hq2), SqL.of (s3 _ _ ha2)⟩) ?_ ?_
      · rintro i x H3 H4 Qy Qn hi sH ⟨T, x1, x2, x3, rfl, nT, rfl, g1, g2, g3⟩ ky kn
        dsimp only at g1 g2 g3
        obtain ⟨hi1, rfl⟩ := numsV_at g1
        obtain ⟨hi2, rfl⟩ := numsV_at g2
        rw [List.getElem?_map, List.getElem?_eq_getElem hi] at g3
        cases g3
        have sT : ∀ o, Same H3 (upd H3 T o) := fun _ => Same.updf nT
        refine ⟨T, _, rfl, SqT.of upd_same, rfl, _, _, rfl, _, _, rfl, _, _, rfl, rfl, ?_⟩
        have ov := offV_at (r1 := r1) (r2 := r2) hi
        have d1 : r1.getD i 0 = r1[i] := by rw [List.getD_eq_getElem?_getD, List.getElem?_eq_getElem hi1]; rfl
        have d2 : r2.getD i 0 = r2[i] := by rw [List.getD_eq_getElem?_getD, List.getElem?_eq_getElem hi2]; rfl
        rw [d1, d2] at ov
        generalize hO : os[i] = o at ov ⊢
        cases o with
        | none => exact ⟨rfl, _, rfl, rfl, _, rfl, iteF (kn _ (sT _) ov)⟩
        | some n =>
          dsimp only at ov
          refine ⟨rfl, _, rfl, rfl, _, rfl, iteT ⟨_, rfl, _, rfl, rfl, _, rfl, ?_⟩⟩
          by_cases h1 : n = r1[i]
          · rw [show decide (oV (some n) = V.int (r1[i] : Int)) = true from decide_eq_true (congrArg (fun n : Nat => V.int (n : Int)) h1)]
            exact iteF (kn _ (sT _) (by rw [ov, if_neg fun z => z.1 h1]))
          rw [show decide (oV (some n) = V.int (r1[i] : Int)) = false from decide_eq_false fun z => h1 (by have := V.int.inj z; omega)]
          refine iteT ⟨_, rfl, _, rfl, rfl, _, rfl, ?_⟩
          by_cases h2 : n = r2[i]
          · rw [show decide (oV (some n) = V.int (r2[i] : Int)) = true from decide_eq_true (congrArg (fun n : Nat => V.int (n : Int)) h2)]
            exact iteF (kn _ (sT _) (by rw [ov, if_neg fun z => z.2 h2]))
          rw [show decide (oV (some n) = V.int (r2[i] : Int)) = false from decide_eq_false fun z => h2 (by have := V.int.inj z; omega)]
          exact iteT ⟨_, rfl, ky _ _ (sT _) (by rw [ov, if_pos ⟨h1, h2⟩]; rfl)⟩
      intro H3 s3 hR3
      have ha3 := s3 _ _ ha2
      refine ⟨_, rfl, Or.inl ⟨rfl, _, SqL.of ha3⟩, a, .non, .none, _, rfl, rfl, .lst (SqL.of ha3) (dpAll_oD os), .non, shaped_oD os, rfl, ?_⟩
      rw [cnt_oD]
      refine ⟨_, rfl, _, _, rfl, rfl, _, rfl, ?_⟩
      have k3 := k _ (s2.trans s3)
      have se : shB r1 r2 (some os) ch un = (decide (os.count none ≤ un) && decide (offN r1 r2 os ≤ ch)) := rfl
      rw [se] at k3
      by_cases c1 : os.count none ≤ un
      · rw [show decide (((os.count none : Nat) : Int) ≤ (un : Int)) = true from decide_eq_true (by omega)]
        rw [decide_eq_true c1, Bool.true_and] at k3
        refine iteT ⟨_, rfl, D2, _, rfl, .inl (SqL.of hR3), _, rfl, _, _, rfl, rfl, ?_⟩
        rw [offV_len]
        have e5 : decide (((offN r1 r2 os : Nat) : Int) ≤ (ch : Int)) = decide (offN r1 r2 os ≤ ch) := by
          by_cases c2 : offN r1 r2 os ≤ ch
          · rw [decide_eq_true c2, decide_eq_true (by omega)]
          · rw [decide_eq_false c2, decide_eq_false (by omega)]
        show Q (.bl (decide (((offN r1 r2 os : Nat) : Int) ≤ (ch : Int)))) H3
        rw [e5]
        exact k3
      · rw [show decide (((os.count none : Nat) : Int) ≤ (un : Int)) = false from decide_eq_false (by omega)]
        rw [decide_eq_false c1, Bool.false_and] at k3
        exact iteF k3
end
end K06
set_option Elab.async false
set_option linter.all false
set_option maxRecDepth 100000
set_option maxHeartbeats 8000000
/-! all_twos, is_picture, twos. -/
namespace K06
open PySem PySem.Spec PyProof.Rows L2 KB
def PairAt (H : Hp) (p : Nat × Nat) (y : V) : Prop := ∃ T, y = .ref T ∧ H T = some (.tup [.int (p.1 : Int), .int (p.2 : Int)])
theorem PairAt.same {H H' : Hp} (k : Same H H') {p : Nat × Nat} {y : V} : PairAt H p y → PairAt H' p y := fun ⟨T, e, h⟩ => ⟨T, e, k _ _ h⟩
theorem PairAt.updL {G : Hp} {D : Addr} {zs : List V} {o : HO} (hD : G D = some (.lst zs)) {p : Nat × Nat} {y : V} : PairAt G p y → PairAt (upd G D o) p y := fun ⟨T, e, h⟩ => ⟨T, e, by
  rw [upd_ne fun z => by rw [z, hD] at h; cases h]
  exact h⟩
def PairsAt (H : Hp) (D : Addr) (ps : List (Nat × Nat)) : Prop := ∃ ys, H D = some (.lst ys) ∧ Paired (PairAt H) ps ys
theorem PairsAt.same {H H' : Hp} (k : Same H H') {D : Addr} {ps : List (Nat × Nat)} : PairsAt H D ps → PairsAt H' D ps := fun ⟨ys, h, p⟩ => ⟨ys, k _ _ h, paired_mono (fun _ _ q => q.same k) p⟩
def twosUp (n i : Nat) : List (Nat × Nat) := (List.range i).flatMap fun a => (List.range (n - a)).map fun j => (a, a + j)
abbrev twosL (n : Nat) : List (Nat × Nat) := twosUp n n
theorem twosUp_succ (n i : Nat) : twosUp n (i + 1) = twosUp n i ++ (List.range (n - i)).map fun j => (i, i + j) := by
  unfold twosUp
  rw [List.range_succ, List.flatMap_append]
  simp
theorem twosUp_len (n i : Nat) : (twosUp n i).length ≤ i * n := by
  induction i with
  | zero => exact Nat.zero_le _
  | succ i ih =>
    rw [twosUp_succ, List.length_append, List.length_map, List.length_range, Nat.succ_mul]
    omega
theorem twosL_mem {n : Nat} {p : Nat × Nat} (h : p ∈ twosL n) : p.1 < n ∧ p.2 < n ∧ p.1 ≤ p.2 := by
  obtain ⟨a, h1, h2⟩ := List.mem_flatMap.mp h
  obtain ⟨j, h3, rfl⟩ := List.mem_map.mp h2
  have := List.mem_range.mp h1
  have := List.mem_range.mp h3
  exact ⟨by assumption, by dsimp only; omega, by dsimp only; omega⟩
def twosR (c : List (List Nat)) (r : Option (List (Option Nat))) (ch un : Nat) : List (Nat × Nat) := (twosL c.length).filter fun p => shB (c.getD p.1 []) (c.getD p.2 []) r ch un
def spAllTwos : Sp := fun vs H Q _ => ∃ (a : Addr) (c : List (List Nat)), vs = [.ref a] ∧ CodeAt H a c ∧ c.length ≤ 30 ∧ ∀ D H', Same H H' → H D = none → PairsAt H' D (twosL c.length) → Q (.ref D) H'
def spIsPic (K : PySem.W.Frag) : Sp := fun vs H Q _ => ∃ (a : Addr) (c : List (List Nat)) (m i j : Nat) (v : V) (r : Option (List (Option Nat))) (ch un : Nat), vs = [.ref a, .int (i : Int), .int (j : Int), v, .int (ch : Int), .int (un : Int)] ∧ CodeAt H a c ∧ Good c m ∧ i < c.length ∧ j < c.length ∧ ValAt K H m v r ∧
  ∀ H', Same H H' → Q (.bl (shB (c.getD i []) (c.getD j []) r ch un)) H'
def spTwos (K : PySem.W.Frag) : Sp := fun vs H Q _ => ∃ (a : Addr) (c : List (List Nat)) (m : Nat) (v : V) (r : Option (List (Option Nat))) (ch un : Nat), vs = [.ref a, v, .int (ch : Int), .int (un : Int)] ∧ CodeAt H a c ∧ Good c m ∧ ValAt K H m v r ∧
  ∀ D H', Same H H' → H D = none → PairsAt H' D (twosR c r ch un) → Q (.ref D) H'
section
variable {P : Program} {w : World} {K : PySem.W.Frag} {mg : Str → Option Value} {base : Heap}
abbrev s_all_twos : Stmt := top 19
abbrev N_all_twos : List Str := ["code", "one", "other"]
theorem sc_all_twos : FnScope N_all_twos ["code"] (defScope s_all_twos) := ⟨rfl, rfl, rfl, by decide +kernel, rfl, by decide +kernel, by decide +kernel⟩
theorem ok_all_twos {f : Addr} {fd : FuncData} (F : FnP K "all_twos" s_all_twos f fd) (Z : FreeS mg) :
    FnOk P w K mg base CX0 1 f fd ["code"] spAllTwos := by
  refine F.ok sc_all_twos (fun vs H Q E h => ?_) (fun cdv A outer s H vs Q E hr h => ?_)
  · obtain ⟨a, c, rfl, _⟩ := h
    rfl
  · obtain ⟨a, c, rfl, hc, c30, k⟩ := h
    obtain ⟨xs, ha, lx, hx⟩ := hc.at
    have nd := sc_all_twos.nd
    refine ⟨_, PSs.nox (pss_one (ps_ret (pe_lc2 (own := [("one", 1), ("other", 2)]) (vs1 := [2]) (g := gName 1) (g1 := gName 2) (tt := tYes) (tt1 := tYes) (te := tTup (tCons (tVar 1) (tCons (tVar 2) (tNil)))) (wi1 := iRng2 (tCons (tVar 1) (tCons (tCB (rLenS K) (tCons (tVar 0) (tNil))) (tNil)))) rfl nd (pi_range1 (by rfl) Z.range (pa_cons (pe_callB call_len_seq (by rfl) Z.len (by decide +kernel) (pa_cons (pv 0) (pa_nil))) (pa_nil))) (blkOk_by (own := [("one", 1), ("other", 2)]) (N := N_all_twos) (sc := defScope s_all_twos) (by decide +kernel)) (by decide) (fun _ _ _ _ _ => pg_name (i := 1) nd rfl (Or.inl rfl)) (fun _ _ _ _ _ => pts_nil) (fun _ _ _ _ _ => pi_range2 (by rfl) Z.range (pa_cons (pv 1) (pa_cons (pe_callB call_len_seq (by rfl) Z.len (by decide +kernel) (pa_cons (pv 0) (pa_nil))) (pa_nil)))) (fun _ _ _ _ _ => pg_name (i := 2) nd rfl (Or.inl rfl)) (fun _ _ _ _ _ => pts_nil) (fun _ _ _ _ _ => pe_tup (pa_cons (pv 1) (pa_cons (pv 2) (pa_nil))))))), ?_⟩
    refine ⟨_, rfl, a, _, rfl, .inl (SqL.of ha), (xs.length : Int), rfl, by omega, by omega, fun D hD => ?_⟩
    have e0 : ((xs.length : Int)).toNat = c.length := by omega
    rw [e0]
    refine cl_walk (walk_range (lo := 0) (n := c.length)) (fun i G => Same H G ∧ ∃ ys, G D = some (.lst ys) ∧ Paired (PairAt G) (twosUp c.length i) ys) ⟨Same.updf hD, [], upd_same, .nil⟩ (fun i G _ hh => trivial) ?_ ?_
    · rintro i x G0 G hi ⟨sG, ys, hy, py⟩ ⟨rfl, rfl⟩
      refine ⟨rfl, ?_⟩
      have haG := sG _ _ ha
      have l30 := twosUp_len c.length i
      have n9 : i * c.length ≤ 900 := Nat.mul_le_mul (show i ≤ 30 by omega) c30
      refine ⟨_, rfl, _, rfl, a, _, rfl, .inl (SqL.of haG), (0 + (i : Int)), (xs.length : Int), rfl, by omega, ?_⟩
      have e1 : ((xs.length : Int) - (0 + (i : Int))).toNat = c.length - i := by omega
      rw [e1]
      refine cl_walk (walk_range (lo := 0 + (i : Int)) (n := c.length - i)) (fun j G => Same H G ∧ ∃ ys, G D = some (.lst ys) ∧ Paired (PairAt G) (twosUp c.length i ++ (List.range j).map fun j => (i, i + j)) ys) ⟨sG, ys, hy, by rw [List.range_zero, List.map_nil, List.append_nil]; exact py⟩ (fun i G _ hh => trivial) ?_ ?_
      · rintro j x G2 G3 hj ⟨s3, zs, hz, pz⟩ ⟨rfl, rfl⟩
        have h2 : (100000 : Nat) < sizeLine := by decide
        refine ⟨rfl, _, rfl, _, rfl, (by show 2 ≤ sizeLine; decide), fun T hT => ?_⟩
        have nT : T ≠ D := fun z => by rw [z, hz] at hT; cases hT
        have sT := Same.updf (o := .tup [.int (0 + (i : Int)), .int (0 + (i : Int) + (j : Int))]) hT
        have lz := pz.length
        rw [List.length_append, List.length_map, List.length_range] at lz
        refine ⟨zs, by rw [upd_ne (Ne.symm nT)]; exact hz, by omega, ?_⟩
        refine ⟨fun b o e => ?_, zs ++ [.ref T], upd_same, ?_⟩
        · rw [upd_ne (ne_of_none e hD)]
          exact sT _ _ (s3 _ _ e)
        · rw [List.range_succ, List.map_append, ← List.append_assoc]
          have hz2 : (upd G3 T (.tup [.int (0 + (i : Int)), .int (0 + (i : Int) + (j : Int))])) D = some (.lst zs) := by rw [upd_ne (Ne.symm nT)]; exact hz
          refine paired_snoc (paired_mono (fun _ _ q => (q.same sT).updL hz2) pz) ⟨T, rfl, ?_⟩
          rw [upd_ne nT, upd_same]
          dsimp only
          rw [show (0 + (i : Int)) = ((i : Nat) : Int) by omega, show ((i : Nat) : Int) + (j : Int) = ((i + j : Nat) : Int) by omega]
      · rintro G4 ⟨s4, zs, hz, pz⟩
        exact ⟨s4, zs, hz, by rw [twosUp_succ]; exact pz⟩
    · rintro G ⟨sG, ys, hy, py⟩
      exact k D G sG hD ⟨ys, hy, py⟩
abbrev s_is_picture : Stmt := top 20
abbrev N_is_picture : List Str := ["code", "one", "other", "value", "changed", "unread"]
theorem sc_is_picture : FnScope N_is_picture ["code", "one", "other", "value", "changed", "unread"] (defScope s_is_picture) := ⟨rfl, rfl, rfl, by decide +kernel, rfl, by decide +kernel, by decide +kernel⟩
theorem ok_is_picture {f : Addr} {fd : FuncData} (F : FnP K "is_picture" s_is_picture f fd) (Z : FreeS mg)
    {f_need_code : Addr} {d_need_code : FuncData} (g_need_code : mg "need_code" = some (.ref f_need_code)) (F_need_code : FnP K "need_code" s_need_code f_need_code d_need_code) (G_need_code : FnOk P w K mg base CX0 5 f_need_code d_need_code ["code"] spNeedCode)
    {f_need_position : Addr} {d_need_position : FuncData} (g_need_position : mg "need_position" = some (.ref f_need_position)) (F_need_position : FnP K "need_position" s_need_position f_need_position d_need_position) (G_need_position : FnOk P w K mg base CX0 4 f_need_position d_need_position ["code", "position"] spNeedPos)
    {f_need_changed_and_unread : Addr} {d_need_changed_and_unread : FuncData} (g_need_changed_and_unread : mg "need_changed_and_unread" = some (.ref f_need_changed_and_unread)) (F_need_changed_and_unread : FnP K "need_changed_and_unread" s_need_changed_and_unread f_need_changed_and_unread d_need_changed_and_unread) (G_need_changed_and_unread : FnOk P w K mg base CX0 4 f_need_changed_and_unread d_need_changed_and_unread ["changed", "unread"] spNeedCU)
    {f_shows_two : Addr} {d_shows_two : FuncData} (g_shows_two : mg "shows_two" = some (.ref f_shows_two)) (F_shows_two : FnP K "shows_two" s_shows_two f_shows_two d_shows_two) (G_shows_two : FnOk P w K mg base CX0 3 f_shows_two d_shows_two ["one", "other", "value", "changed", "unread"] (spShows K)) :
    FnOk P w K mg base CX0 6 f fd ["code", "one", "other", "value", "changed", "unread"] (spIsPic K) := by
  have b_need_code : Binds K d_need_code ["code"] [] := F_need_code.bindsN fun _ _ _ _ _ _ us hl => match us, hl with | [_], _ => rfl
  have b_need_position : Binds K d_need_position ["code", "position"] [] := F_need_position.bindsN fun _ _ _ _ _ _ us hl => match us, hl with | [_, _], _ => rfl
  have b_need_changed_and_unread : Binds K d_need_changed_and_unread ["changed", "unread"] [] := F_need_changed_and_unread.bindsN fun _ _ _ _ _ _ us hl => match us, hl with | [_, _], _ => rfl
  have b_shows_two : Binds K d_shows_two ["one", "other", "value", "changed", "unread"] [] := F_shows_two.bindsN fun _ _ _ _ _ _ us hl => match us, hl with | [_, _, _, _, _], _ => rfl
  refine F.ok sc_is_picture (fun vs H Q E h => ?_) (fun cdv A outer s H vs Q E hr h => ?_)
  · obtain ⟨a, c, m, i, j, v, r, ch, un, rfl, _⟩ := h
    rfl
  · obtain ⟨a, c, m, i, j, v, r, ch, un, rfl, hc, g, hi, hj, hv, k⟩ := h
    have nd := sc_is_picture.nd
    refine ⟨_, PSs.nox (pss_cons (ps_expr (pe_call G_need_code (hr.mono (by decide)) rfl g_need_code F_need_code.kp b_need_code .nil pass0 (pa_cons (pv 0) (pa_nil))))
      (pss_cons (ps_expr (pe_call G_need_position (hr.mono (by decide)) rfl g_need_position F_need_position.kp b_need_position .nil pass0 (pa_cons (pv 0) (pa_cons (pv 1) (pa_nil)))))
      (pss_cons (ps_expr (pe_call G_need_position (hr.mono (by decide)) rfl g_need_position F_need_position.kp b_need_position .nil pass0 (pa_cons (pv 0) (pa_cons (pv 2) (pa_nil)))))
      (pss_cons (ps_expr (pe_call G_need_changed_and_unread (hr.mono (by decide)) rfl g_need_changed_and_unread F_need_changed_and_unread.kp b_need_changed_and_unread .nil pass0 (pa_cons (pv 4) (pa_cons (pv 5) (pa_nil)))))
      (pss_one (ps_ret (pe_call G_shows_two (hr.mono (by decide)) rfl g_shows_two F_shows_two.kp b_shows_two .nil pass0 (pa_cons (pe_ix ix_list (pv 0) (pv 1) (fun _ _ => rfl)) (pa_cons (pe_ix ix_list (pv 0) (pv 2) (fun _ _ => rfl)) (pa_cons (pv 3) (pa_cons (pv 4) (pa_cons (pv 5) (pa_nil))))))))))))), ?_⟩
    refine ⟨_, rfl, a, c, m, rfl, hc, g, fun H1 s1 => ?_⟩
    have hc1 := hc.same s1
    refine ⟨_, rfl, _, rfl, a, c, i, rfl, hc1, hi, ?_⟩
    refine ⟨_, rfl, _, rfl, a, c, j, rfl, hc1, hj, ?_⟩
    refine ⟨_, rfl, _, rfl, ch, un, rfl, ?_⟩
    obtain ⟨xs, ha, lx, hx⟩ := hc1.at
    obtain ⟨p, p1, p2⟩ := hx i hi
    obtain ⟨q, q1, q2⟩ := hx j hj
    have li := g.len _ (List.getElem_mem hi)
    have lj := g.len _ (List.getElem_mem hj)
    have m100 := g.small
    have di : c.getD i [] = c[i] := by rw [List.getD_eq_getElem?_getD, List.getElem?_eq_getElem hi]; rfl
    have dj : c.getD j [] = c[j] := by rw [List.getD_eq_getElem?_getD, List.getElem?_eq_getElem hj]; rfl
    rw [di, dj] at k
    refine ⟨_, rfl, _, rfl, a, xs, i, .ref p, rfl, rfl, SqL.of ha, atI_nat p1, ?_⟩
    refine ⟨_, rfl, _, rfl, a, xs, j, .ref q, rfl, rfl, SqL.of ha, atI_nat q1, ?_⟩
    exact ⟨_, rfl, _, rfl, _, rfl, p, q, c[i], c[j], v, r, ch, un, rfl, p2, q2, ⟨by omega, by omega⟩, by rw [li]; exact hv.up s1, fun H2 s2 => k _ (s1.trans s2)⟩
abbrev s_twos : Stmt := top 21
abbrev N_twos : List Str := ["code", "value", "changed", "unread", "rows", "one", "other"]
theorem sc_twos : FnScope N_twos ["code", "value", "changed", "unread"] (defScope s_twos) := ⟨rfl, rfl, rfl, by decide +kernel, rfl, by decide +kernel, by decide +kernel⟩
theorem ok_twos {f : Addr} {fd : FuncData} (F : FnP K "twos" s_twos f fd) (Z : FreeS mg)
    {f_need_code : Addr} {d_need_code : FuncData} (g_need_code : mg "need_code" = some (.ref f_need_code)) (F_need_code : FnP K "need_code" s_need_code f_need_code d_need_code) (G_need_code : FnOk P w K mg base CX0 5 f_need_code d_need_code ["code"] spNeedCode)
    {f_need_changed_and_unread : Addr} {d_need_changed_and_unread : FuncData} (g_need_changed_and_unread : mg "need_changed_and_unread" = some (.ref f_need_changed_and_unread)) (F_need_changed_and_unread : FnP K "need_changed_and_unread" s_need_changed_and_unread f_need_changed_and_unread d_need_changed_and_unread) (G_need_changed_and_unread : FnOk P w K mg base CX0 4 f_need_changed_and_unread d_need_changed_and_unread ["changed", "unread"] spNeedCU)
    {f_all_twos : Addr} {d_all_twos : FuncData} (g_all_twos : mg "all_twos" = some (.ref f_all_twos)) (F_all_twos : FnP K "all_twos" s_all_twos f_all_twos d_all_twos) (G_all_twos : FnOk P w K mg base CX0 1 f_all_twos d_all_twos ["code"] spAllTwos)
    {f_shows_two : Addr} {d_shows_two : FuncData} (g_shows_two : mg "shows_two" = some (.ref f_shows_two)) (F_shows_two : FnP K "shows_two" s_shows_two f_shows_two d_shows_two) (G_shows_two : FnOk P w K mg base CX0 3 f_shows_two d_shows_two ["one", "other", "value", "changed", "unread"] (spShows K)) :
    FnOk P w K mg base CX0 6 f fd ["code", "value", "changed", "unread"] (spTwos K) := by
  have b_need_code : Binds K d_need_code ["code"] [] := F_need_code.bindsN fun _ _ _ _ _ _ us hl => match us, hl with | [_], _ => rfl
  have b_need_changed_and_unread : Binds K d_need_changed_and_unread ["changed", "unread"] [] := F_need_changed_and_unread.bindsN fun _ _ _ _ _ _ us hl => match us, hl with | [_, _], _ => rfl
  have b_all_twos : Binds K d_all_twos ["code"] [] := F_all_twos.bindsN fun _ _ _ _ _ _ us hl => match us, hl with | [_], _ => rfl
  have b_shows_two : Binds K d_shows_two ["one", "other", "value", "changed", "unread"] [] := F_shows_two.bindsN fun _ _ _ _ _ _ us hl => match us, hl with | [_, _, _, _, _], _ => rfl
  refine F.ok sc_twos (fun vs H Q E h => ?_) (fun cdv A outer s H vs Q E hr h => ?_)
  · obtain ⟨a, c, m, v, r, ch, un, rfl, _⟩ := h
    rfl
  · obtain ⟨a, c, m, v, r, ch, un, rfl, hc, g, hv, k⟩ := h
    have nd := sc_twos.nd
    refine ⟨_, PSs.nox (pss_cons (ps_expr (pe_call G_need_code (hr.mono (by decide)) rfl g_need_code F_need_code.kp b_need_code .nil pass0 (pa_cons (pv 0) (pa_nil))))
      (pss_cons (ps_expr (pe_call G_need_changed_and_unread (hr.mono (by decide)) rfl g_need_changed_and_unread F_need_changed_and_unread.kp b_need_changed_and_unread .nil pass0 (pa_cons (pv 2) (pa_cons (pv 3) (pa_nil)))))
      (pss_cons (ps_set (i := 4) nd rfl (Or.inl rfl) (pe_call G_all_twos (hr.mono (by decide)) rfl g_all_twos F_all_twos.kp b_all_twos .nil pass0 (pa_cons (pv 0) (pa_nil))))
      (pss_one (ps_ret (pe_lc (own := [("one", 5), ("other", 6)]) (g := gTup K 2 (gCons (gName 5) (gCons (gName 6) (gNil)))) (tt := tB (tCall (spShows K) [] E0 (tCons (tOp (rIxL K) (tVar 0) (tVar 5)) (tCons (tOp (rIxL K) (tVar 0) (tVar 6)) (tCons (tVar 1) (tCons (tVar 2) (tCons (tVar 3) (tNil)))))))) (te := tTup (tCons (tVar 5) (tCons (tVar 6) (tNil)))) (by rfl) nd (pi_list (pv 4))
          (blkOk_by (own := [("one", 5), ("other", 6)]) (N := N_twos) (sc := defScope s_twos) (by decide +kernel)) (fun _ _ _ _ _ => pg_tup rfl (pgs_cons (pg_name (i := 5) nd rfl (Or.inl rfl)) (pgs_cons (pg_name (i := 6) nd rfl (Or.inl rfl)) (pgs_nil)))) (fun _ _ _ _ _ => pts_one (pt_val (pe_call G_shows_two (hr.mono (by decide)) rfl g_shows_two F_shows_two.kp b_shows_two .nil pass0 (pa_cons (pe_ix ix_list (pv 0) (pv 5) (fun _ _ => rfl)) (pa_cons (pe_ix ix_list (pv 0) (pv 6) (fun _ _ => rfl)) (pa_cons (pv 1) (pa_cons (pv 2) (pa_cons (pv 3) (pa_nil)))))))))
          (fun _ _ _ _ _ => pe_tup (pa_cons (pv 5) (pa_cons (pv 6) (pa_nil)))))))))), ?_⟩
    refine ⟨_, rfl, a, c, m, rfl, hc, g, fun H1 s1 => ?_⟩
    have hc1 := hc.same s1
    refine ⟨_, rfl, _, rfl, ch, un, rfl, ?_⟩
    refine ⟨_, rfl, a, c, rfl, hc1, g.few, fun D0 H2 s2 n0 h0 => ?_⟩
    obtain ⟨ys, hy, py⟩ := h0
    obtain ⟨xs, ha, lx, hx⟩ := (hc1.same s2).at
    have lp := py.length
    have l30 := twosUp_len c.length c.length
    have n9 : c.length * c.length ≤ 900 := Nat.mul_le_mul g.few g.few
    refine ⟨_, rfl, D0, rfl, ⟨_, SqL.of hy⟩, fun D hD => ?_⟩
    have lp2 : (twosL c.length).length = ys.length := lp
    have s12 := s1.trans s2
    refine lc_rel (n := (twosL c.length).length) (by rw [lp2]; exact walk_list (K := K) (a := D0) (xs := ys)) (fun j => shB (c.getD ((twosL c.length).getD j (0, 0)).1 []) (c.getD ((twosL c.length).getD j (0, 0)).2 []) r ch un) (fun j y G => PairAt G ((twosL c.length).getD j (0, 0)) y) (fun j y G G' s h => h.same s) (by rw [show (twosL c.length).length = (twosUp c.length c.length).length from rfl]; omega) hD (fun G s => SqL.of (s _ _ hy)) ?_ ?_
    · rintro j x G0 G Qy Qn hj sG hacc ⟨rfl, hx2⟩ ky kn
      obtain ⟨pr, e1, T, rfl, hT⟩ := paired_get2 py hx2
      have ed : (twosL c.length).getD j (0, 0) = pr := by rw [List.getD_eq_getElem?_getD, e1]; rfl
      rw [ed] at ky kn
      obtain ⟨b1, b2, b3⟩ := twosL_mem (List.mem_of_getElem? e1)
      have hTG := sG _ _ hT
      refine ⟨T, _, rfl, SqT.of hTG, rfl, _, _, rfl, _, _, rfl, rfl, rfl, ?_⟩
      obtain ⟨p, p1, p2⟩ := hx pr.1 b1
      obtain ⟨q, q1, q2⟩ := hx pr.2 b2
      have li := g.len _ (List.getElem_mem b1)
      have lj := g.len _ (List.getElem_mem b2)
      have m100 := g.small
      have di : c.getD pr.1 [] = c[pr.1] := by rw [List.getD_eq_getElem?_getD, List.getElem?_eq_getElem b1]; rfl
      have dj : c.getD pr.2 [] = c[pr.2] := by rw [List.getD_eq_getElem?_getD, List.getElem?_eq_getElem b2]; rfl
      rw [di, dj] at ky kn
      refine ⟨_, rfl, _, rfl, a, xs, pr.1, .ref p, rfl, rfl, SqL.of (sG _ _ ha), atI_nat p1, ?_⟩
      refine ⟨_, rfl, _, rfl, a, xs, pr.2, .ref q, rfl, rfl, SqL.of (sG _ _ ha), atI_nat q1, ?_⟩
      refine ⟨_, rfl, _, rfl, _, rfl, p, q, c[pr.1], c[pr.2], v, r, ch, un, rfl, sG _ _ p2, sG _ _ q2, ⟨by omega, by omega⟩, by rw [li]; exact hv.up (s12.trans sG), fun G2 s2' => ?_⟩
      obtain ⟨acc, hacc⟩ := hacc
      cases cc : shB c[pr.1] c[pr.2] r ch un with
      | false => exact ⟨_, rfl, iteF (kn _ cc s2')⟩
      | true =>
        refine ⟨_, rfl, iteT ⟨_, rfl, _, rfl, (by show 2 ≤ sizeLine; decide), fun T2 hT2 => ?_⟩⟩
        have nT2 : T2 ≠ D := fun z => by
          rw [z] at hT2
          rw [s2' _ _ hacc] at hT2
          cases hT2
        refine ky _ _ cc (s2'.trans (Same.updf hT2)) ⟨T2, rfl, ?_⟩
        rw [KB.off_at nT2, upd_same]
    · intro G zs sG hz pz
      refine k D G (s12.trans sG) (none_back s12 hD) ⟨zs, hz, ?_⟩
      have := paired_selG (z := (0, 0)) (l := twosL c.length) (c := fun p => shB (c.getD p.1 []) (c.getD p.2 []) r ch un) (R := fun p y => PairAt (KB.off G D) p y) pz
      exact paired_mono (fun _ _ q => q.same (off_le _ D)) this
end
end K06
set_option Elab.async false
set_option linter.all false
set_option maxRecDepth 100000
set_option maxHeartbeats 8000000
/-! in_all, told_pages, told_page. -/
namespace K06
open PySem PySem.Spec PyProof.Rows L2 KB
/-- the pages in all pairs -/
def toldL (n : Nat) (ps : List (Nat × Nat)) : List Nat := (List.range n).filter fun x => decide (ps ≠ []) && ps.all fun p => decide (x = p.1) || decide (x = p.2)
def spInAll : Sp := fun vs H Q _ => ∃ (D : Addr) (ps : List (Nat × Nat)) (n : Nat), vs = [.ref D] ∧ PairsAt H D ps ∧ ps ≠ [] ∧ ps.length ≤ 1000 ∧ (∀ p ∈ ps, p.1 < n ∧ p.2 < n) ∧ ∀ q H', Same H H' → H q = none → H' q = some (.lst (numsV (toldL n ps))) → Q (.ref q) H'
def spToldPages (K : PySem.W.Frag) : Sp := fun vs H Q _ => ∃ (a : Addr) (c : List (List Nat)) (m : Nat) (v : V) (r : Option (List (Option Nat))) (ch un : Nat), vs = [.ref a, v, .int (ch : Int), .int (un : Int)] ∧ CodeAt H a c ∧ Good c m ∧ ValAt K H m v r ∧
  ∀ q H', Same H H' → H q = none → H' q = some (.lst (numsV (toldL c.length (twosR c r ch un)))) → Q (.ref q) H'
def firstV (l : List Nat) : V := match l with
  | [] => .non
  | x :: _ => .int (x : Int)
def spToldPage (K : PySem.W.Frag) : Sp := fun vs H Q _ => ∃ (a : Addr) (c : List (List Nat)) (m : Nat) (v : V) (r : Option (List (Option Nat))) (ch un : Nat), vs = [.ref a, v, .int (ch : Int), .int (un : Int)] ∧ CodeAt H a c ∧ Good c m ∧ ValAt K H m v r ∧
  ∀ H', Same H H' → Q (firstV (toldL c.length (twosR c r ch un))) H'
theorem asc_uniqI : ∀ {l m : List Int}, l.Pairwise (· < ·) → m.Pairwise (· < ·) → (∀ x, x ∈ l ↔ x ∈ m) → l = m
  | [], [], _, _, _ => rfl
  | [], b :: m, _, _, k => absurd ((k b).mpr (List.mem_cons_self ..)) (by simp)
  | a :: l, [], _, _, k => absurd ((k a).mp (List.mem_cons_self ..)) (by simp)
  | a :: l, b :: m, h1, h2, k => by
    have g1 := List.pairwise_cons.mp h1
    have g2 := List.pairwise_cons.mp h2
    have e : a = b := by
      rcases List.mem_cons.mp ((k a).mp (List.mem_cons_self ..)) with e | e
      · exact e
      · rcases List.mem_cons.mp ((k b).mpr (List.mem_cons_self ..)) with f | f
        · exact f.symm
        · have := g1.1 b f
          have := g2.1 a e
          omega
    subst e
    have : l = m := asc_uniqI g1.2 g2.2 fun x => by
      constructor
      · intro hx
        have lt := g1.1 x hx
        rcases List.mem_cons.mp ((k x).mp (List.mem_cons_of_mem _ hx)) with e | e
        · omega
        · exact e
      · intro hx
        have lt := g2.1 x hx
        rcases List.mem_cons.mp ((k x).mpr (List.mem_cons_of_mem _ hx)) with e | e
        · omega
        · exact e
    rw [this]
def hitB (p : Nat × Nat) (x : Int) : Bool := decide (x = (p.1 : Int)) || decide (x = (p.2 : Int))
def inAllB (ps : List (Nat × Nat)) (x : Int) : Bool := ps.all fun p => hitB p x
theorem inV_two (p : Nat × Nat) (X : Int) : some (V.bl (hitB p X)) = some (V.bl (inV (.int X) [.int (p.1 : Int), .int (p.2 : Int)])) := by
  have e : ∀ a : Int, eqV (.int a) (.int X) = decide (X = a) := fun a => by
    unfold eqV
    by_cases h : X = a
    · simp [h]
    · simp [h, Ne.symm h]
  unfold hitB
  simp only [inV, List.any_cons, List.any_nil, Bool.or_false, e]
theorem filterMap_getD {n : Nat} {f : Nat → V} : ((List.range n).filterMap fun j => some (f j)) = (List.range n).map f := by
  rw [List.filterMap_eq_map']
theorem sel_map (l : List (Nat × Nat)) (x : Int) : ((List.range l.length).map fun j => V.bl (hitB (l.getD j (0, 0)) x)) = (l.map fun p => hitB p x).map V.bl := by
  apply List.ext_getElem?
  intro j
  rw [List.getElem?_map, List.getElem?_map, List.getElem?_map]
  by_cases hj : j < l.length
  · rw [List.getElem?_range hj, List.getElem?_eq_getElem hj, Option.map_some, Option.map_some, Option.map_some, List.getD_eq_getElem?_getD, List.getElem?_eq_getElem hj]
    rfl
  · rw [List.getElem?_eq_none (by simp; omega), List.getElem?_eq_none (by omega)]
    rfl
theorem all_map_id (ps : List (Nat × Nat)) (x : Int) : V.bl ((ps.map fun p => hitB p x).all id) = V.bl (inAllB ps x) := by
  unfold inAllB
  rw [List.all_map]
  rfl
theorem told_eq {ns : List Int} {p0 : Nat × Nat} {ps : List (Nat × Nat)} {n : Nat} (asc : ns.Pairwise (· < ·)) (mem : ∀ x : Int, x ∈ ns ↔ (x = (p0.1 : Int) ∨ x = (p0.2 : Int))) (lt : ∀ p ∈ p0 :: ps, p.1 < n ∧ p.2 < n) :
    ((List.range ns.length).filterMap fun i => if inAllB (p0 :: ps) (ns.getD i 0) = true then some (V.int (ns.getD i 0)) else none) = numsV (toldL n (p0 :: ps)) := by
  have e1 : ((List.range ns.length).filterMap fun i => if inAllB (p0 :: ps) (ns.getD i 0) = true then some (V.int (ns.getD i 0)) else none) = (ns.filter fun x => inAllB (p0 :: ps) x).map V.int := by
    have e0 : ns = (List.range ns.length).map fun i => ns.getD i 0 := by
      refine List.ext_getElem (by simp) fun i h1 h2 => ?_
      simp [h1]
    conv => rhs; rw [e0, List.filter_map, List.map_map]
    rw [← List.filterMap_eq_filter, List.map_filterMap]
    congr 1
    funext i
    simp only [Function.comp]
    by_cases h : inAllB (p0 :: ps) (ns.getD i 0) = true
    · simp [h, Option.guard]
    · simp [h, Option.guard]
  have e2 : (ns.filter fun x => inAllB (p0 :: ps) x) = (toldL n (p0 :: ps)).map fun i : Nat => (i : Int) := by
    refine asc_uniqI (List.Pairwise.filter _ asc) ?_ fun x => ?_
    · rw [List.pairwise_map]
      exact (List.Pairwise.filter _ List.pairwise_lt_range).imp fun h => by omega
    · rw [List.mem_filter, List.mem_map, mem x]
      constructor
      · rintro ⟨h1, h2⟩
        have l0 := lt p0 (List.mem_cons_self ..)
        refine ⟨x.toNat, ?_, by rcases h1 with h | h <;> omega⟩
        unfold toldL
        rw [List.mem_filter, List.mem_range]
        refine ⟨by rcases h1 with h | h <;> omega, ?_⟩
        rw [decide_eq_true (List.cons_ne_nil _ _), Bool.true_and, List.all_eq_true]
        intro p hp
        have := List.all_eq_true.mp h2 p hp
        unfold hitB at this
        rw [Bool.or_eq_true, decide_eq_true_eq, decide_eq_true_eq] at this ⊢
        rcases this with h | h
        · exact .inl (by omega)
        · exact .inr (by omega)
      · rintro ⟨k, hk, rfl⟩
        unfold toldL at hk
        rw [List.mem_filter, Bool.and_eq_true, List.all_eq_true] at hk
        obtain ⟨k1, k2, k3⟩ := hk
        have k4 := k3 p0 (List.mem_cons_self ..)
        rw [Bool.or_eq_true, decide_eq_true_eq, decide_eq_true_eq] at k4
        refine ⟨by rcases k4 with h | h <;> omega, ?_⟩
        unfold inAllB
        rw [List.all_eq_true]
        intro p hp
        have := k3 p hp
        unfold hitB
        rw [Bool.or_eq_true, decide_eq_true_eq, decide_eq_true_eq] at this ⊢
        rcases this with h | h
        · exact .inl (by omega)
        · exact .inr (by omega)
  rw [e1, e2, List.map_map]
  rfl
section
variable {P : Program} {w : World} {K : PySem.W.Frag} {mg : Str → Option Value} {base : Heap}
abbrev s_in_all : Stmt := top 23
abbrev N_in_all : List Str := ["rows", "page", "row"]
theorem sc_in_all : FnScope N_in_all ["rows"] (defScope s_in_all) := ⟨rfl, rfl, rfl, by decide +kernel, rfl, by decide +kernel, by decide +kernel⟩
theorem ok_in_all {f : Addr} {fd : FuncData} (F : FnP K "in_all" s_in_all f fd) (Z : FreeS mg) :
    FnOk P w K mg base CX0 1 f fd ["rows"] spInAll := by
  refine okC F sc_in_all (fun vs H Q E h => ?_) (fun cdv hcode A outer s H vs Q E hr h => ?_)
  · obtain ⟨D, ps, n, rfl, _⟩ := h
    rfl
  · obtain ⟨D, ps, n, rfl, hP, hne, l1, lt, k⟩ := h
    obtain ⟨ys, hy, py⟩ := hP
    have lp := py.length
    have nd := sc_in_all.nd
    refine ⟨_, PSs.nox (pss_one (ps_ret (pe_lc (own := [("page", 1)]) (g := gName 1) (tt := tB (tCB (rAll K) (tCons (tLc (iList K (tVar 0)) (gName 2) (tYes) (tOp (rIn K false) (tVar 1) (tVar 2)) [2]) (tNil)))) (te := tVar 1) (by rfl) nd (pi_list (pe_callB ((cr_sortedSet rfl)) (by rfl) Z.sorted (by decide +kernel) (pa_cons (pe_set2 hcode (pe_ix ix_tup (pe_ix ix_list (pv 0) (pe_int) (fun _ _ => rfl)) (pe_int) (fun _ _ => rfl)) (pe_ix ix_tup (pe_ix ix_list (pv 0) (pe_int) (fun _ _ => rfl)) (pe_int) (fun _ _ => rfl))) (pa_nil))))
          (blkOk_by (own := [("page", 1)]) (N := N_in_all) (sc := defScope s_in_all) (by decide +kernel)) (fun _ _ _ _ _ => pg_name (i := 1) nd rfl (Or.inr rfl)) (fun _ _ _ _ _ => pts_one (pt_val (pe_callB (cr_all rfl) (by rfl) Z.all (by decide +kernel) (pa_cons (pe_lc (own := [("row", 2)]) (g := gName 2) (tt := tYes) (te := tOp (rIn K false) (tVar 1) (tVar 2)) (by rfl) nd (pi_list (pv 0))
          (blkOk_by (own := [("row", 2)]) (N := N_in_all) (sc := ({ kind := .function, names := [(".0", .local), ("page", .cell), ("all", .globalImplicit), ("rows", .cell)], isGenerator := false, isCoroutine := false })) (by decide +kernel)) (fun _ _ _ _ _ => pg_name (i := 2) nd rfl (Or.inl rfl)) (fun _ _ _ _ _ => pts_nil)
          (fun _ _ _ _ _ => pe_cmpR op_in_seq (pv 1) (pv 2) (by rfl))) (pa_nil)))))
          (fun _ _ _ _ _ => pv 1)))), ?_⟩
    rw [show (cxOf CX0 P w K mg base N_in_all "in_all" (defScope s_in_all) f cdv A outer s H E).nox.w = w from rfl]
    obtain ⟨p0, ps', rfl⟩ : ∃ p0 ps', ps = p0 :: ps' := by
      cases ps with
      | nil => exact absurd rfl hne
      | cons p0 ps' => exact ⟨_, _, rfl⟩
    obtain ⟨y0, z0, T0, rfl, hT0⟩ := paired_get1 py (show (p0 :: ps')[0]? = some p0 from rfl)
    intro DS hDS
    have sD := Same.updf (o := SetO w DS (fun _ => false) 0) hDS
    refine ⟨_, rfl, D, ys, 0, .ref T0, rfl, rfl, SqL.of (sD _ _ hy), atI_nat (j := 0) z0, T0, _, 0, .int (p0.1 : Int), rfl, rfl, SqT.of (sD _ _ hT0), rfl, ?_⟩
    refine ⟨_, rfl, D, ys, 0, .ref T0, rfl, rfl, SqL.of (sD _ _ hy), atI_nat (j := 0) z0, T0, _, 1, .int (p0.2 : Int), rfl, rfl, SqT.of (sD _ _ hT0), rfl, ?_⟩
    refine ⟨_, _, rfl, rfl, upd_same, ?_⟩
    have n3 : (if (p0.1 : Int) = (p0.2 : Int) then 1 else 2) < 64 := by split <;> decide
    refine ⟨DS, _, _, rfl, upd_same, n3, fun ns q asc mem len hq => ?_⟩
    have qS : q ≠ DS := fun z => by rw [z, upd_same] at hq; cases hq
    have lns : ns.length ≤ 2 := by rw [len]; split <;> decide
    generalize hG : upd (upd (upd H DS (SetO w DS (fun _ => false) 0)) DS (SetO w DS (fun k => decide (k = (p0.1 : Int)) || decide (k = (p0.2 : Int))) (if (p0.1 : Int) = (p0.2 : Int) then 1 else 2))) q (.lst (ns.map V.int)) = G
    have sG : Same H G := fun b o e => by
      rw [← hG, upd_ne, upd_ne (ne_of_none e hDS), upd_ne (ne_of_none e hDS)]
      · exact e
      · intro z
        rw [z] at e
        rw [upd_ne qS, upd_ne qS, e] at hq
        cases hq
    have hq2 : G q = some (.lst (ns.map V.int)) := by rw [← hG, upd_same]
    have qn : H q = none := by
      rw [upd_ne qS, upd_ne qS] at hq
      exact hq
    clear hG
    have hyG := sG _ _ hy
    refine ⟨q, rfl, ⟨_, SqL.of hq2⟩, fun R hR => ?_⟩
    have lm : (ns.map V.int).length = ns.length := List.length_map _
    refine lc_sel (n := ns.length) (by have := walk_list (K := K) (a := q) (xs := ns.map V.int); rw [lm] at this; exact this) (fun i => if inAllB (p0 :: ps') (ns.getD i 0) = true then some (.int (ns.getD i 0)) else none) (by omega) hR (fun H2 s2 => SqL.of (s2 _ _ hq2)) ?_ ?_
    · rintro i x H2 H3 Qy Qn hi sH ⟨rfl, hx⟩ ky kn
      have ex : x = .int (ns.getD i 0) := by
        rw [List.getElem?_map, List.getElem?_eq_getElem hi] at hx
        rw [← Option.some.inj hx, List.getD_eq_getElem?_getD, List.getElem?_eq_getElem hi]
        rfl
      subst ex
      generalize ns.getD i 0 = X at ky kn
      refine ⟨rfl, ?_⟩
      have hy3 := sH _ _ hyG
      refine ⟨_, rfl, D, rfl, ⟨_, SqL.of hy3⟩, fun D2 hD2 => ?_⟩
      refine lc_sel (n := ys.length) (walk_list (K := K) (a := D) (xs := ys)) (fun j => some (.bl (hitB ((p0 :: ps').getD j (0, 0)) X))) (by omega) hD2 (fun H4 s4 => SqL.of (s4 _ _ hy3)) ?_ ?_
      · rintro j y H4 H5 Qy2 Qn2 hj s5 ⟨rfl, hv⟩ ky2 kn2
        obtain ⟨pr, e1, T, rfl, hT⟩ := paired_get2 py hv
        have ed : (p0 :: ps').getD j (0, 0) = pr := by rw [List.getD_eq_getElem?_getD, e1]; rfl
        rw [ed] at ky2
        refine ⟨rfl, _, rfl, _, rfl, T, _, rfl, .inr (SqT.of (s5 _ _ (sH _ _ (sG _ _ hT)))), rfl, rfl, ky2 _ _ (Same.refl _) ?_⟩
        rw [inV_two]
        rfl
      · intro H4 s4 hR4
        refine ⟨D2, (p0 :: ps').map fun p => hitB p X, rfl, SqL.of ?_, inAllB (p0 :: ps') X, ?_, ?_⟩
        · rw [hR4, filterMap_getD, ← lp, sel_map]
        · rw [all_map_id]
        · cases c : inAllB (p0 :: ps') X with
          | false => exact iteF (kn _ s4 (by rw [c]; rfl))
          | true => exact iteT ⟨_, rfl, ky _ _ s4 (by rw [c]; rfl)⟩
    · intro H2 s2 hR2
      refine k R H2 (sG.trans s2) (none_back sG hR) ?_
      rw [hR2, told_eq asc (fun x => (mem x).trans (by rw [Bool.or_eq_true, decide_eq_true_eq, decide_eq_true_eq])) lt]
abbrev s_told_pages : Stmt := top 22
abbrev N_told_pages : List Str := ["code", "value", "changed", "unread", "rows"]
theorem sc_told_pages : FnScope N_told_pages ["code", "value", "changed", "unread"] (defScope s_told_pages) := ⟨rfl, rfl, rfl, by decide +kernel, rfl, by decide +kernel, by decide +kernel⟩
theorem ok_told_pages {f : Addr} {fd : FuncData} (F : FnP K "told_pages" s_told_pages f fd) (Z : FreeS mg)
    {f_twos : Addr} {d_twos : FuncData} (g_twos : mg "twos" = some (.ref f_twos)) (F_twos : FnP K "twos" s_twos f_twos d_twos) (G_twos : FnOk P w K mg base CX0 6 f_twos d_twos ["code", "value", "changed", "unread"] (spTwos K))
    {f_in_all : Addr} {d_in_all : FuncData} (g_in_all : mg "in_all" = some (.ref f_in_all)) (F_in_all : FnP K "in_all" s_in_all f_in_all d_in_all) (G_in_all : FnOk P w K mg base CX0 1 f_in_all d_in_all ["rows"] spInAll) :
    FnOk P w K mg base CX0 7 f fd ["code", "value", "changed", "unread"] (spToldPages K) := by
  have b_twos : Binds K d_twos ["code", "value", "changed", "unread"] [] := F_twos.bindsN fun _ _ _ _ _ _ us hl => match us, hl with | [_, _, _, _], _ => rfl
  have b_in_all : Binds K d_in_all ["rows"] [] := F_in_all.bindsN fun _ _ _ _ _ _ us hl => match us, hl with | [_], _ => rfl
  refine F.ok sc_told_pages (fun vs H Q E h => ?_) (fun cdv A outer s H vs Q E hr h => ?_)
  · obtain ⟨a, c, m, v, r, ch, un, rfl, _⟩ := h
    rfl
  · obtain ⟨a, c, m, v, r, ch, un, rfl, hc, g, hv, k⟩ := h
    have nd := sc_told_pages.nd
    refine ⟨_, PSs.nox (pss_cons (ps_set (i := 4) nd rfl (Or.inl rfl) (pe_call G_twos (hr.mono (by decide)) rfl g_twos F_twos.kp b_twos .nil pass0 (pa_cons (pv 0) (pa_cons (pv 1) (pa_cons (pv 2) (pa_cons (pv 3) (pa_nil)))))))
      (pss_cons (ps_if (pt_not (pt_truth (pv 4) (fun _ => rfl))) (pss_one (ps_ret (pe_lst (pa_nil)))) (pss_nil))
      (pss_one (ps_ret (pe_call G_in_all (hr.mono (by decide)) rfl g_in_all F_in_all.kp b_in_all .nil pass0 (pa_cons (pv 4) (pa_nil))))))), ?_⟩
    refine ⟨_, rfl, _, rfl, _, rfl, _, rfl, a, c, m, v, r, ch, un, rfl, hc, g, hv, fun D H1 s1 n1 hP => ?_⟩
    obtain ⟨ys, hy, py⟩ := hP
    have lp := py.length
    have few : (twosR c r ch un).length ≤ 900 := by
      have h1 : (twosR c r ch un).length ≤ (twosL c.length).length := List.length_filter_le _ _
      have h2 := twosUp_len c.length c.length
      have h3 : c.length * c.length ≤ 900 := Nat.mul_le_mul g.few g.few
      exact Nat.le_trans h1 (Nat.le_trans h2 h3)
    refine ⟨_, rfl, !ys.isEmpty, .inl ⟨_, SqL.of hy, rfl⟩, ?_⟩
    cases e : twosR c r ch un with
    | nil =>
      rw [e] at lp k
      obtain rfl : ys = [] := List.length_eq_zero_iff.mp lp.symm
      refine iteT ⟨by show 0 ≤ sizeLine; decide, fun q hq => ?_⟩
      refine k q _ (s1.trans (Same.updf hq)) (none_back s1 hq) ?_
      rw [upd_same]
      have : toldL c.length [] = [] := by
        unfold toldL
        simp
      rw [this]
      rfl
    | cons p0 ps =>
      rw [e] at lp k py few
      have : ys ≠ [] := fun z => by rw [z] at lp; cases lp
      cases ys with
      | nil => exact absurd rfl this
      | cons y0 yt =>
        refine iteF ⟨_, rfl, D, p0 :: ps, c.length, rfl, ⟨_, hy, py⟩, List.cons_ne_nil _ _, by omega, fun p hp => ?_, fun q H2 s2 n2 hq => k q H2 (s1.trans s2) (none_back s1 n2) hq⟩
        have : p ∈ twosR c r ch un := by rw [e]; exact hp
        have := twosL_mem (List.mem_filter.mp this).1
        exact ⟨this.1, this.2.1⟩
abbrev s_told_page : Stmt := top 24
abbrev N_told_page : List Str := ["code", "value", "changed", "unread", "told"]
theorem sc_told_page : FnScope N_told_page ["code", "value", "changed", "unread"] (defScope s_told_page) := ⟨rfl, rfl, rfl, by decide +kernel, rfl, by decide +kernel, by decide +kernel⟩
theorem ok_told_page {f : Addr} {fd : FuncData} (F : FnP K "told_page" s_told_page f fd) (Z : FreeS mg)
    {f_told_pages : Addr} {d_told_pages : FuncData} (g_told_pages : mg "told_pages" = some (.ref f_told_pages)) (F_told_pages : FnP K "told_pages" s_told_pages f_told_pages d_told_pages) (G_told_pages : FnOk P w K mg base CX0 7 f_told_pages d_told_pages ["code", "value", "changed", "unread"] (spToldPages K)) :
    FnOk P w K mg base CX0 8 f fd ["code", "value", "changed", "unread"] (spToldPage K) := by
  have b_told_pages : Binds K d_told_pages ["code", "value", "changed", "unread"] [] := F_told_pages.bindsN fun _ _ _ _ _ _ us hl => match us, hl with | [_, _, _, _], _ => rfl
  refine F.ok sc_told_page (fun vs H Q E h => ?_) (fun cdv A outer s H vs Q E hr h => ?_)
  · obtain ⟨a, c, m, v, r, ch, un, rfl, _⟩ := h
    rfl
  · obtain ⟨a, c, m, v, r, ch, un, rfl, hc, g, hv, k⟩ := h
    have nd := sc_told_page.nd
    refine ⟨_, PSs.nox (pss_cons (ps_set (i := 4) nd rfl (Or.inl rfl) (pe_call G_told_pages (hr.mono (by decide)) rfl g_told_pages F_told_pages.kp b_told_pages .nil pass0 (pa_cons (pv 0) (pa_cons (pv 1) (pa_cons (pv 2) (pa_cons (pv 3) (pa_nil)))))))
      (pss_cons (ps_if (pt_not (pt_truth (pv 4) (fun _ => rfl))) (pss_one (ps_ret (pe_non))) (pss_nil))
      (pss_one (ps_ret (pe_ix ix_list (pv 4) (pe_int) (fun _ _ => rfl)))))), ?_⟩
    refine ⟨_, rfl, _, rfl, _, rfl, _, rfl, a, c, m, v, r, ch, un, rfl, hc, g, hv, fun q H1 s1 n1 hq => ?_⟩
    refine ⟨_, rfl, !(numsV (toldL c.length (twosR c r ch un))).isEmpty, .inl ⟨_, SqL.of hq, rfl⟩, ?_⟩
    cases e : toldL c.length (twosR c r ch un) with
    | nil =>
      rw [e] at k
      exact iteT (k _ s1)
    | cons x l =>
      rw [e] at k hq
      exact iteF ⟨_, rfl, q, _, 0, .int (x : Int), rfl, rfl, SqL.of hq, atI_nat (j := 0) rfl, k _ s1⟩
end
end K06
set_option Elab.async false
set_option linter.all false
set_option maxRecDepth 100000
set_option maxHeartbeats 8000000
/-! Cells in which pages differ. -/
namespace K06
open PySem PySem.Spec PyProof.Rows L2 KB
/-- the sign of page i in cell k -/
def sg (c : List (List Nat)) (i k : Nat) : Nat := (c.getD i []).getD k 0
def unl3 (c : List (List Nat)) (m i j k : Nat) : List Nat := (List.range m).filter fun x => decide (sg c i x ≠ sg c j x) && (decide (sg c j x ≠ sg c k x) && decide (sg c i x ≠ sg c k x))
def spUnlike3 (K : PySem.W.Frag) : Sp := fun vs H Q _ => ∃ (a t : Addr) (c : List (List Nat)) (m i j k : Nat), vs = [.ref a, .ref t] ∧ CodeAt H a c ∧ Good c m ∧ SqT K H t [.int (i : Int), .int (j : Int), .int (k : Int)] ∧ (i < c.length ∧ j < c.length ∧ k < c.length) ∧
  ∀ q H', Same H H' → H q = none → H' q = some (.lst (numsV (unl3 c m i j k))) → Q (.ref q) H'
theorem sg_at {c : List (List Nat)} {i x : Nat} (hi : i < c.length) (hx : x < c[i].length) : sg c i x = c[i][x] := by
  unfold sg
  rw [List.getD_eq_getElem?_getD, List.getD_eq_getElem?_getD, List.getElem?_eq_getElem hi]
  show (c[i][x]?).getD 0 = _
  rw [List.getElem?_eq_getElem hx]
  rfl
theorem fm_nums (f : Nat → Bool) : ∀ l : List Nat, (l.filterMap fun x => if f x = true then some (V.int (x : Int)) else none) = numsV (l.filter f)
  | [] => rfl
  | x :: l => by
    rw [List.filterMap_cons, List.filter_cons]
    cases h : f x with
    | false => exact fm_nums f l
    | true => exact congrArg (V.int (x : Int) :: ·) (fm_nums f l)
section
variable {P : Program} {w : World} {K : PySem.W.Frag} {mg : Str → Option Value} {base : Heap}
abbrev s_unlike_cells_of_three : Stmt := top 25
abbrev N_unlike_cells_of_three : List Str := ["code", "three", "one", "other", "third", "rows", "position", "cell", "x", "y", "z"]
theorem sc_unlike_cells_of_three : FnScope N_unlike_cells_of_three ["code", "three"] (defScope s_unlike_cells_of_three) := ⟨rfl, rfl, rfl, by decide +kernel, rfl, by decide +kernel, by decide +kernel⟩
theorem ok_unlike_cells_of_three {f : Addr} {fd : FuncData} (F : FnP K "unlike_cells_of_three" s_unlike_cells_of_three f fd) (Z : FreeS mg) :
    FnOk P w K mg base CX0 1 f fd ["code", "three"] (spUnlike3 K) := by
  refine F.ok sc_unlike_cells_of_three (fun vs H Q E h => ?_) (fun cdv A outer s H vs Q E hr h => ?_)
  · obtain ⟨a, t, c, m, i, j, k0, rfl, _⟩ := h
    rfl
  · obtain ⟨a, t, c, m, i, j, k0, rfl, hc, g, ht, ⟨hi, hj, hk⟩, k⟩ := h
    obtain ⟨xs, ha, lx, hx⟩ := hc.at
    have nd := sc_unlike_cells_of_three.nd
    refine ⟨_, PSs.nox (pss_cons (ps_asg (pe_lc (own := [("position", 6)]) (g := gName 6) (tt := tYes) (te := tOp (rIxL K) (tVar 0) (tVar 6)) (by rfl) nd (pi_tup (pv 1))
          (blkOk_by (own := [("position", 6)]) (N := N_unlike_cells_of_three) (sc := defScope s_unlike_cells_of_three) (by decide +kernel)) (fun _ _ _ _ _ => pg_name (i := 6) nd rfl (Or.inl rfl)) (fun _ _ _ _ _ => pts_nil)
          (fun _ _ _ _ _ => pe_ix ix_list (pv 0) (pv 6) (fun _ _ => rfl))) (pg_unl rfl (pgs_cons (pg_name (i := 2) nd rfl (Or.inl rfl)) (pgs_cons (pg_name (i := 3) nd rfl (Or.inl rfl)) (pgs_cons (pg_name (i := 4) nd rfl (Or.inl rfl)) (pgs_nil))))))
      (pss_cons (ps_set (i := 5) nd rfl (Or.inl rfl) (pe_listZip3 rfl (by rfl) Z.tlist (by rfl) Z.zip (pa_cons (pv 2) (pa_cons (pv 3) (pa_cons (pv 4) (pa_nil))))))
      (pss_one (ps_ret (pe_lc (own := [("cell", 7), ("x", 8), ("y", 9), ("z", 10)]) (g := gTup K 2 (gCons (gName 7) (gCons (gTup K 3 (gCons (gName 8) (gCons (gName 9) (gCons (gName 10) (gNil))))) (gNil)))) (tt := tAnd (tTest (tOp rNe (tVar 8) (tVar 9))) (tAnd (tTest (tOp rNe (tVar 9) (tVar 10))) (tTest (tOp rNe (tVar 8) (tVar 10))))) (te := tVar 7) (by rfl) nd (pi_enum (by rfl) Z.enumerate (pa_cons (pv 5) (pa_nil)))
          (blkOk_by (own := [("cell", 7), ("x", 8), ("y", 9), ("z", 10)]) (N := N_unlike_cells_of_three) (sc := defScope s_unlike_cells_of_three) (by decide +kernel)) (fun _ _ _ _ _ => pg_tup rfl (pgs_cons (pg_name (i := 7) nd rfl (Or.inl rfl)) (pgs_cons (pg_tup rfl (pgs_cons (pg_name (i := 8) nd rfl (Or.inl rfl)) (pgs_cons (pg_name (i := 9) nd rfl (Or.inl rfl)) (pgs_cons (pg_name (i := 10) nd rfl (Or.inl rfl)) (pgs_nil))))) (pgs_nil)))) (fun _ _ _ _ _ => pts_one (PW.pt (pw_and (pt_cmpR op_ne (pv 8) (pv 9) (nomark _)) (pw_and (pt_cmpR op_ne (pv 9) (pv 10) (nomark _)) (pw_and1 (pt_cmpR op_ne (pv 8) (pv 10) (nomark _)))))))
          (fun _ _ _ _ _ => pv 7)))))), ?_⟩
    obtain ⟨pi, i1, i2⟩ := hx i hi
    obtain ⟨pj, j1, j2⟩ := hx j hj
    obtain ⟨pk, k1, k2⟩ := hx k0 hk
    have li := g.len _ (List.getElem_mem hi)
    have lj := g.len _ (List.getElem_mem hj)
    have lk := g.len _ (List.getElem_mem hk)
    have m100 := g.small
    have m1 := g.cells
    refine ⟨_, rfl, t, rfl, ⟨_, ht⟩, fun D hD => ?_⟩
    refine lc_sel (n := 3) (walk_tup (K := K) (a := t) (xs := [.int (i : Int), .int (j : Int), .int (k0 : Int)])) (fun s => [V.ref pi, V.ref pj, V.ref pk][s]?) (by decide) hD (fun H2 s2 => SqT_up s2 ht) ?_ ?_
    · rintro s x H2 H3 Qy Qn hs sH ⟨rfl, hv⟩ ky kn
      have haH := sH _ _ ha
      rcases s with _ | _ | _ | s
      · cases hv
        exact ⟨rfl, _, rfl, _, rfl, a, xs, (i : Int), .ref pi, rfl, rfl, SqL.of haH, atI_nat i1, ky _ _ (Same.refl _) rfl⟩
      · cases hv
        exact ⟨rfl, _, rfl, _, rfl, a, xs, (j : Int), .ref pj, rfl, rfl, SqL.of haH, atI_nat j1, ky _ _ (Same.refl _) rfl⟩
      · cases hv
        exact ⟨rfl, _, rfl, _, rfl, a, xs, (k0 : Int), .ref pk, rfl, rfl, SqL.of haH, atI_nat k1, ky _ _ (Same.refl _) rfl⟩
      · omega
    intro H2 s2 hR
    refine ⟨D, [.ref pi, .ref pj, .ref pk], rfl, SqL.of hR, rfl, _, _, rfl, _, _, rfl, _, _, rfl, rfl, ?_⟩
    have ni := numsV_len c[i]
    have nj := numsV_len c[j]
    have nk := numsV_len c[k0]
    refine ⟨_, rfl, _, rfl, _, rfl, pi, pj, pk, _, _, _, rfl, SqL.of (s2 _ _ i2), SqL.of (s2 _ _ j2), SqL.of (s2 _ _ k2), ⟨by omega, by omega, by omega, by omega⟩, fun G rq ts sG nq hq lts hts => ?_⟩
    refine ⟨_, rfl, rq, _, rfl, SqL.of hq, fun D2 hD2 => ?_⟩
    have lm : (ts.map V.ref).length = m := by rw [List.length_map, lts, ni, li]
    refine lc_sel (n := m) (by have := walk_enum (K := K) (a := rq) (xs := ts.map V.ref); rw [lm] at this; exact this) (fun x => if (decide (sg c i x ≠ sg c j x) && (decide (sg c j x ≠ sg c k0 x) && decide (sg c i x ≠ sg c k0 x))) = true then some (.int (x : Int)) else none) (by omega) hD2 (fun H3 s3 => SqL.of (s3 _ _ hq)) ?_ ?_
    · rintro x v H3 H4 Qy Qn hx3 sH ⟨T, x1, x2, rfl, nT, rfl, g1, g2⟩ ky kn
      dsimp only at g1 g2
      cases g1
      obtain ⟨tx, e1, e2⟩ := hts x _ _ _ (numsV_get (show x < c[i].length by omega)) (numsV_get (show x < c[j].length by omega)) (numsV_get (show x < c[k0].length by omega))
      rw [List.getElem?_map, e1] at g2
      cases g2
      have sT : ∀ o, Same H3 (upd H3 T o) := fun _ => Same.updf nT
      refine ⟨T, _, rfl, SqT.of upd_same, rfl, _, _, rfl, _, _, rfl, tx, _, rfl, SqT.of (sT _ _ _ (sH _ _ e2)), rfl, _, _, rfl, _, _, rfl, _, _, rfl, rfl, rfl, ?_⟩
      have ky2 := fun e => ky (.int (x : Int)) (upd H3 T (.tup [.int (x : Int), .ref tx])) (sT _) e
      have kn2 := fun e => kn (upd H3 T (.tup [.int (x : Int), .ref tx])) (sT _) e
      rw [sg_at hi (by omega), sg_at hj (by omega), sg_at hk (by omega)] at ky2 kn2
      generalize c[i][x]'(by omega) = A1 at ky2 kn2 ⊢
      generalize c[j][x]'(by omega) = A2 at ky2 kn2 ⊢
      generalize c[k0][x]'(by omega) = A3 at ky2 kn2 ⊢
      refine ⟨rfl, _, rfl, _, rfl, rfl, _, rfl, ?_⟩
      by_cases h1 : A1 = A2
      · rw [show (!decide (V.int (A1 : Int) = V.int (A2 : Int))) = false from by rw [h1, decide_eq_true rfl]; rfl]
        exact iteF (kn2 (by rw [decide_eq_false (fun z => z h1), Bool.false_and]; rfl))
      rw [show (!decide (V.int (A1 : Int) = V.int (A2 : Int))) = true from by rw [decide_eq_false fun z => h1 (by have := V.int.inj z; omega)]; rfl]
      refine iteT ⟨_, rfl, _, rfl, rfl, _, rfl, ?_⟩
      by_cases h2 : A2 = A3
      · rw [show (!decide (V.int (A2 : Int) = V.int (A3 : Int))) = false from by rw [h2, decide_eq_true rfl]; rfl]
        exact iteF (kn2 (by rw [show decide (A2 ≠ A3) = false from decide_eq_false fun z => z h2, Bool.false_and, Bool.and_false]; rfl))
      rw [show (!decide (V.int (A2 : Int) = V.int (A3 : Int))) = true from by rw [decide_eq_false fun z => h2 (by have := V.int.inj z; omega)]; rfl]
      refine iteT ⟨_, rfl, _, rfl, rfl, _, rfl, ?_⟩
      by_cases h3 : A1 = A3
      · rw [show (!decide (V.int (A1 : Int) = V.int (A3 : Int))) = false from by rw [h3, decide_eq_true rfl]; rfl]
        exact iteF (kn2 (by rw [show decide (A1 ≠ A3) = false from decide_eq_false fun z => z h3, Bool.and_false, Bool.and_false]; rfl))
      rw [show (!decide (V.int (A1 : Int) = V.int (A3 : Int))) = true from by rw [decide_eq_false fun z => h3 (by have := V.int.inj z; omega)]; rfl]
      exact iteT ⟨_, rfl, ky2 (by rw [decide_eq_true h1, show decide (A2 ≠ A3) = true from decide_eq_true h2, show decide (A1 ≠ A3) = true from decide_eq_true h3]; rfl)⟩
    · intro H3 s3 hR3
      refine k D2 H3 (s2.trans (sG.trans s3)) (none_back (s2.trans sG) hD2) ?_
      rw [hR3]
      unfold unl3
      rw [fm_nums]
end
end K06
set_option Elab.async false
set_option linter.all false
set_option maxRecDepth 100000
set_option maxHeartbeats 4000000
/-! range(n) kept under a name, and walked over. -/
namespace KB
open PySem PySem.Spec PyProof.Rows L2
def rRng1 : List V → Hp → VK → Prop := fun vs H Q => ∃ j : Int, vs = [.int j] ∧ ∀ p, H p = none → Q (.ref p) (upd H p (.rng 0 j))
theorem cr_range1 {X : Cx} : CallR X (.type "range") rRng1 := by
  rintro pins s σ H xs us Q I hxs ⟨j, rfl, q⟩
  cases hxs with
  | cons h1 h2 =>
  cases h2
  obtain ⟨t, rfl⟩ := h1
  refine call_range_1 ?_
  have hn : H s.heap.objs.size = none := HOk.fresh I.hok (Nat.le_refl _)
  refine ⟨.ref s.heap.objs.size, upd H s.heap.objs.size (.rng 0 j), I.laid (fun b o e => Heap.get?_push_of_some _ e) (Nat.le_refl _) ?_, rfl, q _ hn⟩
  exact ⟨_, _, _, Heap.get?_push_size _ rfl⟩
def iRgV (te : TE) : TI := fun σ H R => te σ H fun x H1 => ∃ (p : Addr) (i j : Int), x = .ref p ∧ H1 p = some (.rng i j) ∧ (-2 ^ 62 ≤ i ∧ i < 2 ^ 62 ∧ -2 ^ 62 ≤ j ∧ j < 2 ^ 62) ∧ R (Itr i (j - i).toNat) H1
theorem rs1 (i j : Int) : Builtin.Range.rangeSize i j 1 = (((j - i).toNat : Nat) : Int) := by
  unfold Builtin.Range.rangeSize
  rw [if_pos (by decide)]
  by_cases h : i < j
  · rw [if_pos h, Int.ediv_one]
    omega
  · rw [if_neg h]
    omega
theorem pi_rgV {X : Cx} {tg e : Expr} {te : TE} (he : PE X e te) : PI X tg e (iRgV te) := by
  refine ⟨fun pins s σ H R I h => ?_⟩
  refine thn (he.run pins s σ H _ I h) fun v s1 ⟨x, H1, I1, r1, p, i, j, e1, hp, ⟨b1, b2, b3, b4⟩, k⟩ => ?_
  subst e1
  cases r1
  obtain ⟨t, u, w, hr⟩ := I1.hok _ _ hp
  have sm : Builtin.Range.small i j 1 = true := by
    unfold Builtin.Range.small
    rw [rs1]
    unfold Builtin.Range.rangeFitsLong
    rw [if_pos (by decide)]
    simp only [Bool.and_eq_true, Bool.or_eq_true, decide_eq_true_eq]
    omega
  refine wpAny_pyIter_range hr sm ?_
  have n1 : H1 s1.heap.objs.size = none := HOk.fresh I1.hok (Nat.le_refl _)
  refine ⟨s1.heap.objs.size, [s1.heap.objs.size], _, Itr i (j - i).toNat, H1, rfl, I1.kept fun b o e => Heap.get?_push_of_some _ e, turn_range s1.heap.objs.size i (j - i).toNat, ?_, fun b hb => ?_, k⟩
  · have e := rs1 i j
    have := Heap.get?_push_size s1.heap (o := { cls := .type "range_iterator", data := .fields #[rawInt i, rawInt (Builtin.Range.rangeSize i j 1), rawInt 1] }) rfl
    rw [e] at this ⊢
    simpa using this
  · rw [List.mem_singleton.mp hb]
    exact I1.fpOk (Nat.le_refl _) n1
end KB
set_option Elab.async false
set_option linter.all false
set_option maxRecDepth 100000
set_option maxHeartbeats 8000000
/-! Cells in which two pairs part; the asking functions. -/
namespace K06
open PySem PySem.Spec PyProof.Rows L2 KB
def PrT (K : PySem.W.Frag) (H : Hp) (t : Addr) (p : Nat × Nat) : Prop := SqT K H t [.int (p.1 : Int), .int (p.2 : Int)]
def ptd (c : List (List Nat)) (m : Nat) (p q : Nat × Nat) : List Nat := (List.range m).filter fun x => !(decide (sg c p.1 x = sg c q.1 x) || decide (sg c p.1 x = sg c q.2 x) || decide (sg c p.2 x = sg c q.1 x) || decide (sg c p.2 x = sg c q.2 x))
def spNeedTwo (K : PySem.W.Frag) : Sp := fun vs H Q _ => ∃ (a t : Addr) (c : List (List Nat)) (p : Nat × Nat), vs = [.ref a, .ref t] ∧ CodeAt H a c ∧ PrT K H t p ∧ p.1 < c.length ∧ p.2 < c.length ∧ ∀ H', Same H H' → Q .non H'
def spCellsU : Sp := fun vs H Q _ => ∃ (a : Addr) (c : List (List Nat)) (m i j k : Nat), vs = [.ref a, .int (i : Int), .int (j : Int), .int (k : Int)] ∧ CodeAt H a c ∧ Good c m ∧ (i < c.length ∧ j < c.length ∧ k < c.length) ∧ (j ≠ i ∧ k ≠ i ∧ k ≠ j) ∧ ∀ H', Same H H' → Q (.int ((unl3 c m i j k).length : Int)) H'
section
variable {P : Program} {w : World} {K : PySem.W.Frag} {mg : Str → Option Value} {base : Heap}
abbrev s_cells_unlike : Stmt := top 27
abbrev N_cells_unlike : List Str := ["code", "one", "other", "third"]
theorem sc_cells_unlike : FnScope N_cells_unlike ["code", "one", "other", "third"] (defScope s_cells_unlike) := ⟨rfl, rfl, rfl, by decide +kernel, rfl, by decide +kernel, by decide +kernel⟩
theorem ok_cells_unlike {f : Addr} {fd : FuncData} (F : FnP K "cells_unlike" s_cells_unlike f fd) (Z : FreeS mg)
    {f_need_code : Addr} {d_need_code : FuncData} (g_need_code : mg "need_code" = some (.ref f_need_code)) (F_need_code : FnP K "need_code" s_need_code f_need_code d_need_code) (G_need_code : FnOk P w K mg base CX0 5 f_need_code d_need_code ["code"] spNeedCode)
    {f_need_position : Addr} {d_need_position : FuncData} (g_need_position : mg "need_position" = some (.ref f_need_position)) (F_need_position : FnP K "need_position" s_need_position f_need_position d_need_position) (G_need_position : FnOk P w K mg base CX0 4 f_need_position d_need_position ["code", "position"] spNeedPos)
    {f_unlike_cells_of_three : Addr} {d_unlike_cells_of_three : FuncData} (g_unlike_cells_of_three : mg "unlike_cells_of_three" = some (.ref f_unlike_cells_of_three)) (F_unlike_cells_of_three : FnP K "unlike_cells_of_three" s_unlike_cells_of_three f_unlike_cells_of_three d_unlike_cells_of_three) (G_unlike_cells_of_three : FnOk P w K mg base CX0 1 f_unlike_cells_of_three d_unlike_cells_of_three ["code", "three"] (spUnlike3 K)) :
    FnOk P w K mg base CX0 6 f fd ["code", "one", "other", "third"] spCellsU := by
  have b_need_code : Binds K d_need_code ["code"] [] := F_need_code.bindsN fun _ _ _ _ _ _ us hl => match us, hl with | [_], _ => rfl
  have b_need_position : Binds K d_need_position ["code", "position"] [] := F_need_position.bindsN fun _ _ _ _ _ _ us hl => match us, hl with | [_, _], _ => rfl
  have b_unlike_cells_of_three : Binds K d_unlike_cells_of_three ["code", "three"] [] := F_unlike_cells_of_three.bindsN fun _ _ _ _ _ _ us hl => match us, hl with | [_, _], _ => rfl
  refine F.ok sc_cells_unlike (fun vs H Q E h => ?_) (fun cdv A outer s H vs Q E hr h => ?_)
  · obtain ⟨a, c, m, i, j, k0, rfl, _⟩ := h
    rfl
  · obtain ⟨a, c, m, i, j, k0, rfl, hc, g, ⟨hi, hj, hk⟩, ⟨d1, d2, d3⟩, k⟩ := h
    have nd := sc_cells_unlike.nd
    refine ⟨_, PSs.nox (pss_cons (ps_expr (pe_call G_need_code (hr.mono (by decide)) rfl g_need_code F_need_code.kp b_need_code .nil pass0 (pa_cons (pv 0) (pa_nil))))
      (pss_cons (ps_expr (pe_call G_need_position (hr.mono (by decide)) rfl g_need_position F_need_position.kp b_need_position .nil pass0 (pa_cons (pv 0) (pa_cons (pv 1) (pa_nil)))))
      (pss_cons (ps_expr (pe_call G_need_position (hr.mono (by decide)) rfl g_need_position F_need_position.kp b_need_position .nil pass0 (pa_cons (pv 0) (pa_cons (pv 2) (pa_nil)))))
      (pss_cons (ps_if (pt_cmpR op_eq (pv 2) (pv 1) (nomark _)) (pss_one (ps_dead)) (pss_nil))
      (pss_cons (ps_expr (pe_call G_need_position (hr.mono (by decide)) rfl g_need_position F_need_position.kp b_need_position .nil pass0 (pa_cons (pv 0) (pa_cons (pv 3) (pa_nil)))))
      (pss_cons (ps_if (PW.pt (pw_or (pt_cmpR op_eq (pv 3) (pv 1) (nomark _)) (pw_or1 (pt_cmpR op_eq (pv 3) (pv 2) (nomark _))))) (pss_one (ps_dead)) (pss_nil))
      (pss_one (ps_ret (pe_callB call_len_seq (by rfl) Z.len (by decide +kernel) (pa_cons (pe_call G_unlike_cells_of_three (hr.mono (by decide)) rfl g_unlike_cells_of_three F_unlike_cells_of_three.kp b_unlike_cells_of_three .nil pass0 (pa_cons (pv 0) (pa_cons (pe_tup (pa_cons (pv 1) (pa_cons (pv 2) (pa_cons (pv 3) (pa_nil))))) (pa_nil)))) (pa_nil))))))))))), ?_⟩
    refine ⟨_, rfl, a, c, m, rfl, hc, g, fun H1 s1 => ?_⟩
    have hc1 := hc.same s1
    refine ⟨_, rfl, _, rfl, a, c, i, rfl, hc1, hi, ?_⟩
    refine ⟨_, rfl, _, rfl, a, c, j, rfl, hc1, hj, ?_⟩
    refine ⟨_, rfl, _, rfl, rfl, _, rfl, ?_⟩
    rw [decide_eq_false (fun z => d1 (by have := V.int.inj z; omega))]
    refine iteF ?_
    refine ⟨_, rfl, _, rfl, a, c, k0, rfl, hc1, hk, ?_⟩
    refine ⟨_, rfl, _, rfl, rfl, _, rfl, ?_⟩
    rw [decide_eq_false (fun z => d2 (by have := V.int.inj z; omega))]
    refine iteF ⟨_, rfl, _, rfl, rfl, _, rfl, ?_⟩
    rw [decide_eq_false (fun z => d3 (by have := V.int.inj z; omega))]
    refine iteF ?_
    refine ⟨_, rfl, _, rfl, _, rfl, _, rfl, (by show 3 ≤ sizeLine; decide), fun t ht => ?_⟩
    have sT := Same.updf (o := .tup [.int (i : Int), .int (j : Int), .int (k0 : Int)]) ht
    refine ⟨a, t, c, m, i, j, k0, rfl, hc1.same sT, g, SqT.of upd_same, ⟨hi, hj, hk⟩, fun q H2 s2 n2 hq => ?_⟩
    refine ⟨q, _, rfl, .inl (SqL.of hq), ?_⟩
    rw [numsV_len]
    exact k _ (s1.trans (sT.trans s2))
abbrev s_need_two_positions : Stmt := top 29
abbrev N_need_two_positions : List Str := ["code", "pair", "position"]
theorem sc_need_two_positions : FnScope N_need_two_positions ["code", "pair"] (defScope s_need_two_positions) := ⟨rfl, rfl, rfl, by decide +kernel, rfl, by decide +kernel, by decide +kernel⟩
theorem ok_need_two_positions {f : Addr} {fd : FuncData} (F : FnP K "need_two_positions" s_need_two_positions f fd) (Z : FreeS mg)
    {f_is_tuple_of : Addr} {d_is_tuple_of : FuncData} (g_is_tuple_of : mg "is_tuple_of" = some (.ref f_is_tuple_of)) (F_is_tuple_of : FnP K "is_tuple_of" s_is_tuple_of f_is_tuple_of d_is_tuple_of) (G_is_tuple_of : FnOk P w K mg base CX0 1 f_is_tuple_of d_is_tuple_of ["value", "length"] (spTupOf K))
    {f_is_count_below : Addr} {d_is_count_below : FuncData} (g_is_count_below : mg "is_count_below" = some (.ref f_is_count_below)) (F_is_count_below : FnP K "is_count_below" s_is_count_below f_is_count_below d_is_count_below) (G_is_count_below : FnOk P w K mg base CX0 3 f_is_count_below d_is_count_below ["value", "bound"] spBelow) :
    FnOk P w K mg base CX0 4 f fd ["code", "pair"] (spNeedTwo K) := by
  have b_is_tuple_of : Binds K d_is_tuple_of ["value", "length"] [] := F_is_tuple_of.bindsN fun _ _ _ _ _ _ us hl => match us, hl with | [_, _], _ => rfl
  have b_is_count_below : Binds K d_is_count_below ["value", "bound"] [] := F_is_count_below.bindsN fun _ _ _ _ _ _ us hl => match us, hl with | [_, _], _ => rfl
  refine F.ok sc_need_two_positions (fun vs H Q E h => ?_) (fun cdv A outer s H vs Q E hr h => ?_)
  · obtain ⟨a, t, c, p, rfl, _⟩ := h
    rfl
  · obtain ⟨a, t, c, p, rfl, hc, ht, h1, h2, k⟩ := h
    obtain ⟨xs, ha, lx, hx⟩ := hc.at
    have nd := sc_need_two_positions.nd
    refine ⟨_, PSs.nox (pss_one (ps_if (PW.pt (pw_or (pt_not (pt_val (pe_call G_is_tuple_of (hr.mono (by decide)) rfl g_is_tuple_of F_is_tuple_of.kp b_is_tuple_of .nil pass0 (pa_cons (pv 1) (pa_cons (pe_int) (pa_nil)))))) (pw_or1 (pt_not (pt_val (pe_callB (cr_all rfl) (by rfl) Z.all (by decide +kernel) (pa_cons (pe_lc (own := [("position", 2)]) (g := gName 2) (tt := tYes) (te := tCall spBelow [] E0 (tCons (tVar 2) (tCons (tCB (rLenS K) (tCons (tVar 0) (tNil))) (tNil)))) (by rfl) nd (pi_tup (pv 1))
          (blkOk_by (own := [("position", 2)]) (N := N_need_two_positions) (sc := defScope s_need_two_positions) (by decide +kernel)) (fun _ _ _ _ _ => pg_name (i := 2) nd rfl (Or.inl rfl)) (fun _ _ _ _ _ => pts_nil)
          (fun _ _ _ _ _ => pe_call G_is_count_below (hr.mono (by decide)) rfl g_is_count_below F_is_count_below.kp b_is_count_below .nil pass0 (pa_cons (pv 2) (pa_cons (pe_callB call_len_seq (by rfl) Z.len (by decide +kernel) (pa_cons (pv 0) (pa_nil))) (pa_nil))))) (pa_nil)))))))) (pss_one (ps_dead)) (pss_nil))), ?_⟩
    refine ⟨_, rfl, t, _, 2, rfl, ht, _, rfl, ?_⟩
    rw [show decide ((([V.int (p.1 : Int), V.int (p.2 : Int)].length : Nat) : Int) = 2) = true from rfl]
    refine iteF ?_
    refine ⟨_, rfl, t, rfl, ⟨_, ht⟩, fun D hD => ?_⟩
    refine lc_sel (n := 2) (walk_tup (K := K) (a := t) (xs := [.int (p.1 : Int), .int (p.2 : Int)])) (fun _ => some (.bl true)) (by decide) hD (fun H2 s2 => SqT_up s2 ht) ?_ ?_
    · rintro s x H2 H3 Qy Qn hs sH ⟨rfl, hv⟩ ky kn
      have haH := sH _ _ ha
      rcases s with _ | _ | s
      · cases hv
        refine ⟨rfl, _, rfl, _, rfl, a, _, rfl, .inl (SqL.of haH), p.1, xs.length, rfl, ky _ _ (Same.refl _) ?_⟩
        rw [decide_eq_true (show p.1 < xs.length by omega)]
      · cases hv
        refine ⟨rfl, _, rfl, _, rfl, a, _, rfl, .inl (SqL.of haH), p.2, xs.length, rfl, ky _ _ (Same.refl _) ?_⟩
        rw [decide_eq_true (show p.2 < xs.length by omega)]
      · omega
    · intro H2 s2 hR
      obtain ⟨bs, hB, hb⟩ := all_bits (K := K) hR
      refine ⟨D, bs, rfl, hB, ?_⟩
      rw [hb]
      exact ⟨true, rfl, iteF (k _ s2)⟩
end
end K06
set_option Elab.async false
set_option linter.all false
set_option maxRecDepth 100000
set_option maxHeartbeats 8000000
namespace K06
open PySem PySem.Spec PyProof.Rows L2 KB
def spPartedC (K : PySem.W.Frag) : Sp := fun vs H Q _ => ∃ (a t u : Addr) (c : List (List Nat)) (m : Nat) (p q : Nat × Nat), vs = [.ref a, .ref t, .ref u] ∧ CodeAt H a c ∧ Good c m ∧ PrT K H t p ∧ PrT K H u q ∧ (p.1 < c.length ∧ p.2 < c.length ∧ q.1 < c.length ∧ q.2 < c.length) ∧ ∀ r H', Same H H' → H r = none → H' r = some (.lst (numsV (ptd c m p q))) → Q (.ref r) H'
def spCellsP (K : PySem.W.Frag) : Sp := fun vs H Q _ => ∃ (a t u : Addr) (c : List (List Nat)) (m : Nat) (p q : Nat × Nat), vs = [.ref a, .ref t, .ref u] ∧ CodeAt H a c ∧ Good c m ∧ PrT K H t p ∧ PrT K H u q ∧ (p.1 < c.length ∧ p.2 < c.length ∧ q.1 < c.length ∧ q.2 < c.length) ∧ ∀ H', Same H H' → Q (.int ((ptd c m p q).length : Int)) H'
def P2 (p : Nat × Nat) (i : Nat) : Nat := if i = 0 then p.1 else p.2
theorem P2_at {p : Nat × Nat} {i : Nat} {v : V} (h : [V.int (p.1 : Int), V.int (p.2 : Int)][i]? = some v) : i < 2 ∧ v = .int ((P2 p i : Nat) : Int) := by
  rcases i with _ | _ | i
  · cases h
    exact ⟨by omega, rfl⟩
  · cases h
    exact ⟨by omega, rfl⟩
  · cases h
def eb (c : List (List Nat)) (p q : Nat × Nat) (x i j : Nat) : Bool := decide (sg c (P2 p i) x = sg c (P2 q j) x)
def bitsUp (c : List (List Nat)) (p q : Nat × Nat) (x i : Nat) : List Bool := (List.range i).flatMap fun i => (List.range 2).map (eb c p q x i)
theorem bitsUp_succ (c : List (List Nat)) (p q : Nat × Nat) (x i : Nat) : bitsUp c p q x (i + 1) = bitsUp c p q x i ++ (List.range 2).map (eb c p q x i) := by
  unfold bitsUp
  rw [List.range_succ (n := i), List.flatMap_append]
  simp
theorem bitsUp_len (c : List (List Nat)) (p q : Nat × Nat) (x : Nat) : ∀ i, (bitsUp c p q x i).length = 2 * i
  | 0 => rfl
  | i + 1 => by
    rw [bitsUp_succ, List.length_append, bitsUp_len c p q x i, List.length_map, List.length_range]
    omega
theorem bits_any (c : List (List Nat)) (p q : Nat × Nat) (x : Nat) : (bitsUp c p q x 2).any id = (decide (sg c p.1 x = sg c q.1 x) || decide (sg c p.1 x = sg c q.2 x) || decide (sg c p.2 x = sg c q.1 x) || decide (sg c p.2 x = sg c q.2 x)) := by
  rw [show bitsUp c p q x 2 = [eb c p q x 0 0, eb c p q x 0 1, eb c p q x 1 0, eb c p q x 1 1] from rfl]
  simp [eb, P2, Bool.or_assoc]
section
variable {P : Program} {w : World} {K : PySem.W.Frag} {mg : Str → Option Value} {base : Heap}
abbrev s_parted_cells : Stmt := top 26
abbrev N_parted_cells : List Str := ["code", "pair", "late", "cells", "cell", "x", "y"]
theorem sc_parted_cells : FnScope N_parted_cells ["code", "pair", "late"] (defScope s_parted_cells) := ⟨rfl, rfl, rfl, by decide +kernel, rfl, by decide +kernel, by decide +kernel⟩
theorem ok_parted_cells {f : Addr} {fd : FuncData} (F : FnP K "parted_cells" s_parted_cells f fd) (Z : FreeS mg) :
    FnOk P w K mg base CX0 1 f fd ["code", "pair", "late"] (spPartedC K) := by
  refine F.ok sc_parted_cells (fun vs H Q E h => ?_) (fun cdv A outer s H vs Q E hr h => ?_)
  · obtain ⟨a, t, u, c, m, p, q, rfl, _⟩ := h
    rfl
  · obtain ⟨a, t, u, c, m, p, q, rfl, hc, g, ht, hu', ⟨h1, h2, h3, h4⟩, k⟩ := h
    obtain ⟨xs, ha, lx, hx⟩ := hc.at
    have nd := sc_parted_cells.nd
    refine ⟨_, PSs.nox (pss_cons (ps_set (i := 3) nd rfl (Or.inl rfl) (pe_callTy cr_range1 (by rfl) Z.range (by decide +kernel) (pa_cons (pe_callB call_len_seq (by rfl) Z.len (by decide +kernel) (pa_cons (pe_ix ix_list (pv 0) pe_int (fun _ _ => rfl)) pa_nil)) pa_nil)))
      (pss_one (ps_ret (pe_lc (own := [("cell", 4)]) (g := gName 4) (tt := tNot (tB (tCB (rAny K) (tCons (tLc2 (iTup K (tVar 1)) (gName 5) tYes (iTup K (tVar 2)) (gName 6) tYes (tOp rEq (tOp (rIxL K) (tOp (rIxL K) (tVar 0) (tVar 5)) (tVar 4)) (tOp (rIxL K) (tOp (rIxL K) (tVar 0) (tVar 6)) (tVar 4))) [5, 6] [6]) tNil)))) (te := tVar 4) (by rfl) nd (pi_rgV (pv 3))
          (blkOk_by (own := [("cell", 4)]) (N := N_parted_cells) (sc := defScope s_parted_cells) (by decide +kernel)) (fun _ _ _ _ _ => pg_name (i := 4) nd rfl (Or.inr rfl)) (fun _ _ _ _ _ => pts_one (pt_not (pt_val (pe_callB (cr_any rfl) (by rfl) Z.any (by decide +kernel) (pa_cons (pe_lc2 (own := [("x", 5), ("y", 6)]) (vs1 := [6]) (g := gName 5) (g1 := gName 6) (tt := tYes) (tt1 := tYes) (te := tOp rEq (tOp (rIxL K) (tOp (rIxL K) (tVar 0) (tVar 5)) (tVar 4)) (tOp (rIxL K) (tOp (rIxL K) (tVar 0) (tVar 6)) (tVar 4))) (wi1 := iTup K (tVar 2)) rfl nd (pi_tup (pv 1)) (blkOk_by (own := [("x", 5), ("y", 6)]) (N := N_parted_cells) (sc := ({ kind := .function, names := [(".0", .local), ("cell", .cell), ("any", .globalImplicit), ("code", .cell), ("late", .cell), ("pair", .cell)], isGenerator := false, isCoroutine := false })) (by decide +kernel)) (by decide) (fun _ _ _ _ _ => pg_name (i := 5) nd rfl (Or.inl rfl)) (fun _ _ _ _ _ => pts_nil) (fun _ _ _ _ _ => pi_tup (pv 2)) (fun _ _ _ _ _ => pg_name (i := 6) nd rfl (Or.inl rfl)) (fun _ _ _ _ _ => pts_nil) (fun _ _ _ _ _ => pe_cmpR op_eq (pe_ix ix_list (pe_ix ix_list (pv 0) (pv 5) (fun _ _ => rfl)) (pv 4) (fun _ _ => rfl)) (pe_ix ix_list (pe_ix ix_list (pv 0) (pv 6) (fun _ _ => rfl)) (pv 4) (fun _ _ => rfl)) (nomark _))) (pa_nil))))))
          (fun _ _ _ _ _ => pv 4))))), ?_⟩
    have g2 := g.two
    have m100 := g.small
    obtain ⟨p0, z1, z2⟩ := hx 0 (by omega)
    have l0 := g.len _ (List.getElem_mem (show 0 < c.length by omega))
    refine ⟨_, rfl, a, xs, 0, .ref p0, rfl, rfl, SqL.of ha, atI_nat (j := 0) z1, p0, _, rfl, .inl (SqL.of z2), _, rfl, fun R hR => ?_⟩
    rw [numsV_len, l0]
    have sR := Same.updf (o := .rng 0 (m : Int)) hR
    refine ⟨_, rfl, R, 0, (m : Int), rfl, upd_same, ⟨by omega, by omega, by omega, by omega⟩, fun D hD => ?_⟩
    rw [show ((m : Int) - 0).toNat = m by omega]
    generalize hG : upd H R (.rng 0 (m : Int)) = G at *
    clear hG
    refine lc_sel (n := m) (walk_range (lo := 0) (n := m)) (fun x => if (!(decide (sg c p.1 x = sg c q.1 x) || decide (sg c p.1 x = sg c q.2 x) || decide (sg c p.2 x = sg c q.1 x) || decide (sg c p.2 x = sg c q.2 x))) = true then some (.int (x : Int)) else none) (by omega) hD (fun H2 s2 => trivial) ?_ ?_
    · rintro x v H2 H3 Qy Qn hx3 sH ⟨rfl, rfl⟩ ky kn
      have s02 := sR.trans sH
      refine ⟨rfl, ?_⟩
      refine ⟨_, rfl, t, rfl, ⟨_, SqT_up s02 ht⟩, fun D2 hD2 => ?_⟩
      refine cl_walk (walk_tup (K := K) (a := t) (xs := [.int (p.1 : Int), .int (p.2 : Int)])) (fun i G2 => Same H3 G2 ∧ G2 D2 = some (.lst ((bitsUp c p q x i).map V.bl))) ⟨Same.updf hD2, upd_same⟩ (fun i G2 _ hh => SqT_up hh.1 (SqT_up s02 ht)) ?_ ?_
      · rintro i y G2 G3 hi ⟨s3, hb⟩ ⟨rfl, hv⟩
        obtain ⟨i2, rfl⟩ := P2_at hv
        refine ⟨rfl, ?_⟩
        refine ⟨_, rfl, u, rfl, ⟨_, SqT_up s3 (SqT_up s02 hu')⟩, ?_⟩
        refine cl_walk (walk_tup (K := K) (a := u) (xs := [.int (q.1 : Int), .int (q.2 : Int)])) (fun j G4 => Same H3 G4 ∧ G4 D2 = some (.lst ((bitsUp c p q x i ++ (List.range j).map (eb c p q x i)).map V.bl))) ⟨s3, by rw [List.range_zero, List.map_nil, List.append_nil]; exact hb⟩ (fun j G4 _ hh => SqT_up hh.1 (SqT_up s02 hu')) ?_ ?_
        · rintro j y2 G4 G5 hj ⟨s5, hb5⟩ ⟨rfl, hv2⟩
          obtain ⟨j2, rfl⟩ := P2_at hv2
          have hpi : P2 p i < c.length := by unfold P2; split <;> assumption
          have hqj : P2 q j < c.length := by unfold P2; split <;> assumption
          obtain ⟨pp, a1, a2⟩ := hx _ hpi
          obtain ⟨qq, b1, b2⟩ := hx _ hqj
          have lp := g.len _ (List.getElem_mem hpi)
          have lq := g.len _ (List.getElem_mem hqj)
          have s05 := s02.trans s5
          refine ⟨rfl, _, rfl, _, rfl, a, xs, (P2 p i : Nat), .ref pp, rfl, rfl, SqL.of (s05 _ _ ha), atI_nat a1, _, rfl, pp, _, (0 + (x : Int)), .int (c[P2 p i][x]'(by omega) : Nat), rfl, rfl, SqL.of (s05 _ _ a2), by rw [show (0 + (x : Int)) = ((x : Nat) : Int) by omega]; exact atI_nat (numsV_get (by omega)), ?_⟩
          refine ⟨_, rfl, _, rfl, a, xs, (P2 q j : Nat), .ref qq, rfl, rfl, SqL.of (s05 _ _ ha), atI_nat b1, _, rfl, qq, _, (0 + (x : Int)), .int (c[P2 q j][x]'(by omega) : Nat), rfl, rfl, SqL.of (s05 _ _ b2), by rw [show (0 + (x : Int)) = ((x : Nat) : Int) by omega]; exact atI_nat (numsV_get (by omega)), rfl, ?_⟩
          have lb : (bitsUp c p q x i).length ≤ 4 := by
            have : (bitsUp c p q x i).length = 2 * i := bitsUp_len ..
            omega
          refine ⟨_, hb5, ?_, ⟨fun b o e => ?_, ?_⟩⟩
          · rw [List.length_map, List.length_append, List.length_map, List.length_range]
            have : (100 : Nat) < sizeLine := by decide
            omega
          · rw [upd_ne (ne_of_none e hD2)]
            exact s5 _ _ e
          · have e5 : eb c p q x i j = decide (V.int ((c[P2 p i][x]'(by omega) : Nat) : Int) = V.int ((c[P2 q j][x]'(by omega) : Nat) : Int)) := by
              unfold eb
              rw [sg_at hpi (by omega), sg_at hqj (by omega)]
              by_cases h : c[P2 p i][x]'(by omega) = c[P2 q j][x]'(by omega)
              · rw [decide_eq_true h, decide_eq_true (by rw [h])]
              · rw [decide_eq_false h, decide_eq_false fun z => h (by have := V.int.inj z; omega)]
            rw [upd_same, List.range_succ (n := j)]
            simp only [List.map_append, List.map_cons, List.map_nil, List.append_assoc, e5]
        · rintro G4 ⟨s4, hb4⟩
          exact ⟨s4, by rw [bitsUp_succ]; exact hb4⟩
      · rintro G2 ⟨s3, hb⟩
        refine ⟨D2, bitsUp c p q x 2, rfl, SqL.of hb, _, rfl, ?_⟩
        rw [bits_any]
        cases cc : (decide (sg c p.1 x = sg c q.1 x) || decide (sg c p.1 x = sg c q.2 x) || decide (sg c p.2 x = sg c q.1 x) || decide (sg c p.2 x = sg c q.2 x)) with
        | true => exact iteF (kn _ s3 (by rw [cc]; rfl))
        | false => exact iteT ⟨_, rfl, ky _ _ s3 (by rw [cc]; simp)⟩
    · intro H3 s3 hR3
      refine k D H3 (sR.trans s3) (none_back sR hD) ?_
      rw [hR3]
      unfold ptd
      rw [fm_nums]
abbrev s_cells_parted : Stmt := top 28
abbrev N_cells_parted : List Str := ["code", "pair", "late"]
theorem sc_cells_parted : FnScope N_cells_parted ["code", "pair", "late"] (defScope s_cells_parted) := ⟨rfl, rfl, rfl, by decide +kernel, rfl, by decide +kernel, by decide +kernel⟩
theorem ok_cells_parted {f : Addr} {fd : FuncData} (F : FnP K "cells_parted" s_cells_parted f fd) (Z : FreeS mg)
    {f_need_code : Addr} {d_need_code : FuncData} (g_need_code : mg "need_code" = some (.ref f_need_code)) (F_need_code : FnP K "need_code" s_need_code f_need_code d_need_code) (G_need_code : FnOk P w K mg base CX0 5 f_need_code d_need_code ["code"] spNeedCode)
    {f_need_two_positions : Addr} {d_need_two_positions : FuncData} (g_need_two_positions : mg "need_two_positions" = some (.ref f_need_two_positions)) (F_need_two_positions : FnP K "need_two_positions" s_need_two_positions f_need_two_positions d_need_two_positions) (G_need_two_positions : FnOk P w K mg base CX0 4 f_need_two_positions d_need_two_positions ["code", "pair"] (spNeedTwo K))
    {f_parted_cells : Addr} {d_parted_cells : FuncData} (g_parted_cells : mg "parted_cells" = some (.ref f_parted_cells)) (F_parted_cells : FnP K "parted_cells" s_parted_cells f_parted_cells d_parted_cells) (G_parted_cells : FnOk P w K mg base CX0 1 f_parted_cells d_parted_cells ["code", "pair", "late"] (spPartedC K)) :
    FnOk P w K mg base CX0 6 f fd ["code", "pair", "late"] (spCellsP K) := by
  have b_need_code : Binds K d_need_code ["code"] [] := F_need_code.bindsN fun _ _ _ _ _ _ us hl => match us, hl with | [_], _ => rfl
  have b_need_two_positions : Binds K d_need_two_positions ["code", "pair"] [] := F_need_two_positions.bindsN fun _ _ _ _ _ _ us hl => match us, hl with | [_, _], _ => rfl
  have b_parted_cells : Binds K d_parted_cells ["code", "pair", "late"] [] := F_parted_cells.bindsN fun _ _ _ _ _ _ us hl => match us, hl with | [_, _, _], _ => rfl
  refine F.ok sc_cells_parted (fun vs H Q E h => ?_) (fun cdv A outer s H vs Q E hr h => ?_)
  · obtain ⟨a, t, u, c, m, p, q, rfl, _⟩ := h
    rfl
  · obtain ⟨a, t, u, c, m, p, q, rfl, hc, g, ht, hu', ⟨h1, h2, h3, h4⟩, k⟩ := h
    have nd := sc_cells_parted.nd
    refine ⟨_, PSs.nox (pss_cons (ps_expr (pe_call G_need_code (hr.mono (by decide)) rfl g_need_code F_need_code.kp b_need_code .nil pass0 (pa_cons (pv 0) (pa_nil))))
      (pss_cons (ps_expr (pe_call G_need_two_positions (hr.mono (by decide)) rfl g_need_two_positions F_need_two_positions.kp b_need_two_positions .nil pass0 (pa_cons (pv 0) (pa_cons (pv 1) (pa_nil)))))
      (pss_cons (ps_expr (pe_call G_need_two_positions (hr.mono (by decide)) rfl g_need_two_positions F_need_two_positions.kp b_need_two_positions .nil pass0 (pa_cons (pv 0) (pa_cons (pv 2) (pa_nil)))))
      (pss_one (ps_ret (pe_callB call_len_seq (by rfl) Z.len (by decide +kernel) (pa_cons (pe_call G_parted_cells (hr.mono (by decide)) rfl g_parted_cells F_parted_cells.kp b_parted_cells .nil pass0 (pa_cons (pv 0) (pa_cons (pv 1) (pa_cons (pv 2) (pa_nil))))) (pa_nil)))))))), ?_⟩
    refine ⟨_, rfl, a, c, m, rfl, hc, g, fun H1 s1 => ?_⟩
    refine ⟨_, rfl, _, rfl, a, t, c, p, rfl, hc.same s1, SqT_up s1 ht, h1, h2, fun H2 s2 => ?_⟩
    have s12 := s1.trans s2
    refine ⟨_, rfl, _, rfl, a, u, c, q, rfl, hc.same s12, SqT_up s12 hu', h3, h4, fun H3 s3 => ?_⟩
    have s13 := s12.trans s3
    refine ⟨_, rfl, _, rfl, _, rfl, a, t, u, c, m, p, q, rfl, hc.same s13, g, SqT_up s13 ht, SqT_up s13 hu', ⟨h1, h2, h3, h4⟩, fun r H4 s4 n4 hr4 => ?_⟩
    refine ⟨r, _, rfl, .inl (SqL.of hr4), ?_⟩
    rw [numsV_len]
    exact k _ (s13.trans s4)
end
end K06
set_option Elab.async false
set_option linter.all false
set_option maxRecDepth 100000
set_option maxHeartbeats 8000000
/-! The law's own: shuffled. -/
namespace K06
open PySem PySem.Spec PyProof.Rows L2 KB
def spShuffled (K : PySem.W.Frag) : Sp := fun vs H Q _ => ∃ (pu c : Addr) (N : Nat) (L : List V), vs = [.ref pu, .ref c] ∧ Purse H pu N ∧ N + L.length ≤ 2 ^ 38 ∧ c ≠ pu ∧ H c = some (.lst L) ∧ L.length ≤ 100000 ∧
  ∀ q L' H', But pu H H' → Purse H' pu (N + L.length) → H q = none → H' q = some (.lst L') → L'.Perm L → Q (.ref q) H'
section
variable {P : Program} {w : World} {K : PySem.W.Frag} {mg : Str → Option Value} {base : Heap}
abbrev s_shuffled : Stmt := top 36
abbrev N_shuffled : List Str := ["_law_purse_here", "_law_some", "_law_found", "_law_item"]
theorem sc_shuffled : FnScope N_shuffled ["_law_purse_here", "_law_some"] (defScope s_shuffled) := ⟨rfl, rfl, rfl, by decide +kernel, rfl, by decide +kernel, by decide +kernel⟩
theorem ok_shuffled {f : Addr} {fd : FuncData} (F : FnP K "_law_shuffled" s_shuffled f fd) (Z : FreeS mg)
    {f_draw : Addr} {d_draw : FuncData} (g_draw : mg "_law_draw" = some (.ref f_draw)) (F_draw : FnP K "_law_draw" s_draw f_draw d_draw) (G_draw : FnOk P w K mg base CX0 2 f_draw d_draw ["_law_purse_here", "_law_many"] spDraw) :
    FnOk P w K mg base CX0 3 f fd ["_law_purse_here", "_law_some"] (spShuffled K) := by
  have b_draw : Binds K d_draw ["_law_purse_here", "_law_many"] [] := F_draw.bindsN fun _ _ _ _ _ _ us hl => match us, hl with | [_, _], _ => rfl
  refine F.ok sc_shuffled (fun vs H Q E h => ?_) (fun cdv A outer s H vs Q E hr h => ?_)
  · obtain ⟨pu, c, N, L, rfl, _⟩ := h
    rfl
  · obtain ⟨pu, c, N, L, rfl, hP, hN, nc, hc, l60, k⟩ := h
    have sl : (300000 : Nat) ≤ sizeLine := by decide
    have nd := sc_shuffled.nd
    refine ⟨_, PSs.nox (pss_cons (ps_set (i := 2) nd rfl (Or.inl rfl) (pe_lst (pa_nil)))
      (pss_cons (ps_for PassesOwn.never rfl (pi_list (pv 1)) (pg_name (i := 3) nd rfl (Or.inl rfl))
        (pss_one (ps_expr (pe_bm PySem.F.plainAttrs_list PySem.F.slot_list_insert PySem.F.type_list_insert mt_insert (pv 2) (pa_cons (pe_call G_draw (hr.mono (by decide)) rfl g_draw F_draw.kp b_draw .nil pass0 (pa_cons (pv 0) (pa_cons (pe_op op_add (pe_callB call_len_seq (by rfl) Z.len (by decide +kernel) (pa_cons (pv 2) (pa_nil))) (pe_int)) (pa_nil)))) (pa_cons (pv 3) (pa_nil)))))))
      (pss_one (ps_ret (pv 2))))), ?_⟩
    refine ⟨Nat.zero_le _, fun q hq => ?_⟩
    have nq : q ≠ pu := fresh_ne hP hq
    have s1 := Same.updf (o := .lst []) hq
    have P1 := hP.same s1
    refine ⟨_, rfl, c, rfl, ⟨_, SqL.of (s1 _ _ hc)⟩, ?_⟩
    refine for_it (walk_list (K := K) (a := c) (xs := L)) (fun i σ G => But pu H G ∧ (∃ M, Purse G pu M ∧ M ≤ N + i) ∧ ∃ (ys : List V) (v3 : Option V), G q = some (.lst ys) ∧ ys.Perm (L.take i) ∧ σ = [some (.ref pu), some (.ref c), some (.ref q), v3])
      ⟨But.of s1, ⟨N, P1, by omega⟩, [], _, upd_same, List.Perm.refl _, rfl⟩ (fun i σ G _ hh => SqL.of (hh.1 _ _ nc hc)) ?_ ?_
    · rintro i x σ G G' li ⟨bG, ⟨M, PM, lM⟩, ys, v3, hy, py, rfl⟩ ⟨rfl, hv⟩
      rw [List.getElem?_eq_getElem li] at hv
      obtain rfl := Option.some.inj hv
      have ly := py.length_eq
      rw [List.length_take] at ly
      have mx : mixes (((ys).length : Nat) + 1 : Int) = 1 := mixes_one (by omega) (by omega)
      refine ⟨_, rfl, .inl ⟨rfl, _, SqL.of hy⟩, _, rfl, _, rfl, q, _, rfl, .inl (SqL.of hy), _, _, rfl, rfl, pu, _, M, rfl, by omega, log_small (by omega) (by omega), PM, by rw [mx]; omega, by rw [mx]; omega, fun r G2 r0 r1 b2 P2 => ?_⟩
      rw [mx] at P2
      obtain ⟨r, rfl⟩ : ∃ z : Nat, r = (z : Int) := ⟨r.toNat, by omega⟩
      have hy2 := b2 _ _ nq hy
      refine ⟨_, rfl, q, _, _, _, rfl, rfl, hy2, by omega, by omega, by omega, ?_⟩
      refine ⟨fun c o n e => ?_, ⟨_, P2.same' (upd_ne nq.symm), by omega⟩, ys.take r ++ [L[i]] ++ ys.drop r, _, ?_, ?_, rfl⟩
      · rw [upd_ne (ne_of_none e hq)]
        exact b2 _ _ n (bG _ _ n e)
      · rw [upd_same, Int.toNat_natCast]
      · rw [List.take_succ, List.getElem?_eq_getElem li]
        refine List.Perm.trans ?_ (py.append_right [L[i]])
        rw [List.append_assoc]
        refine (List.Perm.append_left (ys.take r) List.perm_append_comm).trans ?_
        rw [← List.append_assoc, List.take_append_drop]
    · rintro σ G ⟨bG, ⟨M, PM, lM⟩, ys, v3, hy, py, rfl⟩
      rw [List.take_length] at py
      exact ⟨_, rfl, k q ys G bG (PM.mono (by omega)) hq hy py⟩
end
end K06
set_option Elab.async false
set_option linter.all false
set_option maxRecDepth 100000
set_option maxHeartbeats 8000000
/-! may_leave. -/
namespace K06
open PySem PySem.Spec PyProof.Rows L2 KB
def spMay (K : PySem.W.Frag) : Sp := fun vs H Q _ => ∃ (a t : Addr) (c : List (List Nat)) (m i j : Nat) (os : List (Option Nat)) (ch un : Nat), vs = [.ref a, .int (i : Int), .int (j : Int), .ref t, .int (ch : Int), .int (un : Int)] ∧ CodeAt H a c ∧ Good c m ∧ i < c.length ∧ j < c.length ∧ H t = some (.lst (os.map oV)) ∧ os.length = m ∧
  ∀ H', Same H H' → Q (.bl (shB (c.getD i []) (c.getD j []) (some os) ch un)) H'
theorem cnt_none (os : List (Option Nat)) : ((List.range os.length).filterMap fun s => match os.getD s none with
      | none => some V.non
      | some _ => none).length = os.count none := by
  have e := sel_getG (none : Option Nat) os (fun o => o.isNone)
  have e1 := fm_len (f := fun s => match os.getD s none with
      | none => some V.non
      | some _ => none) (c := fun s => (os.getD s none).isNone) (fun s => by cases os.getD s none <;> rfl) (List.range os.length)
  rw [e1, List.count_eq_countP, List.countP_eq_length_filter]
  have e2 := congrArg List.length e
  rw [List.length_map] at e2
  rw [e2]
  congr 1
  apply List.filter_congr
  intro o _
  cases o <;> rfl
theorem notIn_two (n A1 A2 : Nat) : (if true = true then !inV (oV (some n)) [V.int (A1 : Int), V.int (A2 : Int)] else inV (oV (some n)) [V.int (A1 : Int), V.int (A2 : Int)]) = (decide (n ≠ A1) && decide (n ≠ A2)) := by
  rw [if_pos rfl]
  have e : ∀ a : Nat, eqV (.int (a : Int)) (oV (some n)) = decide (n = a) := fun a => by
    show eqV (.int (a : Int)) (.int (n : Int)) = _
    unfold eqV
    by_cases h : n = a
    · simp [h]
    · have : ¬ (a : Int) = (n : Int) := by omega
      simp [h, this]
  simp only [inV, List.any_cons, List.any_nil, Bool.or_false, e, Bool.not_or]
  by_cases h1 : n = A1 <;> by_cases h2 : n = A2 <;> simp [h1, h2]
def offB (r1 r2 : List Nat) (os : List (Option Nat)) (i : Nat) : Bool := match os.getD i none with
  | none => false
  | some n => decide (n ≠ r1.getD i 0) && decide (n ≠ r2.getD i 0)
section
variable {P : Program} {w : World} {K : PySem.W.Frag} {mg : Str → Option Value} {base : Heap}
abbrev s_may_leave : Stmt := top 43
abbrev N_may_leave : List Str := ["_law_code", "_law_one", "_law_other", "_law_value", "_law_changed", "_law_unread", "_law_off", "_law_at", "_law_sign"]
theorem sc_may_leave : FnScope N_may_leave ["_law_code", "_law_one", "_law_other", "_law_value", "_law_changed", "_law_unread"] (defScope s_may_leave) := ⟨rfl, rfl, rfl, by decide +kernel, rfl, by decide +kernel, by decide +kernel⟩
theorem ok_may_leave {f : Addr} {fd : FuncData} (F : FnP K "_law_may_leave" s_may_leave f fd) (Z : FreeS mg) :
    FnOk P w K mg base CX0 1 f fd ["_law_code", "_law_one", "_law_other", "_law_value", "_law_changed", "_law_unread"] (spMay K) := by
  refine F.ok sc_may_leave (fun vs H Q E h => ?_) (fun cdv A outer s H vs Q E hr h => ?_)
  · obtain ⟨a, t, c, m, i, j, os, ch, un, rfl, _⟩ := h
    rfl
  · obtain ⟨a, t, c, m, i, j, os, ch, un, rfl, hc, g, hi, hj, ht, lo, k⟩ := h
    obtain ⟨xs, ha, lx, hx⟩ := hc.at
    obtain ⟨pi, i1, i2⟩ := hx i hi
    obtain ⟨pj, j1, j2⟩ := hx j hj
    have li := g.len _ (List.getElem_mem hi)
    have lj := g.len _ (List.getElem_mem hj)
    have m100 := g.small
    have lm : (os.map oV).length = os.length := List.length_map _
    have nd := sc_may_leave.nd
    refine ⟨_, PSs.nox (pss_cons (ps_if (pt_cmpR op_gt (pe_callB call_len_seq (by rfl) Z.len (by decide +kernel) (pa_cons (pe_lc (own := [("_law_sign", 8)]) (g := gName 8) (tt := tTest (tOp rIsN (tVar 8) (tC .non))) (te := tVar 8) (by rfl) nd (pi_list (pv 3))
          (blkOk_by (own := [("_law_sign", 8)]) (N := N_may_leave) (sc := defScope s_may_leave) (by decide +kernel)) (fun _ _ _ _ _ => pg_name (i := 8) nd rfl (Or.inl rfl)) (fun _ _ _ _ _ => pts_one (pt_cmpR op_isN (pv 8) (pe_non) (nomark _)))
          (fun _ _ _ _ _ => pv 8)) (pa_nil))) (pv 5) (nomark _)) (pss_one (ps_ret (pe_bl))) (pss_nil))
      (pss_cons (ps_setLc (i := 6) (own := [("_law_at", 7)]) (g := gName 7) (tt := tAnd (tTest (tOp rNotN (tOp (rIxL K) (tVar 3) (tVar 7)) (tC .non))) (tTest (tOp (rIn K true) (tOp (rIxL K) (tVar 3) (tVar 7)) (tTup (tCons (tOp (rIxL K) (tOp (rIxL K) (tVar 0) (tVar 1)) (tVar 7)) (tCons (tOp (rIxL K) (tOp (rIxL K) (tVar 0) (tVar 2)) (tVar 7)) (tNil))))))) (te := tVar 7) (by rfl) nd rfl rfl rfl (pi_range1 (by rfl) Z.range (pa_cons (pe_callB call_len_seq (by rfl) Z.len (by decide +kernel) (pa_cons (pv 3) (pa_nil))) (pa_nil)))
          (blkOk_by (own := [("_law_at", 7)]) (N := N_may_leave) (sc := defScope s_may_leave) (by decide +kernel)) (fun _ _ _ _ _ => pg_name (i := 7) nd rfl (Or.inl rfl)) (fun _ _ _ _ _ => pts_one (PW.pt (pw_and (pt_cmpR op_notN (pe_ix ix_list (pv 3) (pv 7) (fun _ _ => rfl)) (pe_non) (nomark _)) (pw_and1 (pt_cmpR op_notIn_seq (pe_ix ix_list (pv 3) (pv 7) (fun _ _ => rfl)) (pe_tup (pa_cons (pe_ix ix_list (pe_ix ix_list (pv 0) (pv 1) (fun _ _ => rfl)) (pv 7) (fun _ _ => rfl)) (pa_cons (pe_ix ix_list (pe_ix ix_list (pv 0) (pv 2) (fun _ _ => rfl)) (pv 7) (fun _ _ => rfl)) (pa_nil)))) (by rfl))))))
          (fun _ _ _ _ _ => pv 7))
      (pss_one (ps_ret (pe_cmpR op_le (pe_callB call_len_seq (by rfl) Z.len (by decide +kernel) (pa_cons (pv 6) (pa_nil))) (pv 4) (nomark _)))))), ?_⟩
    refine ⟨_, rfl, t, rfl, ⟨_, SqL.of ht⟩, fun D hD => ?_⟩
    refine lc_sel (n := os.length) (by have := walk_list (K := K) (a := t) (xs := os.map oV); rw [lm] at this; exact this) (fun s => match os.getD s none with
      | none => some .non
      | some _ => none) (by omega) hD (fun H2 s2 => SqL.of (s2 _ _ ht)) ?_ ?_
    · rintro s x H2 H3 Qy Qn hs sH ⟨rfl, hv⟩ ky kn
      rw [List.getElem?_map, List.getElem?_eq_getElem hs] at hv
      cases hv
      have ed : os.getD s none = os[s] := by rw [List.getD_eq_getElem?_getD, List.getElem?_eq_getElem hs]; rfl
      rw [ed] at ky kn
      refine ⟨rfl, ?_⟩
      generalize os[s] = o at ky kn ⊢
      cases o with
      | none => exact ⟨_, rfl, rfl, _, rfl, iteT ⟨_, rfl, ky _ _ (Same.refl _) rfl⟩⟩
      | some n => exact ⟨_, rfl, rfl, _, rfl, iteF (kn _ (Same.refl _) rfl)⟩
    intro H2 s2 hR
    refine ⟨D, _, rfl, .inl (SqL.of hR), _, rfl, _, _, rfl, rfl, _, rfl, ?_⟩
    rw [cnt_none]
    have k3 := k
    have se : shB (c.getD i []) (c.getD j []) (some os) ch un = (decide (os.count none ≤ un) && decide (offN (c.getD i []) (c.getD j []) os ≤ ch)) := rfl
    rw [se] at k3
    by_cases c1 : os.count none ≤ un
    · rw [show decide ((un : Int) < ((os.count none : Nat) : Int)) = false from decide_eq_false (by omega)]
      rw [decide_eq_true c1] at k3
      refine iteF ?_
      have ht2 := s2 _ _ ht
      have ha2 := s2 _ _ ha
      refine ⟨_, rfl, t, _, rfl, .inl (SqL.of ht2), _, rfl, by rw [lm]; omega, by rw [lm]; omega, fun D2 hD2 => ?_⟩
      rw [lm, show ((os.length : Nat) : Int).toNat = os.length by omega]
      have di : c.getD i [] = c[i] := by rw [List.getD_eq_getElem?_getD, List.getElem?_eq_getElem hi]; rfl
      have dj : c.getD j [] = c[j] := by rw [List.getD_eq_getElem?_getD, List.getElem?_eq_getElem hj]; rfl
      rw [di, dj] at k3
      refine lc_sel (n := os.length) (walk_range (lo := 0) (n := os.length)) (fun s => if offB c[i] c[j] os s = true then some (.int (s : Int)) else none) (by omega) hD2 (fun H3 s3 => trivial) ?_ ?_
      · rintro s x H3 H4 Qy Qn hs sH ⟨rfl, rfl⟩ ky kn
        have hit := sH _ _ ht2
        have ed : os.getD s none = os[s] := by rw [List.getD_eq_getElem?_getD, List.getElem?_eq_getElem hs]; rfl
        have e0 : (0 + (s : Int)) = ((s : Nat) : Int) := by omega
        have av : atI (os.map oV) (0 + (s : Int)) = some (oV os[s]) := by
          rw [e0]
          exact atI_nat (by rw [List.getElem?_map, List.getElem?_eq_getElem hs]; rfl)
        have ob : offB c[i] c[j] os s = match os[s] with
          | none => false
          | some n => decide (n ≠ c[i][s]'(by omega)) && decide (n ≠ c[j][s]'(by omega)) := by
          unfold offB
          rw [ed, List.getD_eq_getElem?_getD, List.getD_eq_getElem?_getD, List.getElem?_eq_getElem (show s < c[i].length by omega), List.getElem?_eq_getElem (show s < c[j].length by omega)]
          rfl
        rw [ob] at ky kn
        refine ⟨rfl, ?_⟩
        refine ⟨_, rfl, _, rfl, t, _, _, _, rfl, rfl, SqL.of hit, av, rfl, _, rfl, ?_⟩
        generalize hO : os[s] = o at av ky kn ⊢
        cases o with
        | none => exact iteF (kn _ (Same.refl _) rfl)
        | some n =>
          refine iteT ⟨_, rfl, _, rfl, t, _, _, _, rfl, rfl, SqL.of hit, av, ?_⟩
          refine ⟨_, rfl, _, rfl, a, xs, (i : Nat), .ref pi, rfl, rfl, SqL.of (sH _ _ ha2), atI_nat i1, _, rfl, pi, _, _, .int (c[i][s]'(by omega) : Nat), rfl, rfl, SqL.of (sH _ _ (s2 _ _ i2)), by rw [e0]; exact atI_nat (numsV_get (by omega)), ?_⟩
          refine ⟨_, rfl, _, rfl, a, xs, (j : Nat), .ref pj, rfl, rfl, SqL.of (sH _ _ ha2), atI_nat j1, _, rfl, pj, _, _, .int (c[j][s]'(by omega) : Nat), rfl, rfl, SqL.of (sH _ _ (s2 _ _ j2)), by rw [e0]; exact atI_nat (numsV_get (by omega)), ?_⟩
          refine ⟨(by show 2 ≤ sizeLine; decide), fun T hT => ?_⟩
          have sT : ∀ o, Same H4 (upd H4 T o) := fun _ => Same.updf hT
          refine ⟨T, _, rfl, .inr (SqT.of upd_same), rfl, rfl, _, rfl, ?_⟩
          generalize c[i][s]'(by omega) = A1 at ky kn ⊢
          generalize c[j][s]'(by omega) = A2 at ky kn ⊢
          rw [show (if true = true then !inV (oV (some n)) [V.int (A1 : Int), V.int (A2 : Int)] else inV (oV (some n)) [V.int (A1 : Int), V.int (A2 : Int)]) = (decide (n ≠ A1) && decide (n ≠ A2)) from notIn_two n A1 A2]
          have kyy := fun e => ky (.int (s : Int)) (upd H4 T (.tup [.int (A1 : Int), .int (A2 : Int)])) (sT _) e
          have knn := fun e => kn (upd H4 T (.tup [.int (A1 : Int), .int (A2 : Int)])) (sT _) e
          cases cc : (decide (n ≠ A1) && decide (n ≠ A2)) with
          | false =>
            exact iteF (knn (if_neg (show ¬ ((decide (n ≠ A1) && decide (n ≠ A2)) = true) by rw [cc]; decide)))
          | true =>
            refine iteT ⟨_, rfl, ?_⟩
            rw [show (fun i : Nat => V.int (0 + (i : Int))) s = V.int (s : Int) from congrArg V.int e0]
            exact kyy (if_pos (show (decide (n ≠ A1) && decide (n ≠ A2)) = true from cc))
      · intro H3 s3 hR3
        refine ⟨_, rfl, D2, _, rfl, .inl (SqL.of hR3), _, rfl, _, _, rfl, rfl, ?_⟩
        have el : ((List.range os.length).filterMap fun s => if offB c[i] c[j] os s = true then some (V.int (s : Int)) else none).length = offN c[i] c[j] os := by
          refine fm_len (fun s => ?_) _
          show (if offB c[i] c[j] os s = true then some (V.int (s : Int)) else none).isSome = offB c[i] c[j] os s
          cases offB c[i] c[j] os s <;> rfl
        rw [el]
        rw [Bool.true_and] at k3
        have e5 : decide (((offN c[i] c[j] os : Nat) : Int) ≤ (ch : Int)) = decide (offN c[i] c[j] os ≤ ch) := by
          by_cases c2 : offN c[i] c[j] os ≤ ch
          · rw [decide_eq_true c2, decide_eq_true (by omega)]
          · rw [decide_eq_false c2, decide_eq_false (by omega)]
        show Q (.bl (decide (((offN c[i] c[j] os : Nat) : Int) ≤ (ch : Int)))) H3
        rw [e5]
        exact k3 _ (s2.trans s3)
    · rw [show decide ((un : Int) < ((os.count none : Nat) : Int)) = true from decide_eq_true (by omega)]
      rw [decide_eq_false c1, Bool.false_and] at k3
      exact iteT (k3 _ s2)
end
end K06
set_option Elab.async false
set_option linter.all false
set_option maxRecDepth 100000
set_option maxHeartbeats 8000000
/-! twos of the law. -/
namespace K06
open PySem PySem.Spec PyProof.Rows L2 KB
def spLTwos (K : PySem.W.Frag) : Sp := fun vs H Q _ => ∃ (a t : Addr) (c : List (List Nat)) (m : Nat) (os : List (Option Nat)) (ch un : Nat), vs = [.ref a, .ref t, .int (ch : Int), .int (un : Int)] ∧ CodeAt H a c ∧ Good c m ∧ H t = some (.lst (os.map oV)) ∧ os.length = m ∧
  ∀ D H', Same H H' → H D = none → PairsAt H' D (twosR c (some os) ch un) → Q (.ref D) H'
theorem paired_app {α β : Type} {F : α → β → Prop} : ∀ {xs : List α} {ys : List β} {xs' : List α} {ys' : List β}, Paired F xs ys → Paired F xs' ys' → Paired F (xs ++ xs') (ys ++ ys')
  | _, _, _, _, .nil, q => q
  | _, _, _, _, .cons h p, q => .cons h (paired_app p q)
section
variable {P : Program} {w : World} {K : PySem.W.Frag} {mg : Str → Option Value} {base : Heap}
abbrev s_l_twos : Stmt := top 44
abbrev N_l_twos : List Str := ["_law_code", "_law_value", "_law_changed", "_law_unread", "_law_found", "_law_one", "_law_other"]
theorem sc_l_twos : FnScope N_l_twos ["_law_code", "_law_value", "_law_changed", "_law_unread"] (defScope s_l_twos) := ⟨rfl, rfl, rfl, by decide +kernel, rfl, by decide +kernel, by decide +kernel⟩
theorem ok_l_twos {f : Addr} {fd : FuncData} (F : FnP K "_law_twos" s_l_twos f fd) (Z : FreeS mg)
    {f_may_leave : Addr} {d_may_leave : FuncData} (g_may_leave : mg "_law_may_leave" = some (.ref f_may_leave)) (F_may_leave : FnP K "_law_may_leave" s_may_leave f_may_leave d_may_leave) (G_may_leave : FnOk P w K mg base CX0 1 f_may_leave d_may_leave ["_law_code", "_law_one", "_law_other", "_law_value", "_law_changed", "_law_unread"] (spMay K)) :
    FnOk P w K mg base CX0 2 f fd ["_law_code", "_law_value", "_law_changed", "_law_unread"] (spLTwos K) := by
  have b_may_leave : Binds K d_may_leave ["_law_code", "_law_one", "_law_other", "_law_value", "_law_changed", "_law_unread"] [] := F_may_leave.bindsN fun _ _ _ _ _ _ us hl => match us, hl with | [_, _, _, _, _, _], _ => rfl
  refine F.ok sc_l_twos (fun vs H Q E h => ?_) (fun cdv A outer s H vs Q E hr h => ?_)
  · obtain ⟨a, t, c, m, os, ch, un, rfl, _⟩ := h
    rfl
  · obtain ⟨a, t, c, m, os, ch, un, rfl, hc, g, ht, lo, k⟩ := h
    obtain ⟨xs, ha, lx, hx⟩ := hc.at
    have c30 := g.few
    have sl : (100000 : Nat) < sizeLine := by decide
    have nd := sc_l_twos.nd
    refine ⟨_, PSs.nox (pss_cons (ps_set (i := 4) nd rfl (Or.inl rfl) (pe_lst (pa_nil)))
      (pss_cons (ps_for PassesOwn.never rfl (pi_range1 (by rfl) Z.range (pa_cons (pe_callB call_len_seq (by rfl) Z.len (by decide +kernel) (pa_cons (pv 0) (pa_nil))) (pa_nil))) (pg_name (i := 5) nd rfl (Or.inr rfl))
        (pss_one (ps_set (i := 4) nd rfl (Or.inl rfl) (pe_op op_cat (pv 4) (pe_lc (own := [("_law_other", 6)]) (g := gName 6) (tt := tB (tCall (spMay K) [] E0 (tCons (tVar 0) (tCons (tVar 5) (tCons (tVar 6) (tCons (tVar 1) (tCons (tVar 2) (tCons (tVar 3) (tNil))))))))) (te := tTup (tCons (tVar 5) (tCons (tVar 6) (tNil)))) (by rfl) nd (pi_range2 (by rfl) Z.range (pa_cons (pv 5) (pa_cons (pe_callB call_len_seq (by rfl) Z.len (by decide +kernel) (pa_cons (pv 0) (pa_nil))) (pa_nil))))
          (blkOk_by (own := [("_law_other", 6)]) (N := N_l_twos) (sc := defScope s_l_twos) (by decide +kernel)) (fun _ _ _ _ _ => pg_name (i := 6) nd rfl (Or.inl rfl)) (fun _ _ _ _ _ => pts_one (pt_val (pe_call G_may_leave (hr.mono (by decide)) rfl g_may_leave F_may_leave.kp b_may_leave .nil pass0 (pa_cons (pv 0) (pa_cons (pv 5) (pa_cons (pv 6) (pa_cons (pv 1) (pa_cons (pv 2) (pa_cons (pv 3) (pa_nil))))))))))
          (fun _ _ _ _ _ => pe_tup (pa_cons (pv 5) (pa_cons (pv 6) (pa_nil)))))))))
      (pss_one (ps_ret (pv 4))))), ?_⟩
    refine ⟨(by show 0 ≤ sizeLine; omega), fun q0 hq0 => ?_⟩
    have s1 := Same.updf (o := .lst []) hq0
    refine ⟨_, rfl, a, _, rfl, .inl (SqL.of (s1 _ _ ha)), _, rfl, by omega, by omega, ?_⟩
    rw [show ((xs.length : Nat) : Int).toNat = c.length by omega]
    refine for_range (lo := 0) (n := c.length) (fun i σ G => Same H G ∧ ∃ (q : Addr) (v5 : Option V), H q = none ∧ PairsAt G q ((twosUp c.length i).filter fun p => shB (c.getD p.1 []) (c.getD p.2 []) (some os) ch un) ∧ σ = [some (.ref a), some (.ref t), some (.int (ch : Int)), some (.int (un : Int)), some (.ref q), v5, none])
      ⟨s1, q0, none, hq0, ⟨[], upd_same, .nil⟩, rfl⟩ ?_ ?_
    · rintro i σ G hi ⟨sG, q, v5, nq, ⟨ys, hy, py⟩, rfl⟩
      have haG := sG _ _ ha
      have lup := twosUp_len c.length i
      have n9 : i * c.length ≤ 900 := Nat.mul_le_mul (show i ≤ 30 by omega) c30
      have ly := py.length
      have lf := List.length_filter_le (fun p : Nat × Nat => shB (c.getD p.1 []) (c.getD p.2 []) (some os) ch un) (twosUp c.length i)
      refine ⟨_, rfl, _, rfl, _, rfl, a, _, rfl, .inl (SqL.of haG), (0 + (i : Int)), (xs.length : Int), rfl, by omega, fun D hD => ?_⟩
      rw [show ((xs.length : Int) - (0 + (i : Int))).toNat = c.length - i by omega]
      refine lc_rel (n := c.length - i) (walk_range (lo := 0 + (i : Int)) (n := c.length - i)) (fun j => shB (c.getD i []) (c.getD (i + j) []) (some os) ch un) (fun j y G2 => PairAt G2 (i, i + j) y) (fun j y G2 G3 s h => h.same s) (by omega) hD (fun G2 s => trivial) ?_ ?_
      · rintro j x G2 G3 Qy Qn hj s2 hacc ⟨rfl, rfl⟩ ky kn
        have s02 := sG.trans s2
        have e1 : V.int (0 + (i : Int)) = V.int ((i : Nat) : Int) := congrArg V.int (by omega)
        have e2 : V.int (0 + (i : Int) + (j : Int)) = V.int ((i + j : Nat) : Int) := congrArg V.int (by omega)
        refine ⟨rfl, ?_⟩
        refine ⟨_, rfl, _, rfl, _, rfl, _, rfl, _, rfl, _, rfl, a, t, c, m, i, i + j, os, ch, un, ?_, hc.same s02, g, by omega, by omega, s02 _ _ ht, lo, fun G4 s4 => ?_⟩
        · rw [← e1, ← e2]
          rfl
        obtain ⟨acc, hacc⟩ := hacc
        cases cc : shB (c.getD i []) (c.getD (i + j) []) (some os) ch un with
        | false => exact ⟨_, rfl, iteF (kn _ cc s4)⟩
        | true =>
          refine ⟨_, rfl, iteT ⟨_, rfl, _, rfl, (by show 2 ≤ sizeLine; omega), fun T hT => ?_⟩⟩
          have nT : T ≠ D := fun z => by
            rw [z, s4 _ _ hacc] at hT
            cases hT
          refine ky _ _ cc (s4.trans (Same.updf hT)) ⟨T, rfl, ?_⟩
          rw [KB.off_at nT, upd_same]
          dsimp only
          rw [e1, e2]
      · intro G2 zs s2 hz pz
        have p2 : Paired (PairAt G2) (((List.range (c.length - i)).map fun j => (i, i + j)).filter fun p => shB (c.getD p.1 []) (c.getD p.2 []) (some os) ch un) zs := by
          rw [List.filter_map]
          exact paired_mapG (paired_mono (fun _ _ q => q.same (off_le G2 D)) pz)
        have lz := p2.length
        have lf2 := List.length_filter_le (fun p : Nat × Nat => shB (c.getD p.1 []) (c.getD p.2 []) (some os) ch un) ((List.range (c.length - i)).map fun j => (i, i + j))
        rw [List.length_map, List.length_range] at lf2
        refine ⟨q, D, ys, zs, rfl, rfl, s2 _ _ hy, hz, by omega, fun p hp => ?_⟩
        have sp := Same.updf (o := .lst (ys ++ zs)) hp
        refine ⟨(sG.trans s2).trans sp, p, _, none_back (sG.trans s2) hp, ⟨ys ++ zs, upd_same, ?_⟩, rfl⟩
        rw [twosUp_succ, List.filter_append]
        exact paired_app (paired_mono (fun _ _ q => q.same (s2.trans sp)) py) (paired_mono (fun _ _ q => q.same sp) p2)
    · rintro σ G ⟨sG, q, v5, nq, hP, rfl⟩
      exact ⟨_, rfl, k q G sG nq hP⟩
end
end K06
set_option Elab.async false
set_option linter.all false
set_option maxRecDepth 100000
set_option maxHeartbeats 8000000
/-! told of the law. -/
namespace K06
open PySem PySem.Spec PyProof.Rows L2 KB
def spLTold : Sp := fun vs H Q _ => ∃ (D : Addr) (ps : List (Nat × Nat)) (n : Nat), vs = [.ref D, .int (n : Int)] ∧ PairsAt H D ps ∧ ps.length ≤ 1000 ∧ n ≤ 30 ∧ ∀ q H', Same H H' → H q = none → H' q = some (.lst (numsV (toldL n ps))) → Q (.ref q) H'
theorem inAllB_nat (ps : List (Nat × Nat)) (x : Nat) : inAllB ps (0 + (x : Int)) = ps.all fun p => decide (x = p.1) || decide (x = p.2) := by
  unfold inAllB hitB
  congr 1
  funext p
  have e : ∀ a : Nat, decide ((0 + (x : Int)) = (a : Int)) = decide (x = a) := fun a => by
    by_cases h : x = a
    · rw [decide_eq_true h, decide_eq_true (by omega)]
    · rw [decide_eq_false h, decide_eq_false (by omega)]
  rw [e, e]
section
variable {P : Program} {w : World} {K : PySem.W.Frag} {mg : Str → Option Value} {base : Heap}
abbrev s_told : Stmt := top 45
abbrev N_told : List Str := ["_law_pairs", "_law_many", "_law_spot", "_law_pair"]
theorem sc_told : FnScope N_told ["_law_pairs", "_law_many"] (defScope s_told) := ⟨rfl, rfl, rfl, by decide +kernel, rfl, by decide +kernel, by decide +kernel⟩
theorem ok_told {f : Addr} {fd : FuncData} (F : FnP K "_law_told" s_told f fd) (Z : FreeS mg) :
    FnOk P w K mg base CX0 1 f fd ["_law_pairs", "_law_many"] spLTold := by
  refine F.ok sc_told (fun vs H Q E h => ?_) (fun cdv A outer s H vs Q E hr h => ?_)
  · obtain ⟨D, ps, n, rfl, _⟩ := h
    rfl
  · obtain ⟨D, ps, n, rfl, ⟨ys, hy, py⟩, l1, n30, k⟩ := h
    have lp := py.length
    have hu : (A.deeper (envOfC "_law_told" (defScope s_told) s.heap.objs.size f cdv)).units + 65 < cLine := by
      have := hr.un
      omega
    have hu2 : (A.deeper (envOfC "_law_told" (defScope s_told) s.heap.objs.size f cdv)).units < cLine := by omega
    have nd := sc_told.nd
    refine ⟨_, PSs.nox (pss_one (ps_ret (pe_lc (own := [("_law_spot", 2)]) (g := gName 2) (tt := tAnd (tTest (tOp (rEmp K true) (tVar 0) (tLst tNil))) (tB (tCB (rAll K) (tCons (tLc (iList K (tVar 0)) (gName 3) tYes (tOp (rIn K false) (tVar 2) (tVar 3)) [3]) tNil)))) (te := tVar 2) (by rfl) nd (pi_range1 (by rfl) Z.range (pa_cons (pv 1) (pa_nil)))
          (blkOk_by (own := [("_law_spot", 2)]) (N := N_told) (sc := defScope s_told) (by decide +kernel)) (fun _ _ _ _ _ => pg_name (i := 2) nd rfl (Or.inr rfl)) (fun _ _ _ _ _ => pts_one (PW.pt (pw_and (pt_cmpR (op_neE hu2) (pv 0) (pe_lst (pa_nil)) (nomark _)) (pw_and1 (pt_val (pe_callB (cr_all rfl) (by rfl) Z.all (by decide +kernel) (pa_cons (pe_lc (own := [("_law_pair", 3)]) (g := gName 3) (tt := tYes) (te := tOp (rIn K false) (tVar 2) (tVar 3)) (by rfl) nd (pi_list (pv 0))
          (blkOk_by (own := [("_law_pair", 3)]) (N := N_told) (sc := ({ kind := .function, names := [(".0", .local), ("_law_spot", .cell), ("all", .globalImplicit), ("_law_pairs", .cell)], isGenerator := false, isCoroutine := false })) (by decide +kernel)) (fun _ _ _ _ _ => pg_name (i := 3) nd rfl (Or.inl rfl)) (fun _ _ _ _ _ => pts_nil)
          (fun _ _ _ _ _ => pe_cmpR op_in_seq (pv 2) (pv 3) (by rfl))) (pa_nil))))))))
          (fun _ _ _ _ _ => pv 2)))), ?_⟩
    refine ⟨_, rfl, _, rfl, by omega, by omega, fun R hR => ?_⟩
    rw [show ((n : Nat) : Int).toNat = n by omega]
    refine lc_sel (n := n) (walk_range (lo := 0) (n := n)) (fun x => if (decide (ps ≠ []) && ps.all fun p => decide (x = p.1) || decide (x = p.2)) = true then some (.int (x : Int)) else none) (by omega) hR (fun H2 s2 => trivial) ?_ ?_
    · rintro x v H2 H3 Qy Qn hx sH ⟨rfl, rfl⟩ ky kn
      have hy3 := sH _ _ hy
      refine ⟨rfl, _, rfl, (by show 0 ≤ sizeLine; decide), fun b hb => ?_⟩
      have sb := Same.updf (o := .lst []) hb
      refine ⟨D, b, ys, rfl, rfl, SqL.of (sb _ _ hy3), SqL.of upd_same, _, rfl, ?_⟩
      have hyb := sb _ _ hy3
      by_cases pe : ps = []
      · subst pe
        obtain rfl : ys = [] := List.length_eq_zero_iff.mp lp.symm
        exact iteF (kn _ sb rfl)
      have ye : (ys.isEmpty != true) = true := by
        cases ys with
        | nil => exact absurd (List.length_eq_zero_iff.mp lp) pe
        | cons y yt => rfl
      rw [ye]
      rw [decide_eq_true pe, Bool.true_and, ← inAllB_nat] at ky kn
      refine iteT ⟨_, rfl, D, rfl, ⟨_, SqL.of hyb⟩, fun D2 hD2 => ?_⟩
      refine lc_sel (n := ys.length) (walk_list (K := K) (a := D) (xs := ys)) (fun j => some (.bl (hitB (ps.getD j (0, 0)) (0 + (x : Int))))) (by omega) hD2 (fun H4 s4 => SqL.of (s4 _ _ hyb)) ?_ ?_
      · rintro j y H4 H5 Qy2 Qn2 hj s5 ⟨rfl, hv⟩ ky2 kn2
        obtain ⟨pr, e1, T, rfl, hT⟩ := paired_get2 py hv
        have ed : ps.getD j (0, 0) = pr := by rw [List.getD_eq_getElem?_getD, e1]; rfl
        rw [ed] at ky2
        refine ⟨rfl, _, rfl, _, rfl, T, _, rfl, .inr (SqT.of (s5 _ _ (sb _ _ (sH _ _ hT)))), rfl, rfl, ky2 _ _ (Same.refl _) ?_⟩
        rw [inV_two]
        rfl
      · intro H4 s4 hR4
        refine ⟨D2, ps.map fun p => hitB p (0 + (x : Int)), rfl, SqL.of ?_, inAllB ps (0 + (x : Int)), ?_, ?_⟩
        · rw [hR4, filterMap_getD, ← lp, sel_map]
        · rw [all_map_id]
        · cases cc : inAllB ps (0 + (x : Int)) with
          | false => exact iteF (kn _ (sb.trans s4) (if_neg (by rw [cc]; decide)))
          | true =>
            refine iteT ⟨_, rfl, ?_⟩
            rw [show (fun i : Nat => V.int (0 + (i : Int))) x = V.int (x : Int) from congrArg V.int (by omega)]
            exact ky _ _ (sb.trans s4) (if_pos cc)
    · intro H3 s3 hR3
      refine k R H3 s3 hR ?_
      rw [hR3]
      unfold toldL
      rw [fm_nums]
end
end K06
set_option Elab.async false
set_option linter.all false
set_option maxRecDepth 100000
set_option maxHeartbeats 8000000
/-! a page of a line. -/
namespace K06
open PySem PySem.Spec PyProof.Rows L2 KB
def lineP (n p m : Nat) : List Nat := (List.range m).map fun x => (n % p + n / p * (x + 1)) % p
def spLineP : Sp := fun vs H Q _ => ∃ (n p m : Nat), vs = [.int (n : Int), .int (p : Int), .int (m : Int)] ∧ 1 ≤ p ∧ p ≤ 100 ∧ n ≤ 10000 ∧ m ≤ 100 ∧ ∀ q H', Same H H' → H q = none → H' q = some (.lst (numsV (lineP n p m))) → Q (.ref q) H'
section
variable {P : Program} {w : World} {K : PySem.W.Frag} {mg : Str → Option Value} {base : Heap}
abbrev s_line_page : Stmt := top 40
abbrev N_line_page : List Str := ["_law_number", "_law_prime", "_law_cells", "_law_first", "_law_second", "_law_at"]
theorem sc_line_page : FnScope N_line_page ["_law_number", "_law_prime", "_law_cells"] (defScope s_line_page) := ⟨rfl, rfl, rfl, by decide +kernel, rfl, by decide +kernel, by decide +kernel⟩
theorem ok_line_page {f : Addr} {fd : FuncData} (F : FnP K "_law_line_page" s_line_page f fd) (Z : FreeS mg) :
    FnOk P w K mg base CX0 1 f fd ["_law_number", "_law_prime", "_law_cells"] spLineP := by
  refine F.ok sc_line_page (fun vs H Q E h => ?_) (fun cdv A outer s H vs Q E hr h => ?_)
  · obtain ⟨n, p, m, rfl, _⟩ := h
    rfl
  · obtain ⟨n, p, m, rfl, p1, p2, n1, m1, k⟩ := h
    have nd := sc_line_page.nd
    refine ⟨_, PSs.nox (pss_cons (ps_asg (pe_tup (pa_cons (pe_op op_mod (pe_callTy call_int1 (by rfl) Z.int (by decide +kernel) (pa_cons (pv 0) (pa_nil))) (pv 1)) (pa_cons (pe_op op_fdiv (pv 0) (pv 1)) (pa_nil)))) (pg_tup rfl (pgs_cons (pg_name (i := 3) nd rfl (Or.inr rfl)) (pgs_cons (pg_name (i := 4) nd rfl (Or.inr rfl)) (pgs_nil)))))
      (pss_one (ps_ret (pe_lc (own := [("_law_at", 5)]) (g := gName 5) (tt := tYes) (by rfl) nd (pi_range1 (by rfl) Z.range (pa_cons (pv 2) (pa_nil)))
          (blkOk_by (own := [("_law_at", 5)]) (N := N_line_page) (sc := defScope s_line_page) (by decide +kernel)) (fun _ _ _ _ _ => pg_name (i := 5) nd rfl (Or.inl rfl)) (fun _ _ _ _ _ => pts_nil)
          (fun _ _ _ _ _ => pe_op op_mod (pe_callTy call_int1 (by rfl) Z.int (by decide +kernel) (pa_cons (pe_op op_add (pv 3) (pe_op op_mul (pv 4) (pe_op op_add (pv 5) (pe_int)))) (pa_nil))) (pv 1)))))), ?_⟩
    have d1 : n / p ≤ 10000 := Nat.le_trans (Nat.div_le_self n p) n1
    have d2 : n % p < 100 := Nat.lt_of_lt_of_le (Nat.mod_lt n p1) p2
    refine ⟨_, rfl, .inl ⟨_, rfl, _, rfl, _, _, rfl, rfl, by omega, ?_⟩⟩
    refine ⟨_, rfl, _, rfl, _, _, rfl, rfl, ?_, ?_⟩
    · exact ⟨by omega, by omega⟩
    refine ⟨(by show 2 ≤ sizeLine; decide), fun T hT => ?_⟩
    have sT := Same.updf (o := .tup [.int ((n : Int) % (p : Int)), .int ((n : Int) / (p : Int))]) hT
    have en : ((n : Int) % (p : Int)) = ((n % p : Nat) : Int) := (Int.natCast_emod n p).symm
    have ed : ((n : Int) / (p : Int)) = ((n / p : Nat) : Int) := (Int.natCast_ediv n p).symm
    refine ⟨T, _, rfl, SqT.of upd_same, rfl, _, _, rfl, _, _, rfl, rfl, ?_⟩
    refine ⟨_, rfl, _, rfl, by omega, by omega, fun R hR => ?_⟩
    rw [show ((m : Nat) : Int).toNat = m by omega]
    refine lc_sel (n := m) (walk_range (lo := 0) (n := m)) (fun x => some (.int (((n % p + n / p * (x + 1)) % p : Nat) : Int))) (by omega) hR (fun H2 s2 => trivial) ?_ ?_
    · rintro x v H2 H3 Qy Qn hx sH ⟨rfl, rfl⟩ ky kn
      refine ⟨rfl, _, rfl, _, rfl, _, rfl, _, _, rfl, rfl, _, _, rfl, rfl, ?_, _, _, rfl, rfl, .inl ⟨_, rfl, _, rfl, _, _, rfl, rfl, by omega, ky _ _ (Same.refl _) ?_⟩⟩
      · exact .inr ⟨by omega, by omega⟩
      · rw [en, ed]
        refine congrArg (fun z => some (V.int z)) ?_
        rw [Int.natCast_emod, Int.natCast_add, Int.natCast_mul, Int.natCast_add, Int.zero_add]
        rfl
    · intro H3 s3 hR3
      refine k R H3 (sT.trans s3) (none_back sT hR) ?_
      rw [hR3]
      unfold lineP
      rw [List.filterMap_eq_map']
      unfold numsV
      rw [List.map_map]
      rfl
end
end K06
set_option Elab.async false
set_option linter.all false
set_option maxRecDepth 100000
set_option maxHeartbeats 8000000
/-! The law's count of unlike cells, of parted ones, the triples. -/
namespace K06
open PySem PySem.Spec PyProof.Rows L2 KB
def spLUnlike (K : PySem.W.Frag) : Sp := fun vs H Q _ => ∃ (a t : Addr) (c : List (List Nat)) (m i j k : Nat), vs = [.ref a, .ref t] ∧ CodeAt H a c ∧ Good c m ∧ SqT K H t [.int (i : Int), .int (j : Int), .int (k : Int)] ∧ (i < c.length ∧ j < c.length ∧ k < c.length) ∧ ∀ H', Same H H' → Q (.int ((unl3 c m i j k).length : Int)) H'
def spLParted (K : PySem.W.Frag) : Sp := fun vs H Q _ => ∃ (a t u : Addr) (c : List (List Nat)) (m : Nat) (p q : Nat × Nat), vs = [.ref a, .ref t, .ref u] ∧ CodeAt H a c ∧ Good c m ∧ PrT K H t p ∧ PrT K H u q ∧ (p.1 < c.length ∧ p.2 < c.length ∧ q.1 < c.length ∧ q.2 < c.length) ∧ ∀ H', Same H H' → Q (.int ((ptd c m p q).length : Int)) H'
def TripAt (n : Nat) (H : Hp) (y : V) : Prop := ∃ (T : Addr) (i j k : Nat), y = .ref T ∧ H T = some (.tup [.int (i : Int), .int (j : Int), .int (k : Int)]) ∧ i < j ∧ j < k ∧ k < n
theorem TripAt.same {n : Nat} {H H' : Hp} (s : Same H H') {y : V} : TripAt n H y → TripAt n H' y := fun ⟨T, i, j, k, e, h, r⟩ => ⟨T, i, j, k, e, s _ _ h, r⟩
def spTriples : Sp := fun vs H Q _ => ∃ n : Nat, vs = [.int (n : Int)] ∧ n ≤ 5 ∧ ∀ D ys H', Same H H' → H D = none → H' D = some (.lst ys) → ys.length ≤ 125 → (∀ y ∈ ys, TripAt n H' y) → Q (.ref D) H'
theorem inV_nat (n : Nat) (l : List Nat) : inV (.int (n : Int)) (numsV l) = decide (n ∈ l) := by
  unfold inV numsV
  rw [List.any_map]
  rw [Bool.eq_iff_iff, List.any_eq_true, decide_eq_true_eq]
  constructor
  · rintro ⟨x, hx, e⟩
    have e2 : eqV (.int (x : Int)) (.int (n : Int)) = true := e
    unfold eqV at e2
    have e3 : (x : Int) = (n : Int) := by simpa using e2
    rw [show n = x by omega]
    exact hx
  · intro h
    refine ⟨n, h, ?_⟩
    show eqV (.int (n : Int)) (.int (n : Int)) = true
    unfold eqV
    simp
theorem itB {b c : Bool} {p q : Prop} (e : b = c) (h1 : c = true → p) (h0 : c = false → q) : if b = true then p else q := by
  subst e
  cases b with
  | false => exact iteF (h0 rfl)
  | true => exact iteT (h1 rfl)
def lateF (A1 A2 A3 : Nat) (s : Nat) : Option V := if decide ([A1, A2, A3].getD s 0 ∈ [A1, A2, A3].take s) = true then some (.int (s : Int)) else none
theorem late_emp (A1 A2 A3 : Nat) : ((List.range 3).filterMap (lateF A1 A2 A3)).isEmpty = (decide (A1 ≠ A2) && (decide (A2 ≠ A3) && decide (A1 ≠ A3))) := by
  unfold lateF
  by_cases h1 : A1 = A2 <;> by_cases h2 : A2 = A3 <;> by_cases h3 : A1 = A3 <;> simp_all [List.range_succ, eq_comm]
def partF (A1 A2 B1 B2 : Nat) (s : Nat) : Option V := if decide ([A1, A2].getD s 0 ∈ [B1, B2]) = true then some (.int (([A1, A2].getD s 0 : Nat) : Int)) else none
theorem part_emp (A1 A2 B1 B2 : Nat) : ((List.range 2).filterMap (partF A1 A2 B1 B2)).isEmpty = !(decide (A1 = B1) || decide (A1 = B2) || decide (A2 = B1) || decide (A2 = B2)) := by
  unfold partF
  by_cases h1 : A1 = B1 <;> by_cases h2 : A1 = B2 <;> by_cases h3 : A2 = B1 <;> by_cases h4 : A2 = B2 <;> simp_all [List.range_succ]
theorem flt_succ (f : Nat → Bool) (x : Nat) : (((List.range (x + 1)).filter f).length : Int) = (((List.range x).filter f).length : Int) + (if f x = true then 1 else 0) := by
  rw [List.range_succ, List.filter_append, List.length_append, List.filter_cons]
  cases f x <;> simp
section
variable {P : Program} {w : World} {K : PySem.W.Frag} {mg : Str → Option Value} {base : Heap}
abbrev s_unlike : Stmt := top 46
abbrev N_unlike : List Str := ["_law_code", "_law_spots", "_law_found", "_law_at", "_law_signs", "_law_spot", "_law_late", "_law_sign"]
theorem sc_unlike : FnScope N_unlike ["_law_code", "_law_spots"] (defScope s_unlike) := ⟨rfl, rfl, rfl, by decide +kernel, rfl, by decide +kernel, by decide +kernel⟩
theorem ok_unlike {f : Addr} {fd : FuncData} (F : FnP K "_law_unlike" s_unlike f fd) (Z : FreeS mg) :
    FnOk P w K mg base CX0 1 f fd ["_law_code", "_law_spots"] (spLUnlike K) := by
  refine F.ok sc_unlike (fun vs H Q E h => ?_) (fun cdv A outer s H vs Q E hr h => ?_)
  · obtain ⟨a, t, c, m, i, j, k0, rfl, _⟩ := h
    rfl
  · obtain ⟨a, t, c, m, i, j, k0, rfl, hc, g, ht, ⟨hi, hj, hk⟩, k⟩ := h
    obtain ⟨xs, ha, lx, hx⟩ := hc.at
    have hu : (A.deeper (envOfC "_law_unlike" (defScope s_unlike) s.heap.objs.size f cdv)).units + 65 < cLine := by
      have := hr.un
      omega
    have hu2 : (A.deeper (envOfC "_law_unlike" (defScope s_unlike) s.heap.objs.size f cdv)).units < cLine := by omega
    obtain ⟨p0, z1, z2⟩ := hx 0 (by omega)
    have l0 := g.len _ (List.getElem_mem (show 0 < c.length by omega))
    obtain ⟨pi, i1, i2⟩ := hx i hi
    obtain ⟨pj, j1, j2⟩ := hx j hj
    obtain ⟨pk, k1, k2⟩ := hx k0 hk
    have li := g.len _ (List.getElem_mem hi)
    have lj := g.len _ (List.getElem_mem hj)
    have lk := g.len _ (List.getElem_mem hk)
    have m100 := g.small
    have nd := sc_unlike.nd
    refine ⟨_, PSs.nox (pss_cons (ps_set (i := 2) nd rfl (Or.inl rfl) (pe_int))
      (pss_cons (ps_for PassesOwn.never rfl (pi_range1 (by rfl) Z.range (pa_cons (pe_callB call_len_seq (by rfl) Z.len (by decide +kernel) (pa_cons (pe_ix ix_list (pv 0) (pe_int) (fun _ _ => rfl)) (pa_nil))) (pa_nil))) (pg_name (i := 3) nd rfl (Or.inr rfl))
        (pss_cons (ps_set (i := 4) nd rfl (Or.inr rfl) (pe_lc (own := [("_law_spot", 5)]) (g := gName 5) (tt := tYes) (te := tOp (rIxL K) (tOp (rIxL K) (tVar 0) (tVar 5)) (tVar 3)) (by rfl) nd (pi_tup (pv 1))
          (blkOk_by (own := [("_law_spot", 5)]) (N := N_unlike) (sc := defScope s_unlike) (by decide +kernel)) (fun _ _ _ _ _ => pg_name (i := 5) nd rfl (Or.inl rfl)) (fun _ _ _ _ _ => pts_nil)
          (fun _ _ _ _ _ => pe_ix ix_list (pe_ix ix_list (pv 0) (pv 5) (fun _ _ => rfl)) (pv 3) (fun _ _ => rfl))))
      (pss_one (ps_set (i := 2) nd rfl (Or.inl rfl) (pe_op op_add (pv 2) (pe_callTy call_int1 (by rfl) Z.int (by decide +kernel) (pa_cons (pe_cmpR (op_eqE hu2) (pe_lc (own := [("_law_late", 6), ("_law_sign", 7)]) (g := gTup K 2 (gCons (gName 6) (gCons (gName 7) (gNil)))) (tt := tTest (tOp (rIn K false) (tVar 7) (tSl (rSlL K) (tVar 4) tNoPart (tPart (tVar 6))))) (te := tVar 6) (by rfl) nd (pi_enum (by rfl) Z.enumerate (pa_cons (pv 4) (pa_nil)))
          (blkOk_by (own := [("_law_late", 6), ("_law_sign", 7)]) (N := N_unlike) (sc := defScope s_unlike) (by decide +kernel)) (fun _ _ _ _ _ => pg_tup rfl (pgs_cons (pg_name (i := 6) nd rfl (Or.inl rfl)) (pgs_cons (pg_name (i := 7) nd rfl (Or.inl rfl)) (pgs_nil)))) (fun _ _ _ _ _ => pts_one (pt_cmpR op_in_seq (pv 7) (pe_slice sl_list (pv 4) (po_none) (po_some (pv 6))) (by rfl)))
          (fun _ _ _ _ _ => pv 6)) (pe_lst (pa_nil)) (nomark _)) (pa_nil))))))))
      (pss_one (ps_ret (pv 2))))), ?_⟩
    refine ⟨_, rfl, a, xs, 0, .ref p0, rfl, rfl, SqL.of ha, atI_nat (j := 0) z1, p0, _, rfl, .inl (SqL.of z2), _, rfl, by rw [numsV_len]; omega, by rw [numsV_len]; omega, ?_⟩
    rw [numsV_len, l0, show ((m : Nat) : Int).toNat = m by omega]
    refine for_range (lo := 0) (n := m) (fun x σ G => Same H G ∧ ∃ (v3 v4 : Option V), σ = [some (.ref a), some (.ref t), some (.int ((((List.range x).filter fun x => decide (sg c i x ≠ sg c j x) && (decide (sg c j x ≠ sg c k0 x) && decide (sg c i x ≠ sg c k0 x))).length : Nat) : Int)), v3, v4, none, none, none])
      ⟨Same.refl _, none, none, rfl⟩ ?_ ?_
    · rintro x σ G hx2 ⟨sG, v3, v4, rfl⟩
      refine ⟨_, rfl, t, rfl, ⟨_, SqT_up sG ht⟩, fun S hS => ?_⟩
      refine lc_sel (n := 3) (walk_tup (K := K) (a := t) (xs := [.int (i : Int), .int (j : Int), .int (k0 : Int)])) (fun s => some (.int (([sg c i x, sg c j x, sg c k0 x].getD s 0 : Nat) : Int))) (by decide) hS (fun H2 s2 => SqT_up (sG.trans s2) ht) ?_ ?_
      · rintro s v H2 H3 Qy Qn hs sH ⟨rfl, hv⟩ ky kn
        have s02 := sG.trans sH
        have haH := s02 _ _ ha
        have ex : (0 + (x : Int)) = ((x : Nat) : Int) := by omega
        rcases s with _ | _ | _ | s
        · cases hv
          refine ⟨rfl, _, rfl, _, rfl, a, xs, (i : Int), .ref pi, rfl, rfl, SqL.of haH, atI_nat i1, _, rfl, pi, _, _, .int (c[i][x]'(by omega) : Nat), rfl, rfl, SqL.of (s02 _ _ i2), by rw [ex]; exact atI_nat (numsV_get (by omega)), ky _ _ (Same.refl _) ?_⟩
          rw [← sg_at hi (by omega)]
          rfl
        · cases hv
          refine ⟨rfl, _, rfl, _, rfl, a, xs, (j : Int), .ref pj, rfl, rfl, SqL.of haH, atI_nat j1, _, rfl, pj, _, _, .int (c[j][x]'(by omega) : Nat), rfl, rfl, SqL.of (s02 _ _ j2), by rw [ex]; exact atI_nat (numsV_get (by omega)), ky _ _ (Same.refl _) ?_⟩
          rw [← sg_at hj (by omega)]
          rfl
        · cases hv
          refine ⟨rfl, _, rfl, _, rfl, a, xs, (k0 : Int), .ref pk, rfl, rfl, SqL.of haH, atI_nat k1, _, rfl, pk, _, _, .int (c[k0][x]'(by omega) : Nat), rfl, rfl, SqL.of (s02 _ _ k2), by rw [ex]; exact atI_nat (numsV_get (by omega)), ky _ _ (Same.refl _) ?_⟩
          rw [← sg_at hk (by omega)]
          rfl
        · omega
      intro H2 s2 hR
      have hR2 : H2 S = some (.lst (numsV [sg c i x, sg c j x, sg c k0 x])) := hR
      have e0 := flt_succ (fun x => decide (sg c i x ≠ sg c j x) && (decide (sg c j x ≠ sg c k0 x) && decide (sg c i x ≠ sg c k0 x))) x
      generalize sg c i x = A1 at hR2 e0
      generalize sg c j x = A2 at hR2 e0
      generalize sg c k0 x = A3 at hR2 e0
      have s02 := sG.trans s2
      refine ⟨_, rfl, _, rfl, S, _, rfl, SqL.of hR2, fun D2 hD2 => ?_⟩
      have nS : S ≠ D2 := fun z => by rw [z, hD2] at hR2; cases hR2
      refine lc_sel (n := 3) (walk_enum (K := K) (a := S) (xs := numsV [A1, A2, A3])) (lateF A1 A2 A3) (by decide) hD2 (fun H3 s3 => SqL.of (s3 _ _ hR2)) ?_ ?_
      · rintro s v H3 H4 Qy Qn hs sH ⟨T, x1, x2, rfl, nT, rfl, g1, g2⟩ ky kn
        dsimp only at g1 g2
        cases g1
        have sT : ∀ o, Same H3 (upd H3 T o) := fun _ => Same.updf nT
        have g3 : x2 = .int (([A1, A2, A3].getD s 0 : Nat) : Int) := by
          obtain ⟨q1, rfl⟩ := numsV_at g2
          rw [List.getD_eq_getElem?_getD, List.getElem?_eq_getElem q1]
          rfl
        subst g3
        refine ⟨T, _, rfl, SqT.of upd_same, rfl, _, _, rfl, _, _, rfl, rfl, rfl, ?_⟩
        have hS3 := sH _ _ hR2
        have rest : ∀ (A : Nat) (l : List Nat) (b : Bool), decide (A ∈ l) = b → (∀ (vA : V) (vl : List V), vA = .int (A : Int) → vl = numsV l → (if false = true then !inV vA vl else inV vA vl) = b) := fun A l b e vA vl e1 e2 => by
          rw [if_neg Bool.false_ne_true, e1, e2, inV_nat, e]
        rcases s with _ | _ | _ | s
        · refine ⟨_, rfl, _, rfl, _, rfl, _, rfl, S, _, rfl, SqL.of (sT _ _ _ hS3), fun T2 hT2 => ⟨T2, _, rfl, .inl (SqL.of upd_same), rfl, rfl, _, rfl, ?_⟩⟩
          have sTT : ∀ o, Same H3 (upd (upd H3 T (.tup [.int ((0 : Nat) : Int), .int (([A1, A2, A3].getD 0 0 : Nat) : Int)])) T2 o) := fun o => (sT _).trans (Same.updf hT2)
          exact itB (rest ([A1, A2, A3].getD 0 0) ([A1, A2, A3].take 0) _ rfl _ _ rfl rfl) (fun cc => ⟨_, rfl, ky _ _ (sTT _) (if_pos cc)⟩) (fun cc => kn _ (sTT _) (if_neg (by rw [cc]; exact Bool.false_ne_true)))
        · refine ⟨_, rfl, _, rfl, _, rfl, _, rfl, S, _, rfl, SqL.of (sT _ _ _ hS3), fun T2 hT2 => ⟨T2, _, rfl, .inl (SqL.of upd_same), rfl, rfl, _, rfl, ?_⟩⟩
          have sTT : ∀ o, Same H3 (upd (upd H3 T (.tup [.int ((1 : Nat) : Int), .int (([A1, A2, A3].getD 1 0 : Nat) : Int)])) T2 o) := fun o => (sT _).trans (Same.updf hT2)
          exact itB (rest ([A1, A2, A3].getD 1 0) ([A1, A2, A3].take 1) _ rfl _ _ rfl rfl) (fun cc => ⟨_, rfl, ky _ _ (sTT _) (if_pos cc)⟩) (fun cc => kn _ (sTT _) (if_neg (by rw [cc]; exact Bool.false_ne_true)))
        · refine ⟨_, rfl, _, rfl, _, rfl, _, rfl, S, _, rfl, SqL.of (sT _ _ _ hS3), fun T2 hT2 => ⟨T2, _, rfl, .inl (SqL.of upd_same), rfl, rfl, _, rfl, ?_⟩⟩
          have sTT : ∀ o, Same H3 (upd (upd H3 T (.tup [.int ((2 : Nat) : Int), .int (([A1, A2, A3].getD 2 0 : Nat) : Int)])) T2 o) := fun o => (sT _).trans (Same.updf hT2)
          exact itB (rest ([A1, A2, A3].getD 2 0) ([A1, A2, A3].take 2) _ rfl _ _ rfl rfl) (fun cc => ⟨_, rfl, ky _ _ (sTT _) (if_pos cc)⟩) (fun cc => kn _ (sTT _) (if_neg (by rw [cc]; exact Bool.false_ne_true)))
        · omega
      · intro H3 s3 hR3
        refine ⟨(by show 0 ≤ sizeLine; decide), fun b hb => ⟨D2, b, _, rfl, rfl, SqL.of (Same.updf hb _ _ hR3), SqL.of upd_same, .inr ⟨_, rfl, ?_⟩⟩⟩
        refine ⟨_, _, rfl, rfl, s02.trans (s3.trans (Same.updf hb)), some (.int (0 + (x : Int))), some (.ref S), ?_⟩
        refine congrArg (fun z : Int => [some (V.ref a), some (V.ref t), some (V.int z), some (V.int (0 + (x : Int))), some (V.ref S), none, none, none]) ?_
        rw [e0, ← late_emp]
        cases ((List.range 3).filterMap (lateF A1 A2 A3)).isEmpty <;> rfl
    · rintro σ G ⟨sG, v3, v4, rfl⟩
      exact ⟨_, rfl, k _ sG⟩
abbrev s_parted : Stmt := top 47
abbrev N_parted : List Str := ["_law_code", "_law_pair", "_law_late", "_law_found", "_law_at", "_law_mine", "_law_theirs", "_law_spot", "_law_sign"]
theorem sc_parted : FnScope N_parted ["_law_code", "_law_pair", "_law_late"] (defScope s_parted) := ⟨rfl, rfl, rfl, by decide +kernel, rfl, by decide +kernel, by decide +kernel⟩
theorem ok_parted {f : Addr} {fd : FuncData} (F : FnP K "_law_parted" s_parted f fd) (Z : FreeS mg) :
    FnOk P w K mg base CX0 1 f fd ["_law_code", "_law_pair", "_law_late"] (spLParted K) := by
  refine F.ok sc_parted (fun vs H Q E h => ?_) (fun cdv A outer s H vs Q E hr h => ?_)
  · obtain ⟨a, t, u, c, m, p, q, rfl, _⟩ := h
    rfl
  · obtain ⟨a, t, u, c, m, p, q, rfl, hc, g, ht, hu', ⟨h1, h2, h3, h4⟩, k⟩ := h
    obtain ⟨xs, ha, lx, hx⟩ := hc.at
    have hu : (A.deeper (envOfC "_law_parted" (defScope s_parted) s.heap.objs.size f cdv)).units + 65 < cLine := by
      have := hr.un
      omega
    have hu2 : (A.deeper (envOfC "_law_parted" (defScope s_parted) s.heap.objs.size f cdv)).units < cLine := by omega
    obtain ⟨p0, z1, z2⟩ := hx 0 (by omega)
    have l0 := g.len _ (List.getElem_mem (show 0 < c.length by omega))
    have m100 := g.small
    have nd := sc_parted.nd
    refine ⟨_, PSs.nox (pss_cons (ps_set (i := 3) nd rfl (Or.inl rfl) (pe_int))
      (pss_cons (ps_for PassesOwn.never rfl (pi_range1 (by rfl) Z.range (pa_cons (pe_callB call_len_seq (by rfl) Z.len (by decide +kernel) (pa_cons (pe_ix ix_list (pv 0) (pe_int) (fun _ _ => rfl)) (pa_nil))) (pa_nil))) (pg_name (i := 4) nd rfl (Or.inr rfl))
        (pss_cons (ps_asg (pe_tup (pa_cons (pe_lc (own := [("_law_spot", 7)]) (g := gName 7) (tt := tYes) (te := tOp (rIxL K) (tOp (rIxL K) (tVar 0) (tVar 7)) (tVar 4)) (by rfl) nd (pi_tup (pv 1))
          (blkOk_by (own := [("_law_spot", 7)]) (N := N_parted) (sc := defScope s_parted) (by decide +kernel)) (fun _ _ _ _ _ => pg_name (i := 7) nd rfl (Or.inl rfl)) (fun _ _ _ _ _ => pts_nil)
          (fun _ _ _ _ _ => pe_ix ix_list (pe_ix ix_list (pv 0) (pv 7) (fun _ _ => rfl)) (pv 4) (fun _ _ => rfl))) (pa_cons (pe_lc (own := [("_law_spot", 7)]) (g := gName 7) (tt := tYes) (te := tOp (rIxL K) (tOp (rIxL K) (tVar 0) (tVar 7)) (tVar 4)) (by rfl) nd (pi_tup (pv 2))
          (blkOk_by (own := [("_law_spot", 7)]) (N := N_parted) (sc := defScope s_parted) (by decide +kernel)) (fun _ _ _ _ _ => pg_name (i := 7) nd rfl (Or.inl rfl)) (fun _ _ _ _ _ => pts_nil)
          (fun _ _ _ _ _ => pe_ix ix_list (pe_ix ix_list (pv 0) (pv 7) (fun _ _ => rfl)) (pv 4) (fun _ _ => rfl))) (pa_nil)))) (pg_tup rfl (pgs_cons (pg_name (i := 5) nd rfl (Or.inl rfl)) (pgs_cons (pg_name (i := 6) nd rfl (Or.inr rfl)) (pgs_nil)))))
      (pss_one (ps_set (i := 3) nd rfl (Or.inl rfl) (pe_op op_add (pv 3) (pe_callTy call_int1 (by rfl) Z.int (by decide +kernel) (pa_cons (pe_cmpR (op_eqE hu2) (pe_lc (own := [("_law_sign", 8)]) (g := gName 8) (tt := tTest (tOp (rIn K false) (tVar 8) (tVar 6))) (te := tVar 8) (by rfl) nd (pi_list (pv 5))
          (blkOk_by (own := [("_law_sign", 8)]) (N := N_parted) (sc := defScope s_parted) (by decide +kernel)) (fun _ _ _ _ _ => pg_name (i := 8) nd rfl (Or.inl rfl)) (fun _ _ _ _ _ => pts_one (pt_cmpR op_in_seq (pv 8) (pv 6) (by rfl)))
          (fun _ _ _ _ _ => pv 8)) (pe_lst (pa_nil)) (nomark _)) (pa_nil))))))))
      (pss_one (ps_ret (pv 3))))), ?_⟩
    refine ⟨_, rfl, a, xs, 0, .ref p0, rfl, rfl, SqL.of ha, atI_nat (j := 0) z1, p0, _, rfl, .inl (SqL.of z2), _, rfl, by rw [numsV_len]; omega, by rw [numsV_len]; omega, ?_⟩
    rw [numsV_len, l0, show ((m : Nat) : Int).toNat = m by omega]
    refine for_range (lo := 0) (n := m) (fun x σ G => Same H G ∧ ∃ (v4 v5 v6 : Option V), σ = [some (.ref a), some (.ref t), some (.ref u), some (.int ((((List.range x).filter fun x => !(decide (sg c p.1 x = sg c q.1 x) || decide (sg c p.1 x = sg c q.2 x) || decide (sg c p.2 x = sg c q.1 x) || decide (sg c p.2 x = sg c q.2 x))).length : Nat) : Int)), v4, v5, v6, none, none])
      ⟨Same.refl _, none, none, none, rfl⟩ ?_ ?_
    · rintro x σ G hx2 ⟨sG, v4, v5, v6, rfl⟩
      have cells : ∀ (T : Addr) (r : Nat × Nat), PrT K H T r → r.1 < c.length → r.2 < c.length → ∀ (s : Nat) (v : V) (H3 : Hp), Same H H3 → [V.int (r.1 : Int), V.int (r.2 : Int)][s]? = some v → ∃ (j : Nat) (z : Addr) (y : Nat), v = .int (j : Int) ∧ H3 a = some (.lst xs) ∧ xs[j]? = some (.ref z) ∧ H3 z = some (.lst (numsV c[j]!)) ∧ atI (numsV c[j]!) (0 + (x : Int)) = some (.int (y : Int)) ∧ y = [sg c r.1 x, sg c r.2 x].getD s 0 := by
        intro T r _ b1 b2 s v H3 s3 hv
        have go : ∀ j : Nat, j < c.length → ∃ (z : Addr) (y : Nat), H3 a = some (.lst xs) ∧ xs[j]? = some (.ref z) ∧ H3 z = some (.lst (numsV c[j]!)) ∧ atI (numsV c[j]!) (0 + (x : Int)) = some (.int (y : Int)) ∧ y = sg c j x := by
          intro j hj
          obtain ⟨z, f1, f2⟩ := hx j hj
          have fl := g.len _ (List.getElem_mem hj)
          have e : c[j]! = c[j] := getElem!_pos c j hj
          rw [e]
          refine ⟨z, c[j][x]'(by omega), s3 _ _ ha, f1, s3 _ _ f2, ?_, (sg_at hj (by omega)).symm⟩
          rw [show (0 + (x : Int)) = ((x : Nat) : Int) by omega]
          exact atI_nat (numsV_get (by omega))
        rcases s with _ | _ | s
        · cases hv
          obtain ⟨z, y, r1, r2, r3, r4, r5⟩ := go _ b1
          exact ⟨_, z, y, rfl, r1, r2, r3, r4, r5⟩
        · cases hv
          obtain ⟨z, y, r1, r2, r3, r4, r5⟩ := go _ b2
          exact ⟨_, z, y, rfl, r1, r2, r3, r4, r5⟩
        · cases hv
      refine ⟨_, rfl, t, rfl, ⟨_, SqT_up sG ht⟩, fun S hS => ?_⟩
      refine lc_sel (n := 2) (walk_tup (K := K) (a := t) (xs := [.int (p.1 : Int), .int (p.2 : Int)])) (fun s => some (.int (([sg c p.1 x, sg c p.2 x].getD s 0 : Nat) : Int))) (by decide) hS (fun H2 s2 => SqT_up (sG.trans s2) ht) ?_ ?_
      · rintro s v H2 H3 Qy Qn hs sH ⟨rfl, hv⟩ ky kn
        obtain ⟨j, z, y, rfl, r1, r2, r3, r4, r5⟩ := cells t p ht h1 h2 s v _ (sG.trans sH) hv
        exact ⟨rfl, _, rfl, _, rfl, a, xs, (j : Int), .ref z, rfl, rfl, SqL.of r1, atI_nat r2, _, rfl, z, _, _, .int y, rfl, rfl, SqL.of r3, r4, ky _ _ (Same.refl _) (by rw [r5])⟩
      intro H2 s2 hR
      have hR2 : H2 S = some (.lst (numsV [sg c p.1 x, sg c p.2 x])) := hR
      have s02 := sG.trans s2
      refine ⟨_, rfl, u, rfl, ⟨_, SqT_up s02 hu'⟩, fun S2 hS2 => ?_⟩
      refine lc_sel (n := 2) (walk_tup (K := K) (a := u) (xs := [.int (q.1 : Int), .int (q.2 : Int)])) (fun s => some (.int (([sg c q.1 x, sg c q.2 x].getD s 0 : Nat) : Int))) (by decide) hS2 (fun H3 s3 => SqT_up (s02.trans s3) hu') ?_ ?_
      · rintro s v H3 H4 Qy Qn hs sH ⟨rfl, hv⟩ ky kn
        obtain ⟨j, z, y, rfl, r1, r2, r3, r4, r5⟩ := cells u q hu' h3 h4 s v _ (s02.trans sH) hv
        exact ⟨rfl, _, rfl, _, rfl, a, xs, (j : Int), .ref z, rfl, rfl, SqL.of r1, atI_nat r2, _, rfl, z, _, _, .int y, rfl, rfl, SqL.of r3, r4, ky _ _ (Same.refl _) (by rw [r5])⟩
      intro H3 s3 hR3
      have hR4 : H3 S2 = some (.lst (numsV [sg c q.1 x, sg c q.2 x])) := hR3
      have hR5 := s3 _ _ hR2
      have s03 := s02.trans s3
      have e0 := flt_succ (fun x => !(decide (sg c p.1 x = sg c q.1 x) || decide (sg c p.1 x = sg c q.2 x) || decide (sg c p.2 x = sg c q.1 x) || decide (sg c p.2 x = sg c q.2 x))) x
      clear cells hR hR3
      generalize sg c p.1 x = A1 at hR2 hR5 e0
      generalize sg c p.2 x = A2 at hR2 hR5 e0
      generalize sg c q.1 x = B1 at hR4 e0
      generalize sg c q.2 x = B2 at hR4 e0
      refine ⟨(by show 2 ≤ sizeLine; decide), fun T hT => ?_⟩
      have sT := fun o => Same.updf (H := H3) (o := o) hT
      refine ⟨T, _, rfl, SqT.of upd_same, rfl, _, _, rfl, _, _, rfl, rfl, ?_⟩
      refine ⟨_, rfl, _, rfl, S, rfl, ⟨_, SqL.of (sT _ _ _ hR5)⟩, fun D hD => ?_⟩
      generalize hG4 : upd H3 T _ = G4 at hD ⊢
      have sG4 : Same H3 G4 := by rw [← hG4]; exact sT _
      clear hG4
      have hR6 := sG4 _ _ hR5
      have hR7 := sG4 _ _ hR4
      refine lc_sel (n := 2) (walk_list (K := K) (a := S) (xs := numsV [A1, A2])) (partF A1 A2 B1 B2) (by decide) hD (fun H5 s5 => SqL.of (s5 _ _ hR6)) ?_ ?_
      · rintro s v H5 H6 Qy Qn hs sH ⟨rfl, hv⟩ ky kn
        have g3 : v = .int (([A1, A2].getD s 0 : Nat) : Int) := by
          obtain ⟨q1, rfl⟩ := numsV_at hv
          rw [List.getD_eq_getElem?_getD, List.getElem?_eq_getElem q1]
          rfl
        subst g3
        refine ⟨rfl, _, rfl, _, rfl, S2, _, rfl, .inl (SqL.of (sH _ _ hR7)), rfl, rfl, _, rfl, ?_⟩
        exact itB ((if_neg Bool.false_ne_true).trans (inV_nat _ _)) (fun cc => ⟨_, rfl, ky _ _ (Same.refl _) (if_pos cc)⟩) (fun cc => kn _ (Same.refl _) (if_neg (by rw [cc]; exact Bool.false_ne_true)))
      · intro H5 s5 hR8
        refine ⟨(by show 0 ≤ sizeLine; decide), fun b hb => ⟨D, b, _, rfl, rfl, SqL.of (Same.updf hb _ _ hR8), SqL.of upd_same, .inr ⟨_, rfl, ?_⟩⟩⟩
        refine ⟨_, _, rfl, rfl, s03.trans (sG4.trans (s5.trans (Same.updf hb))), some (.int (0 + (x : Int))), some (.ref S), some (.ref S2), ?_⟩
        refine congrArg (fun z : Int => [some (V.ref a), some (V.ref t), some (V.ref u), some (V.int z), some (V.int (0 + (x : Int))), some (V.ref S), some (V.ref S2), none, none]) ?_
        rw [e0, ← part_emp]
        cases ((List.range 2).filterMap (partF A1 A2 B1 B2)).isEmpty <;> rfl
    · rintro σ G ⟨sG, v4, v5, v6, rfl⟩
      exact ⟨_, rfl, k _ sG⟩
abbrev s_triples : Stmt := top 48
abbrev N_triples : List Str := ["_law_many", "_law_found", "_law_one", "_law_other", "_law_third"]
theorem sc_triples : FnScope N_triples ["_law_many"] (defScope s_triples) := ⟨rfl, rfl, rfl, by decide +kernel, rfl, by decide +kernel, by decide +kernel⟩
theorem ok_triples {f : Addr} {fd : FuncData} (F : FnP K "_law_triples" s_triples f fd) (Z : FreeS mg) :
    FnOk P w K mg base CX0 1 f fd ["_law_many"] spTriples := by
  refine F.ok sc_triples (fun vs H Q E h => ?_) (fun cdv A outer s H vs Q E hr h => ?_)
  · obtain ⟨n, rfl, _⟩ := h
    rfl
  · obtain ⟨n, rfl, n5, k⟩ := h
    have sl : (1000 : Nat) < sizeLine := by decide
    have nd := sc_triples.nd
    refine ⟨_, PSs.nox (pss_cons (ps_set (i := 1) nd rfl (Or.inl rfl) (pe_lst (pa_nil)))
      (pss_cons (ps_for PassesOwn.never rfl (pi_range1 (by rfl) Z.range (pa_cons (pv 0) (pa_nil))) (pg_name (i := 2) nd rfl (Or.inr rfl))
        (pss_one (ps_for PassesOwn.never rfl (pi_range2 (by rfl) Z.range (pa_cons (pe_op op_add (pv 2) (pe_int)) (pa_cons (pv 0) (pa_nil)))) (pg_name (i := 3) nd rfl (Or.inr rfl))
        (pss_one (ps_set (i := 1) nd rfl (Or.inl rfl) (pe_op op_cat (pv 1) (pe_lc (own := [("_law_third", 4)]) (g := gName 4) (tt := tYes) (te := tTup (tCons (tVar 2) (tCons (tVar 3) (tCons (tVar 4) (tNil))))) (by rfl) nd (pi_range2 (by rfl) Z.range (pa_cons (pe_op op_add (pv 3) (pe_int)) (pa_cons (pv 0) (pa_nil))))
          (blkOk_by (own := [("_law_third", 4)]) (N := N_triples) (sc := defScope s_triples) (by decide +kernel)) (fun _ _ _ _ _ => pg_name (i := 4) nd rfl (Or.inl rfl)) (fun _ _ _ _ _ => pts_nil)
          (fun _ _ _ _ _ => pe_tup (pa_cons (pv 2) (pa_cons (pv 3) (pa_cons (pv 4) (pa_nil))))))))))))
      (pss_one (ps_ret (pv 1))))), ?_⟩
    refine ⟨(by show 0 ≤ sizeLine; omega), fun q0 hq0 => ?_⟩
    refine ⟨_, rfl, _, rfl, by omega, by omega, ?_⟩
    rw [show ((n : Nat) : Int).toNat = n by omega]
    refine for_range (lo := 0) (n := n) (fun i σ G => Same H G ∧ ∃ (q : Addr) (ys : List V) (v2 v3 : Option V), H q = none ∧ G q = some (.lst ys) ∧ ys.length ≤ 25 * i ∧ (∀ y ∈ ys, TripAt n G y) ∧ σ = [some (.int (n : Int)), some (.ref q), v2, v3, none])
      ⟨Same.updf hq0, q0, [], none, none, hq0, upd_same, Nat.le_refl _, (fun y h => by cases h), rfl⟩ ?_ ?_
    · rintro i σ G hi ⟨sG, q, ys, v2, v3, nq, hq, lq, tq, rfl⟩
      refine ⟨_, rfl, _, _, rfl, rfl, _, rfl, (0 + (i : Int) + 1), (n : Int), rfl, by omega, ?_⟩
      rw [show ((n : Int) - (0 + (i : Int) + 1)).toNat = n - (i + 1) by omega]
      refine for_range (lo := 0 + (i : Int) + 1) (n := n - (i + 1)) (fun j σ G => Same H G ∧ ∃ (q : Addr) (ys : List V) (v3 : Option V), H q = none ∧ G q = some (.lst ys) ∧ ys.length ≤ 25 * i + 5 * j ∧ (∀ y ∈ ys, TripAt n G y) ∧ σ = [some (.int (n : Int)), some (.ref q), some (.int (0 + (i : Int))), v3, none])
        ⟨sG, q, ys, v3, nq, hq, lq, tq, rfl⟩ ?_ ?_
      · rintro j σ G hj ⟨sG, q, ys, v3, nq, hq, lq, tq, rfl⟩
        refine ⟨_, rfl, _, rfl, _, _, rfl, rfl, _, rfl, (0 + (i : Int) + 1 + (j : Int) + 1), (n : Int), rfl, by omega, fun D hD => ?_⟩
        rw [show ((n : Int) - (0 + (i : Int) + 1 + (j : Int) + 1)).toNat = n - (i + 1 + j + 1) by omega]
        refine lc_rel (n := n - (i + 1 + j + 1)) (walk_range (lo := 0 + (i : Int) + 1 + (j : Int) + 1) (n := n - (i + 1 + j + 1))) (fun _ => true) (fun _ y G2 => TripAt n G2 y) (fun _ y G2 G3 s h => h.same s) (by omega) hD (fun G2 s => trivial) ?_ ?_
        · rintro t x G2 G3 Qy Qn ht s2 hacc ⟨rfl, rfl⟩ ky kn
          obtain ⟨acc, hacc⟩ := hacc
          refine ⟨rfl, ?_⟩
          refine ⟨_, rfl, _, rfl, _, rfl, (by show 3 ≤ sizeLine; omega), fun T hT => ?_⟩
          have nT : T ≠ D := fun z => by
            rw [z, hacc] at hT
            cases hT
          refine ky _ _ rfl (Same.updf hT) ⟨T, i, i + 1 + j, i + 1 + j + 1 + t, rfl, ?_, by omega, by omega, by omega⟩
          rw [KB.off_at nT, upd_same]
          dsimp only
          rw [show (0 + (i : Int)) = ((i : Nat) : Int) by omega, show (((i : Nat) : Int) + 1 + (j : Int)) = ((i + 1 + j : Nat) : Int) by omega, show (((i + 1 + j : Nat) : Int) + 1 + (t : Int)) = ((i + 1 + j + 1 + t : Nat) : Int) by omega]
        · intro G2 zs s2 hz pz
          have lz := pz.length
          have lf2 := List.length_filter_le (fun _ : Nat => true) (List.range (n - (i + 1 + j + 1)))
          rw [List.length_range] at lf2
          refine ⟨q, D, ys, zs, rfl, rfl, s2 _ _ hq, hz, by omega, fun p hp => ?_⟩
          have sp := Same.updf (o := .lst (ys ++ zs)) hp
          refine ⟨(sG.trans s2).trans sp, p, ys ++ zs, some (.int (0 + (i : Int) + 1 + (j : Int))), none_back (sG.trans s2) hp, upd_same, by rw [List.length_append]; omega, fun y hy => ?_, rfl⟩
          rcases List.mem_append.mp hy with hy | hy
          · exact (tq y hy).same (s2.trans sp)
          · obtain ⟨t, ht2⟩ := List.getElem?_of_mem hy
            obtain ⟨x, _, h⟩ := paired_get2 pz ht2
            exact (h.same (off_le G2 D)).same sp
      · rintro σ G ⟨sG, q, ys, v3, nq, hq, lq, tq, rfl⟩
        exact ⟨sG, q, ys, _, v3, nq, hq, by omega, tq, rfl⟩
    · rintro σ G ⟨sG, q, ys, v2, v3, nq, hq, lq, tq, rfl⟩
      exact ⟨_, rfl, k q ys G sG nq hq (by omega) tq⟩
end
end K06
set_option Elab.async false
set_option linter.all false
set_option maxRecDepth 100000
namespace K06
open PySem PySem.Spec PyProof.Rows L2 KB
/-! The theory of what the law draws. -/
/-- a drawn code: two to five pages of one to seven cells, with small signs -/
structure Drawn (c : List (List Nat)) (m : Nat) : Prop extends Good c m where
  five : c.length ≤ 5
  seven : m ≤ 7
  sign : ∀ r ∈ c, ∀ x ∈ r, x ≤ 100
theorem nd_get {α : Type} {l : List α} (nd : l.Nodup) {i j : Nat} {x : α} (hi : l[i]? = some x) (hj : l[j]? = some x) : i = j := by
  obtain ⟨h1, e1⟩ := List.getElem?_eq_some_iff.mp hi
  obtain ⟨h2, e2⟩ := List.getElem?_eq_some_iff.mp hj
  have P := List.pairwise_iff_getElem.mp nd
  rcases Nat.lt_trichotomy i j with h | h | h
  · exact absurd (e1.trans e2.symm) (P i j h1 h2 h)
  · exact h
  · exact absurd (e2.trans e1.symm) (P j i h2 h1 h)
def turnP (order : List Nat) (sent : List (List Nat)) (r : List Nat) : List Nat := order.map fun x => (sent.getD x []).getD (r.getD x 0) 0
theorem turn_inj {order : List Nat} {sent : List (List Nat)} {r s : List Nat} {m most : Nat} (ho : order.Perm (List.range m)) (ls : sent.length = m) (hs : ∀ l ∈ sent, l.Perm (List.range most)) (lr : r.length = m) (l2 : s.length = m)
    (br : ∀ x ∈ r, x < most) (bs : ∀ x ∈ s, x < most) (e : turnP order sent r = turnP order sent s) : r = s := by
  refine List.ext_getElem (by omega) fun i h1 h2 => ?_
  have hi : i ∈ order := ho.mem_iff.mpr (List.mem_range.mpr (by omega))
  have e1 := List.map_inj_left.mp e i hi
  have li : i < sent.length := by omega
  have hp := hs _ (List.getElem_mem li)
  have nd : sent[i].Nodup := hp.nodup_iff.mpr List.nodup_range
  have ln : sent[i].length = most := by rw [hp.length_eq, List.length_range]
  have b1 : r[i] < sent[i].length := by rw [ln]; exact br _ (List.getElem_mem h1)
  have b2 : s[i] < sent[i].length := by rw [ln]; exact bs _ (List.getElem_mem h2)
  have e2 : sent[i][r[i]] = sent[i][s[i]] := by
    simpa [List.getD_eq_getElem?_getD, List.getElem?_eq_getElem li, List.getElem?_eq_getElem h1, List.getElem?_eq_getElem h2, List.getElem?_eq_getElem b1, List.getElem?_eq_getElem b2] using e1
  refine nd_get nd (x := sent[i][r[i]]) (List.getElem?_eq_getElem b1) ?_
  rw [List.getElem?_eq_getElem b2, e2]
theorem turn_len {order : List Nat} {sent : List (List Nat)} {r : List Nat} {m : Nat} (ho : order.Perm (List.range m)) : (turnP order sent r).length = m := by
  unfold turnP
  rw [List.length_map, ho.length_eq, List.length_range]
theorem turn_lt {order : List Nat} {sent : List (List Nat)} {r : List Nat} {m most : Nat} (ho : order.Perm (List.range m)) (ls : sent.length = m) (hs : ∀ l ∈ sent, l.Perm (List.range most)) (lr : r.length = m)
    (br : ∀ x ∈ r, x < most) : ∀ x ∈ turnP order sent r, x < most := by
  intro x hx
  obtain ⟨i, hi, rfl⟩ := List.mem_map.mp hx
  have h1 : i < m := List.mem_range.mp (ho.mem_iff.mp hi)
  have hp := hs _ (List.getElem_mem (show i < sent.length by omega))
  have ln : (sent[i]'(by omega)).length = most := by rw [hp.length_eq, List.length_range]
  have b1 : r[i]'(by omega) < (sent[i]'(by omega)).length := by rw [ln]; exact br _ (List.getElem_mem (by omega))
  rw [List.getD_eq_getElem?_getD, List.getD_eq_getElem?_getD, List.getD_eq_getElem?_getD, List.getElem?_eq_getElem (show i < r.length by omega), List.getElem?_eq_getElem (show i < sent.length by omega)]
  show ((sent[i]'(by omega))[r[i]'(by omega)]?).getD 0 < most
  rw [List.getElem?_eq_getElem b1]
  show (sent[i]'(by omega))[r[i]'(by omega)] < most
  exact List.mem_range.mp (hp.mem_iff.mp (List.getElem_mem b1))
/-- a code turned is a code -/
theorem turn_good {c c' : List (List Nat)} {order : List Nat} {sent : List (List Nat)} {m most : Nat} (g : Drawn c m) (lt : ∀ r ∈ c, ∀ x ∈ r, x < most) (m100 : most ≤ 100) (ho : order.Perm (List.range m)) (ls : sent.length = m)
    (hs : ∀ l ∈ sent, l.Perm (List.range most)) (hp : c'.Perm (c.map (turnP order sent))) : Drawn c' m := by
  have lc : c'.length = c.length := by rw [hp.length_eq, List.length_map]
  have mem : ∀ r ∈ c', ∃ p ∈ c, turnP order sent p = r := fun r hr => List.mem_map.mp (hp.mem_iff.mp hr)
  have g1 := g.two
  have g2 := g.few
  have g3 := g.five
  refine { two := by omega, few := by omega, cells := g.cells, small := g.small, len := fun r hr => ?_, nd := ?_, five := by omega, seven := g.seven, sign := fun r hr x hx => ?_ }
  · obtain ⟨p, _, rfl⟩ := mem r hr
    exact turn_len ho
  · refine hp.nodup_iff.mpr ?_
    refine List.pairwise_map.mpr ?_
    refine g.nd.imp_of_mem fun {a b} ha hb ne => fun e => ne ?_
    exact turn_inj ho ls hs (g.len _ ha) (g.len _ hb) (lt _ ha) (lt _ hb) e
  · obtain ⟨p, hp2, rfl⟩ := mem r hr
    have := turn_lt ho ls hs (g.len _ hp2) (lt _ hp2) x hx
    omega
theorem lineP_len (n p m : Nat) : (lineP n p m).length = m := by
  unfold lineP
  rw [List.length_map, List.length_range]
theorem lineP_lt {n p m : Nat} (hp : 0 < p) : ∀ x ∈ lineP n p m, x < p := by
  intro x hx
  obtain ⟨i, _, rfl⟩ := List.mem_map.mp hx
  exact Nat.mod_lt _ hp
theorem lineP_take {n p m k : Nat} (h : k ≤ m) : (lineP n p m).take k = lineP n p k := by
  unfold lineP
  rw [← List.map_take, List.take_range, Nat.min_eq_left h]
theorem line5 : ∀ n : Nat, n < 25 → ∀ k : Nat, k < 25 → lineP n 5 2 = lineP k 5 2 → n = k := by decide +kernel
theorem line7 : ∀ n : Nat, n < 49 → ∀ k : Nat, k < 49 → lineP n 7 2 = lineP k 7 2 → n = k := by decide +kernel
theorem line_inj {n k p m : Nat} (hp : p = 5 ∨ p = 7) (hm : 2 ≤ m) (hn : n < p * p) (hk : k < p * p) (e : lineP n p m = lineP k p m) : n = k := by
  have e2 := congrArg (List.take 2) e
  rw [lineP_take hm, lineP_take hm] at e2
  rcases hp with rfl | rfl
  · exact line5 n hn k hk e2
  · exact line7 n hn k hk e2
theorem line_good {ns : List Nat} {p m : Nat} (hp : p = 5 ∨ p = 7) (hm : 2 ≤ m) (m7 : m ≤ 7) (nd : ns.Nodup) (lt : ∀ n ∈ ns, n < p * p) (l3 : 2 ≤ ns.length) (l5 : ns.length ≤ 5) : Drawn (ns.map fun n => lineP n p m) m := by
  refine { two := by rw [List.length_map]; exact l3, few := by rw [List.length_map]; omega, cells := by omega, small := by omega, len := fun r hr => ?_, nd := ?_, five := by rw [List.length_map]; exact l5, seven := m7, sign := fun r hr x hx => ?_ }
  · obtain ⟨n, _, rfl⟩ := List.mem_map.mp hr
    exact lineP_len n p m
  · refine List.pairwise_map.mpr ?_
    refine nd.imp_of_mem fun {a b} ha hb ne => fun e => ne ?_
    exact line_inj hp hm (lt _ ha) (lt _ hb) e
  · obtain ⟨n, _, rfl⟩ := List.mem_map.mp hr
    have := lineP_lt (by omega) x hx
    omega
/-- pages of alike signs -/
theorem alike_good {n m : Nat} (h1 : 1 ≤ m) (h2 : m ≤ 7) (n2 : 2 ≤ n) (n5 : n ≤ 5) : Drawn ((List.range n).map fun s => List.replicate m s) m := by
  refine { two := by simpa using n2, few := by simp; omega, cells := h1, small := by omega, len := fun r hr => ?_, nd := ?_, five := by simpa using n5, seven := h2, sign := fun r hr x hx => ?_ }
  · obtain ⟨s, _, rfl⟩ := List.mem_map.mp hr
    exact List.length_replicate
  · refine List.pairwise_map.mpr ?_
    refine List.nodup_range.imp fun {a b} ne => fun e => ne ?_
    obtain ⟨k, rfl⟩ : ∃ k, m = k + 1 := ⟨m - 1, by omega⟩
    rw [List.replicate_succ, List.replicate_succ] at e
    exact (List.cons.inj e).1
  · obtain ⟨s, hs, rfl⟩ := List.mem_map.mp hr
    rw [List.eq_of_mem_replicate hx]
    have := List.mem_range.mp hs
    omega
def written : List (List Nat) := [[0, 0, 0], [0, 1, 1], [1, 0, 2], [2, 2, 0]]
theorem written_good {k : Nat} (h2 : 2 ≤ k) (h4 : k ≤ 4) : Drawn (written.take k) 3 ∧ ∀ r ∈ written.take k, ∀ x ∈ r, x < 3 := by
  obtain rfl | rfl | rfl : k = 2 ∨ k = 3 ∨ k = 4 := by omega
  all_goals
    refine ⟨{ two := by decide, few := by decide, cells := by decide, small := by decide, len := by decide, nd := by decide, five := by decide, seven := by decide, sign := by decide }, by decide⟩
/-- pages of drawn signs, none twice, with a late one -/
theorem random_good {found : List (List Nat)} {m : Nat} (h1 : 1 ≤ m) (h4 : m ≤ 4) (nd : found.Nodup) (ne : 1 ≤ found.length) (l5 : found.length ≤ 5) (len : ∀ r ∈ found, r.length = m) (lt : ∀ r ∈ found, ∀ x ∈ r, x < 4) :
    Drawn (if found.length < 2 then found ++ (found.take 1).map fun r => r.map (· + 1) else found) m := by
  by_cases h : found.length < 2
  · rw [if_pos h]
    obtain ⟨r, rfl⟩ : ∃ r, found = [r] := by
      cases found with
      | nil => simp at ne
      | cons r t => cases t with
        | nil => exact ⟨r, rfl⟩
        | cons s u => exact absurd h (by simp only [List.length_cons]; omega)
    have lr := len r (by simp)
    have br := lt r (by simp)
    refine { two := by simp, few := by simp, cells := h1, small := by omega, len := fun q hq => ?_, nd := ?_, five := by simp, seven := by omega, sign := fun q hq x hx => ?_ }
    · simp at hq
      rcases hq with rfl | rfl
      · exact lr
      · rw [List.length_map, lr]
    · refine List.pairwise_cons.mpr ⟨fun q hq => ?_, List.pairwise_singleton _ _⟩
      have hq2 : q = r.map (· + 1) := by simpa using hq
      subst hq2
      intro e
      cases r with
      | nil => simp at lr; omega
      | cons a t =>
        have h9 : a = a + 1 := (List.cons.inj e).1
        omega
    · simp at hq
      rcases hq with rfl | rfl
      · have := br x hx
        omega
      · obtain ⟨y, hy, rfl⟩ := List.mem_map.mp hx
        have := br y hy
        omega
  · rw [if_neg h]
    exact { two := by omega, few := by omega, cells := h1, small := by omega, len := len, nd := nd, five := l5, seven := by omega, sign := fun r hr x hx => by have := lt r hr x hx; omega }
/-! The theory of pictures that the law makes. -/
theorem offN_swap (r1 r2 : List Nat) (os : List (Option Nat)) : offN r1 r2 os = offN r2 r1 os := by
  unfold offN
  congr 2
  funext i
  cases os.getD i none with
  | none => rfl
  | some n => exact Bool.and_comm _ _
theorem shB_swap (r1 r2 : List Nat) (r : Option (List (Option Nat))) (ch un : Nat) : shB r1 r2 r ch un = shB r2 r1 r ch un := by
  cases r with
  | none => rfl
  | some os =>
    show (_ && decide (offN r1 r2 os ≤ ch)) = (_ && decide (offN r2 r1 os ≤ ch))
    rw [offN_swap]
theorem flen_le {f g : Nat → Bool} (h : ∀ j, g j = true → f j = true) : ∀ n, ((List.range n).filter g).length ≤ ((List.range n).filter f).length
  | 0 => Nat.le_refl _
  | n + 1 => by
    have ih := flen_le h n
    rw [List.range_succ, List.filter_append, List.filter_append, List.length_append, List.length_append, List.filter_cons, List.filter_cons]
    cases e : g n with
    | false => cases f n <;> simp <;> omega
    | true => rw [h n e]; simp; omega
theorem flen_one {f g : Nat → Bool} {i : Nat} (h : ∀ j, j ≠ i → g j = true → f j = true) : ∀ n, ((List.range n).filter g).length ≤ ((List.range n).filter f).length + (if i < n then 1 else 0)
  | 0 => Nat.zero_le _
  | n + 1 => by
    have ih := flen_one h n
    rw [List.range_succ, List.filter_append, List.filter_append, List.length_append, List.length_append, List.filter_cons, List.filter_cons]
    by_cases c : n = i
    · subst c
      rw [if_neg (Nat.lt_irrefl _)] at ih
      rw [if_pos (Nat.lt_succ_self _)]
      have a1 : (if g n = true then n :: List.filter g [] else List.filter g []).length ≤ 1 := by split <;> simp
      omega
    · have e2 : (if i < n then 1 else 0) ≤ (if i < n + 1 then 1 else 0) := by split <;> split <;> omega
      cases e : g n with
      | false => cases f n <;> simp <;> omega
      | true => rw [h n c e]; simp; omega
theorem off_set (r1 r2 : List Nat) (os : List (Option Nat)) (i : Nat) (x : Option Nat) : offN r1 r2 (os.set i x) ≤ offN r1 r2 os + 1 := by
  have h := flen_one (i := i) (g := fun j => match (os.set i x).getD j none with
    | none => false
    | some n => decide (n ≠ r1.getD j 0) && decide (n ≠ r2.getD j 0)) (f := fun j => match os.getD j none with
    | none => false
    | some n => decide (n ≠ r1.getD j 0) && decide (n ≠ r2.getD j 0)) (fun j hj e => by
      rw [List.getD_eq_getElem?_getD, List.getElem?_set_ne (Ne.symm hj), ← List.getD_eq_getElem?_getD] at e
      exact e) os.length
  unfold offN
  rw [List.length_set]
  refine Nat.le_trans h ?_
  have : (if i < os.length then 1 else 0) ≤ 1 := by split <;> omega
  exact Nat.add_le_add_left this _
theorem off_none (r1 r2 : List Nat) (os : List (Option Nat)) (i : Nat) : offN r1 r2 (os.set i none) ≤ offN r1 r2 os := by
  unfold offN
  rw [List.length_set]
  refine flen_le (fun j e => ?_) os.length
  by_cases hj : j = i
  · subst hj
    by_cases hl : j < os.length
    · rw [List.getD_eq_getElem?_getD, List.getElem?_set_self hl] at e
      cases e
    · rw [List.set_eq_of_length_le (by omega)] at e
      exact e
  · rw [List.getD_eq_getElem?_getD, List.getElem?_set_ne (Ne.symm hj), ← List.getD_eq_getElem?_getD] at e
    exact e
theorem cnt_set (os : List (Option Nat)) {i : Nat} (hi : i < os.length) (n : Nat) : (os.set i (some n)).count none ≤ os.count none := by
  rw [List.count_set hi]
  simp
theorem cnt_setN (os : List (Option Nat)) {i : Nat} (hi : i < os.length) : (os.set i none).count none ≤ os.count none + 1 := by
  rw [List.count_set hi]
  simp
theorem cnt_some (ns : List Nat) : (ns.map some).count none = 0 := by
  rw [List.count_eq_zero]
  intro h
  obtain ⟨x, _, e⟩ := List.mem_map.mp h
  cases e
theorem off_zero {r1 r2 ns : List Nat} (h : ∀ i (hi : i < ns.length), ns[i] = r1.getD i 0 ∨ ns[i] = r2.getD i 0) : offN r1 r2 (ns.map some) = 0 := by
  unfold offN
  rw [List.length_eq_zero_iff, List.filter_eq_nil_iff]
  intro i hi
  rw [List.mem_range, List.length_map] at hi
  have e : (ns.map some).getD i none = some ns[i] := by
    rw [List.getD_eq_getElem?_getD, List.getElem?_map, List.getElem?_eq_getElem hi]
    rfl
  rw [e]
  rcases h i hi with h | h <;> simp [h]
def all3 (c : List (List Nat)) (x : Nat) (l : List Nat) : Bool := decide ((l.map fun i => sg c i x).Nodup)
theorem unl3_all (c : List (List Nat)) (m i j k : Nat) : unl3 c m i j k = (List.range m).filter fun x => all3 c x [i, j, k] := by
  unfold unl3 all3
  congr 1
  funext x
  simp only [List.map_cons, List.map_nil]
  generalize sg c i x = a
  generalize sg c j x = b
  generalize sg c k x = d
  by_cases h1 : a = b <;> by_cases h2 : b = d <;> by_cases h3 : a = d <;> simp_all
theorem all3_perm {c : List (List Nat)} {x : Nat} {l l' : List Nat} (h : l.Perm l') : all3 c x l = all3 c x l' := by
  unfold all3
  rw [decide_eq_decide]
  exact (h.map _).nodup_iff
theorem unl3_perm {c : List (List Nat)} {m i j k i' j' k' : Nat} (h : [i', j', k'].Perm [i, j, k]) : unl3 c m i' j' k' = unl3 c m i j k := by
  rw [unl3_all, unl3_all]
  congr 1
  funext x
  exact all3_perm h
theorem ptd_swap (c : List (List Nat)) (m : Nat) (p q : Nat × Nat) : ptd c m p q = ptd c m q p := by
  unfold ptd
  congr 1
  funext x
  generalize sg c p.1 x = a
  generalize sg c p.2 x = b
  generalize sg c q.1 x = d
  generalize sg c q.2 x = e
  congr 1
  rw [Bool.eq_iff_iff]
  simp only [Bool.or_eq_true, decide_eq_true_eq]
  constructor <;> rintro (((h | h) | h) | h) <;> subst h <;> simp
theorem perm3 {l : List Nat} {i j k : Nat} (h : l.Perm [i, j, k]) : ∃ a b d, l = [a, b, d] := by
  have e := h.length_eq
  match l, e with
  | [a, b, d], _ => exact ⟨a, b, d, rfl⟩
theorem putK_keys {c : List (Key × V)} {k : Key} {x : V} {R : Key → Prop} (hc : ∀ kv ∈ c, R kv.1) (hk : R k) : ∀ kv ∈ putK c k x, R kv.1 := by
  intro kv h
  unfold putK at h
  split at h
  · obtain ⟨y, hy, e⟩ := List.mem_map.mp h
    split at e
    · subst e
      first
        | exact hk
        | exact hc y hy
    · subst e
      exact hc _ hy
  · rcases List.mem_append.mp h with h | h
    · exact hc _ h
    · rw [List.mem_singleton.mp h]
      exact hk
theorem putK_ne (c : List (Key × V)) (k : Key) (x : V) : c.length ≤ (putK c k x).length ∧ 1 ≤ (putK c k x).length ∧ (putK c k x).length ≤ c.length + 1 := by
  unfold putK
  split
  · rename_i h
    obtain ⟨y, hy, _⟩ := List.any_eq_true.mp h
    have := List.length_pos_of_mem hy
    rw [List.length_map]
    omega
  · rw [List.length_append, List.length_singleton]
    omega
theorem merge_all {R : Key → Prop} : ∀ (more kvs : List (Key × V)), (∀ kv ∈ kvs, R kv.1) → (∀ kv ∈ more, R kv.1) → (∀ kv ∈ mergeK kvs more, R kv.1) ∧ kvs.length ≤ (mergeK kvs more).length ∧ (mergeK kvs more).length ≤ kvs.length + more.length
  | [], kvs, h1, _ => ⟨h1, Nat.le_refl _, Nat.le_refl _⟩
  | kv :: more, kvs, h1, h2 => by
    have ih := merge_all more (putK kvs kv.1 kv.2) (putK_keys h1 (h2 _ List.mem_cons_self)) fun q hq => h2 q (List.mem_cons_of_mem _ hq)
    have p := putK_ne kvs kv.1 kv.2
    have e : mergeK kvs (kv :: more) = mergeK (putK kvs kv.1 kv.2) more := rfl
    rw [e, List.length_cons]
    exact ⟨ih.1, by omega, by omega⟩
theorem nat_keys : ∀ (kvs : List (Key × V)), (∀ kv ∈ kvs, ∃ n : Nat, kv.1 = Sum.inl (n : Int)) → ∃ ns : List Nat, kvs.map (·.1) = (ns.map fun n : Nat => (n : Int)).map Sum.inl ∧ ns.length = kvs.length
  | [], _ => ⟨[], rfl, rfl⟩
  | kv :: kvs, h => by
    obtain ⟨n, e⟩ := h kv List.mem_cons_self
    obtain ⟨ns, e1, e2⟩ := nat_keys kvs fun q hq => h q (List.mem_cons_of_mem _ hq)
    exact ⟨n :: ns, by rw [List.map_cons, e1, e]; rfl, by rw [List.length_cons, e2, List.length_cons]⟩
end K06
set_option Elab.async false
set_option linter.all false
set_option maxRecDepth 100000
set_option maxHeartbeats 4000000
/-! Comprehensions whose items are drawn: each turn changes the purse. -/
namespace KB
open PySem PySem.Spec PyProof.Rows L2
theorem off_some {H : Hp} {D b : Addr} {o : HO} (h : KB.off H D b = some o) : b ≠ D ∧ H b = some o := by
  unfold KB.off at h
  split at h
  · cases h
  · exact ⟨by assumption, h⟩
theorem off_but {pu : Addr} {H H' : Hp} (k : But pu H H') : Same (KB.off H pu) (KB.off H' pu) := fun b o e => by
  obtain ⟨n, e2⟩ := off_some e
  rw [KB.off_at n]
  exact k _ _ n e2
/-- what stands but for the purse and the new list -/
def off2 (H : Hp) (D pu : Addr) : Hp := KB.off (KB.off H D) pu
theorem off2_some {H : Hp} {D pu b : Addr} {o : HO} (h : off2 H D pu b = some o) : b ≠ D ∧ b ≠ pu ∧ H b = some o := by
  obtain ⟨n, h⟩ := off_some h
  obtain ⟨n2, h⟩ := off_some h
  exact ⟨n2, n, h⟩
theorem off2_at {H : Hp} {D pu b : Addr} {o : HO} (n : b ≠ D) (n2 : b ≠ pu) (h : H b = some o) : off2 H D pu b = some o := by
  unfold off2
  rw [KB.off_at n2, KB.off_at n]
  exact h
theorem off2_but {H H' : Hp} {D pu : Addr} (k : But pu H H') : Same (off2 H D pu) (off2 H' D pu) := fun b o e => by
  obtain ⟨n, n2, e⟩ := off2_some e
  exact off2_at n n2 (k _ _ n2 e)
theorem off2_le {H : Hp} {D pu : Addr} : Same (off2 H D pu) (KB.off H pu) := fun b o e => by
  obtain ⟨n, n2, e⟩ := off2_some e
  rw [KB.off_at n2]
  exact e
theorem off2_upd {H : Hp} {D pu : Addr} {o : HO} : Same (off2 H D pu) (off2 (L2.upd H D o) D pu) := fun b o e => by
  obtain ⟨n, n2, e⟩ := off2_some e
  exact off2_at n n2 (by rw [upd_ne n]; exact e)
theorem lc_but {J : It} {n : Nat} {G : Hp → Prop} {Y : Nat → Hp → V → Hp → Prop} (w : Walk J n G Y) {g : TG} {tt : TT} {te : TE} {vs : List Nat} {σ : L2.St} {H1 : Hp} {D pu : Addr} {Qd : Hp → Prop} {N cost : Nat} (R : Nat → V → Hp → Prop)
    (hR : ∀ i y H H', Same H H' → R i y H → R i y H') (hn : n ≤ 100000) (hP : Purse H1 pu N) (hD : H1 D = none) (hG : ∀ H, But pu H1 H → G H)
    (hs : ∀ i x H H' (Qy : V → Hp → Prop) (Qn : Hp → Prop), i < n → But pu H1 H → Purse H pu (N + cost * i) → (∃ acc, H D = some (.lst acc)) → Y i H x H' → (∀ y H4, But pu H H4 → Purse H4 pu (N + cost * (i + 1)) → R i y (off2 H4 D pu) → Qy y H4) →
      g x (wipe σ vs) H' fun σ2 H2 => wipe σ2 vs = wipe σ vs ∧ tt σ2 H2 fun b H3 => if b = true then te σ2 H3 Qy else Qn H3)
    (hd : ∀ H ys, But pu H1 H → Purse H pu (N + cost * n) → H D = some (.lst ys) → Paired (fun i y => R i y (off2 H D pu)) (List.range n) ys → Qd H) :
    ∃ W : Nat → Nat → Hp → Prop, (∃ m, W 0 m (L2.upd H1 D (.lst []))) ∧ ∀ i m H, W i m H →
      (J.stop i H ∧ Qd H) ∨ (J.go i H ∧ ∃ Nx : Hp → Prop, (∀ H', Nx H' → ∃ m', m' < m ∧ W (i + 1) m' H') ∧ ∀ x H', J.yld i H x H' → g x (wipe σ vs) H' fun σ2 H2 => wipe σ2 vs = wipe σ vs ∧ tt σ2 H2 fun b H3 =>
        if b = true then te σ2 H3 fun y H4 => ∃ acc, H4 D = some (.lst acc) ∧ acc.length < sizeLine ∧ Nx (L2.upd H4 D (.lst (acc ++ [y]))) else Nx H3) := by
  have nD : D ≠ pu := fresh_ne hP hD
  refine lc_it w (fun i H => But pu H1 H ∧ Purse H pu (N + cost * i) ∧ ∃ ys, H D = some (.lst ys) ∧ ys.length = i ∧ Paired (fun i y => R i y (off2 H D pu)) (List.range i) ys)
    ⟨But.of (Same.updf hD), hP.same' (upd_ne nD.symm), [], upd_same, rfl, .nil⟩ (fun i H _ h => hG H h.1) (fun i x H H' hi hPv hy => ?_) (fun H h => ?_)
  · obtain ⟨b1, PM, ys, hD', ly, py⟩ := hPv
    refine hs i x H H' _ _ hi b1 PM ⟨ys, hD'⟩ hy (fun y H4 b4 P4 r => ?_)
    have l2 : (100000 : Nat) < sizeLine := by decide
    refine ⟨ys, b4 _ _ nD hD', by omega, fun b o nb eb => ?_, P4.same' (upd_ne nD.symm), ys ++ [y], upd_same, by rw [List.length_append, ly]; rfl, ?_⟩
    · rw [upd_ne (ne_of_none eb hD)]
      exact b4 _ _ nb (b1 _ _ nb eb)
    · rw [List.range_succ]
      exact paired_snoc (paired_mono (fun i y h => hR i y _ _ ((off2_but b4).trans off2_upd) h) py) (hR _ _ _ _ off2_upd r)
  · obtain ⟨b1, PM, ys, hD', ly, py⟩ := h
    exact hd H ys b1 PM hD' py
end KB
set_option Elab.async false
set_option linter.all false
set_option maxRecDepth 100000
set_option maxHeartbeats 8000000
/-! A code turned. -/
namespace K06
open PySem PySem.Spec PyProof.Rows L2 KB
def unV : V → Nat
  | .int i => i.toNat
  | _ => 0
theorem unV_nums (r : List Nat) : (numsV r).map unV = r := by
  unfold numsV
  rw [List.map_map]
  conv => rhs; rw [← List.map_id r]
  apply List.map_congr_left
  intro x _
  show ((x : Int)).toNat = x
  omega
theorem nums_perm {L : List V} {r : List Nat} (h : L.Perm (numsV r)) : ∃ r', L = numsV r' ∧ r'.Perm r := by
  refine ⟨L.map unV, ?_, ?_⟩
  · unfold numsV
    rw [List.map_map]
    conv => lhs; rw [← List.map_id L]
    apply List.map_congr_left
    intro x hx
    obtain ⟨n, _, rfl⟩ := List.mem_map.mp (h.mem_iff.mp hx)
    show V.int (n : Int) = V.int (((n : Int)).toNat : Nat)
    rw [Int.toNat_natCast]
  · have := h.map unV
    rw [unV_nums] at this
    exact this
theorem rgV_nat (m : Nat) : rgV 0 (m : Int) = numsV (List.range m) := by
  unfold rgV numsV
  rw [show ((m : Int) - 0).toNat = m by omega]
  apply List.map_congr_left
  intro x _
  rw [Int.zero_add]
theorem paired_pick {G : Hp} {P : List Nat → Prop} : ∀ {is : List Nat} {zs : List V}, Paired (fun _ y => ∃ r, LsAt G r y ∧ P r) is zs → ∃ rs, Paired (LsAt G) rs zs ∧ ∀ r ∈ rs, P r
  | _, _, .nil => ⟨[], .nil, fun r h => by cases h⟩
  | _, _, .cons ⟨r, h1, h2⟩ t => by
    obtain ⟨rs, a, b⟩ := paired_pick t
    exact ⟨r :: rs, .cons h1 a, fun q hq => by
      rcases List.mem_cons.mp hq with rfl | hq
      · exact h2
      · exact b q hq⟩
theorem paired_perm {α β : Type} {R : α → β → Prop} {L ys : List β} (h : L.Perm ys) : ∀ {xs : List α}, Paired R xs ys → ∃ xs', xs'.Perm xs ∧ Paired R xs' L := by
  induction h with
  | nil => intro xs p; exact ⟨xs, .refl _, p⟩
  | cons x h ih =>
    intro xs p
    cases p with
    | cons r t =>
      obtain ⟨xs', a, b⟩ := ih t
      exact ⟨_ :: xs', a.cons _, .cons r b⟩
  | swap x y l =>
    intro xs p
    cases p with
    | cons r t =>
      cases t with
      | cons r2 t2 => exact ⟨_ :: _ :: _, .swap _ _ _, .cons r2 (.cons r t2)⟩
  | trans h1 h2 ih1 ih2 =>
    intro xs p
    obtain ⟨xs2, a, b⟩ := ih2 p
    obtain ⟨xs3, a2, b2⟩ := ih1 b
    exact ⟨xs3, a2.trans a, b2⟩
def spTurned : Sp := fun vs H Q _ => ∃ (pu a : Addr) (c : List (List Nat)) (m most N : Nat), vs = [.ref pu, .ref a, .int (most : Int)] ∧ Purse H pu N ∧ N + 200 ≤ 2 ^ 38 ∧ CodeAt (KB.off H pu) a c ∧ Drawn c m ∧ (∀ r ∈ c, ∀ x ∈ r, x < most) ∧ most ≤ 7 ∧
  ∀ q c' H', But pu H H' → Purse H' pu (N + 61) → H q = none → CodeAt (KB.off H' pu) q c' → Drawn c' m → Q (.ref q) H'
section
variable {P : Program} {w : World} {K : PySem.W.Frag} {mg : Str → Option Value} {base : Heap}
abbrev s_turned_cells : Stmt := top 39
abbrev N_turned_cells : List Str := ["_law_purse_here", "_law_code", "_law_most", "_law_order", "_law_found", "_law_sent", "_law_page", "_law_at"]
theorem sc_turned_cells : FnScope N_turned_cells ["_law_purse_here", "_law_code", "_law_most"] (defScope s_turned_cells) := ⟨rfl, rfl, rfl, by decide +kernel, rfl, by decide +kernel, by decide +kernel⟩
theorem ok_turned_cells {f : Addr} {fd : FuncData} (F : FnP K "_law_turned_cells" s_turned_cells f fd) (Z : FreeS mg)
    {f_shuffled : Addr} {d_shuffled : FuncData} (g_shuffled : mg "_law_shuffled" = some (.ref f_shuffled)) (F_shuffled : FnP K "_law_shuffled" s_shuffled f_shuffled d_shuffled) (G_shuffled : FnOk P w K mg base CX0 3 f_shuffled d_shuffled ["_law_purse_here", "_law_some"] (spShuffled K)) :
    FnOk P w K mg base CX0 4 f fd ["_law_purse_here", "_law_code", "_law_most"] spTurned := by
  have b_shuffled : Binds K d_shuffled ["_law_purse_here", "_law_some"] [] := F_shuffled.bindsN fun _ _ _ _ _ _ us hl => match us, hl with | [_, _], _ => rfl
  refine F.ok sc_turned_cells (fun vs H Q E h => ?_) (fun cdv A outer s H vs Q E hr h => ?_)
  · obtain ⟨pu, a, c, m, most, N, rfl, _⟩ := h
    rfl
  · obtain ⟨pu, a, c, m, most, N, rfl, hP, hN, hc, g, lt, m7, k⟩ := h
    obtain ⟨xs, ha0, lx, hx⟩ := hc.at
    obtain ⟨na, ha⟩ := off_some ha0
    have g2 := g.two
    have sl : (100 : Nat) < sizeLine := by decide
    have g5 := g.five
    have mm := g.seven
    obtain ⟨p0, z1, z2⟩ := hx 0 (by omega)
    have l0 := g.len _ (List.getElem_mem (show 0 < c.length by omega))
    have nd := sc_turned_cells.nd
    refine ⟨_, PSs.nox (pss_cons (ps_par (i := 3) (j := 4) rfl nd rfl rfl (by decide) rfl rfl (pa_cons (pe_call G_shuffled (hr.mono (by decide)) rfl g_shuffled F_shuffled.kp b_shuffled .nil pass0 (pa_cons (pv 0) (pa_cons (pe_listRg rfl (by rfl) Z.tlist (prg_1 (by rfl) Z.range (pe_callB call_len_seq (by rfl) Z.len (by decide +kernel) (pa_cons (pe_ix ix_list (pv 1) (pe_int) (fun _ _ => rfl)) (pa_nil))))) (pa_nil)))) (pa_cons (pe_lst (pa_nil)) (pa_nil))) rfl)
      (pss_cons (ps_set (i := 5) nd rfl (Or.inr rfl) (pe_lc (own := [("_law_at", 7)]) (g := gName 7) (tt := tYes) (by rfl) nd (pi_list (pv 3))
          (blkOk_by (own := [("_law_at", 7)]) (N := N_turned_cells) (sc := defScope s_turned_cells) (by decide +kernel)) (fun _ _ _ _ _ => pg_name (i := 7) nd rfl (Or.inl rfl)) (fun _ _ _ _ _ => pts_nil)
          (fun _ _ _ _ _ => pe_call G_shuffled (hr.mono (by decide)) rfl g_shuffled F_shuffled.kp b_shuffled .nil pass0 (pa_cons (pv 0) (pa_cons (pe_listRg rfl (by rfl) Z.tlist (prg_1 (by rfl) Z.range (pv 2))) (pa_nil))))))
      (pss_cons (ps_for PassesOwn.never rfl (pi_list (pv 1)) (pg_name (i := 6) nd rfl (Or.inr rfl))
        (pss_one (ps_expr (pe_bm PySem.F.plainAttrs_list PySem.F.slot_list_append PySem.F.type_list_append mt_append (pv 4) (pa_cons (pe_lc (own := [("_law_at", 7)]) (g := gName 7) (tt := tYes) (te := tOp (rIxL K) (tOp (rIxL K) (tVar 5) (tVar 7)) (tOp (rIxL K) (tVar 6) (tVar 7))) (by rfl) nd (pi_list (pv 3))
          (blkOk_by (own := [("_law_at", 7)]) (N := N_turned_cells) (sc := defScope s_turned_cells) (by decide +kernel)) (fun _ _ _ _ _ => pg_name (i := 7) nd rfl (Or.inl rfl)) (fun _ _ _ _ _ => pts_nil)
          (fun _ _ _ _ _ => pe_ix ix_list (pe_ix ix_list (pv 5) (pv 7) (fun _ _ => rfl)) (pe_ix ix_list (pv 6) (pv 7) (fun _ _ => rfl)) (fun _ _ => rfl))) (pa_nil))))))
      (pss_one (ps_ret (pe_call G_shuffled (hr.mono (by decide)) rfl g_shuffled F_shuffled.kp b_shuffled .nil pass0 (pa_cons (pv 0) (pa_cons (pv 4) (pa_nil))))))))), ?_⟩
    refine ⟨_, rfl, _, rfl, a, xs, 0, .ref p0, rfl, rfl, SqL.of ha, atI_nat (j := 0) z1, p0, _, rfl, .inl (SqL.of (off_some z2).2), _, rfl, by rw [numsV_len, l0]; exact RgOk.of_le (by omega) (by omega) (by omega) (by omega), fun R hR => ?_⟩
    rw [numsV_len, l0, rgV_nat]
    have sR := Same.updf (o := .lst (numsV (List.range m))) hR
    have nR : R ≠ pu := fresh_ne hP hR
    refine ⟨pu, R, N, numsV (List.range m), rfl, hP.same sR, by rw [numsV_len, List.length_range]; omega, nR, upd_same, by rw [numsV_len, List.length_range]; omega, fun q1 L1 H1 b1 P1 n1 e1 p1 => ?_⟩
    obtain ⟨order, rfl, po⟩ := nums_perm p1
    rw [numsV_len, List.length_range] at P1
    have b01 : But pu H H1 := (But.of sR).trans b1
    have nq1 : q1 ≠ pu := fresh_ne (hP.same sR) n1
    have lo : order.length = m := by rw [po.length_eq, List.length_range]
    refine ⟨Nat.zero_le _, fun F0 hF0 => ⟨_, _, rfl, ?_⟩⟩
    have nF : F0 ≠ pu := fresh_ne P1 hF0
    have sF := Same.updf (o := .lst []) hF0
    have hFF : upd H1 F0 (.lst []) F0 = some (.lst []) := upd_same
    generalize upd H1 F0 (.lst []) = H2 at sF hFF ⊢
    have P2 := P1.same sF
    have b02 := b01.trans (But.of sF)
    have e2 := sF _ _ e1
    refine ⟨_, rfl, q1, rfl, ⟨_, SqL.of e2⟩, fun S hS => ?_⟩
    have nS : S ≠ pu := fresh_ne P2 hS
    have nSF : S ≠ F0 := fun z => by rw [z, hFF] at hS; cases hS
    refine lc_but (n := m) (pu := pu) (N := N + m) (cost := most) (by have := walk_list (K := K) (a := q1) (xs := numsV order); rw [numsV_len, lo] at this; exact this) (fun _ y G => ∃ r, LsAt (KB.off G F0) r y ∧ r.Perm (List.range most)) (fun i y G G' s ⟨r, h1, h2⟩ => ⟨r, h1.same (KB.off_same F0 s), h2⟩) (by omega) P2 hS (fun G bG => SqL.of (bG _ _ nq1 e2)) ?_ ?_
    · rintro i x G G' Qy Qn hi bG PG hacc ⟨rfl, hv⟩ ky
      have mi : most * i ≤ 49 := Nat.le_trans (Nat.mul_le_mul m7 (show i ≤ 7 by omega)) (by omega)
      refine ⟨rfl, _, rfl, _, rfl, _, rfl, RgOk.of_le (by omega) (by omega) (by omega) (by omega), fun R2 hR2 => ?_⟩
      rw [rgV_nat]
      have sR2 := Same.updf (o := .lst (numsV (List.range most))) hR2
      have nR2 : R2 ≠ pu := fresh_ne PG hR2
      refine ⟨pu, R2, N + m + most * i, numsV (List.range most), rfl, PG.same sR2, by rw [numsV_len, List.length_range]; omega, nR2, upd_same, by rw [numsV_len, List.length_range]; omega, fun T L3 H3 b3 P3 n3 e3 p3 => ?_⟩
      obtain ⟨r, rfl, pr⟩ := nums_perm p3
      obtain ⟨acc, hacc⟩ := hacc
      have nT : T ≠ S := fun z => by rw [z, sR2 _ _ hacc] at n3; cases n3
      have nTF : T ≠ F0 := fun z => by rw [z, sR2 _ _ (bG _ _ nF hFF)] at n3; cases n3
      refine ky _ _ ((But.of sR2).trans b3) (by rw [numsV_len, List.length_range, Nat.add_assoc, ← Nat.mul_succ] at P3; exact P3) ⟨r, ⟨T, rfl, by rw [KB.off_at nTF]; exact off2_at nT (fresh_ne (PG.same sR2) n3) e3⟩, pr⟩
    intro H3 zs b3 P3 hS3 pz
    obtain ⟨sent, pS, hS4⟩ := paired_pick pz
    have ls : sent.length = m := by rw [pS.length, ← pz.length, List.length_range]
    have b03 := b02.trans b3
    have hc3 := hc.same (off_but b03)
    obtain ⟨na3, ha3⟩ : a ≠ pu ∧ H3 a = some (.lst xs) := ⟨na, b03 _ _ na ha⟩
    have hF3 := b3 _ _ nF hFF
    have e3 := b3 _ _ nq1 e2
    have mm2 : most * m ≤ 49 := Nat.mul_le_mul m7 mm
    refine ⟨_, rfl, a, rfl, ⟨_, SqL.of ha3⟩, ?_⟩
    have old : ∀ b o, b ≠ pu → H1 b = some o → b ≠ F0 := fun b o _ h z => by rw [z, hF0] at h; cases h
    have aF := old _ _ na (b01 _ _ na ha)
    have qF := old _ _ nq1 e1
    refine for_it (walk_list (K := K) (a := a) (xs := xs)) (fun i σ G => (∀ b o, b ≠ pu → b ≠ F0 → H3 b = some o → G b = some o) ∧ Purse G pu (N + m + most * m) ∧ ∃ (ys : List V) (v6 : Option V), G F0 = some (.lst ys) ∧ Paired (LsAt (off2 G F0 pu)) ((c.take i).map (turnP order sent)) ys ∧ σ = [some (.ref pu), some (.ref a), some (.int (most : Int)), some (.ref q1), some (.ref F0), some (.ref S), v6, none])
      ⟨fun b o _ _ e => e, P3, [], none, hF3, .nil, rfl⟩ (fun i σ G _ hh => SqL.of (hh.1 _ _ na aF ha3)) ?_ ?_
    · rintro i x σ G G' li ⟨kG, PG, ys, v6, hFG, py, rfl⟩ ⟨rfl, hv⟩
      obtain ⟨p, f1, f2⟩ := hx i (by omega)
      rw [f1] at hv
      cases hv
      obtain ⟨np, f3⟩ := off_some f2
      have pF := old _ _ np (b01 _ _ np f3)
      have gp := kG _ _ np pF (b03 _ _ np f3)
      have gS := kG _ _ nS nSF hS3
      have gq := kG _ _ nq1 qF e3
      have fl := g.len _ (List.getElem_mem (show i < c.length by omega))
      have ly := py.length
      rw [List.length_map, List.length_take] at ly
      refine ⟨_, rfl, .inl ⟨rfl, _, SqL.of hFG⟩, _, rfl, q1, rfl, ⟨_, SqL.of gq⟩, fun D hD => ?_⟩
      have nD : D ≠ pu := fresh_ne PG hD
      have nDF : D ≠ F0 := fun z => by rw [z, hFG] at hD; cases hD
      refine lc_sel (n := m) (by have := walk_list (K := K) (a := q1) (xs := numsV order); rw [numsV_len, lo] at this; exact this) (fun k => some (.int (((sent.getD (order.getD k 0) []).getD ((c[i]'(by omega)).getD (order.getD k 0) 0) 0 : Nat) : Int))) (by omega) hD (fun H2 s2 => SqL.of (s2 _ _ gq)) ?_ ?_
      · rintro k x G2 G3 Qy Qn hk sH ⟨rfl, hv⟩ ky kn
        obtain ⟨hk2, rfl⟩ := numsV_at hv
        have om : order[k] < m := List.mem_range.mp (po.mem_iff.mp (List.getElem_mem hk2))
        obtain ⟨y, y1, z, rfl, y2⟩ := paired_get1 pS (List.getElem?_eq_getElem (show order[k] < sent.length by omega))
        obtain ⟨zF, y2⟩ := off_some y2
        obtain ⟨zS, zp, y2⟩ := off2_some y2
        have lz : (sent[order[k]]'(by omega)).length = most := by rw [(hS4 _ (List.getElem_mem _)).length_eq, List.length_range]
        have lt1 : (c[i]'(by omega))[order[k]]'(by omega) < most := lt _ (List.getElem_mem _) _ (List.getElem_mem _)
        refine ⟨rfl, _, rfl, _, rfl, S, zs, (order[k] : Nat), .ref z, rfl, rfl, SqL.of (sH _ _ gS), atI_nat y1, _, rfl, _, rfl, p, _, (order[k] : Nat), _, rfl, rfl, SqL.of (sH _ _ gp), atI_nat (numsV_get (by omega)), z, _, _, _, rfl, rfl, SqL.of (sH _ _ (kG _ _ zp zF y2)), atI_nat (numsV_get (by rw [lz]; exact lt1)), ky _ _ (Same.refl _) ?_⟩
        have i1 : order.getD k 0 = order[k] := by rw [List.getD_eq_getElem?_getD, List.getElem?_eq_getElem hk2]; rfl
        rw [i1]
        have i2 : sent.getD order[k] [] = sent[order[k]]'(by omega) := by rw [List.getD_eq_getElem?_getD, List.getElem?_eq_getElem (show order[k] < sent.length by omega)]; rfl
        have i3 : (c[i]'(by omega)).getD order[k] 0 = (c[i]'(by omega))[order[k]]'(by omega) := by rw [List.getD_eq_getElem?_getD, List.getElem?_eq_getElem (show order[k] < (c[i]'(by omega)).length by omega)]; rfl
        rw [i2, i3, List.getD_eq_getElem?_getD, List.getElem?_eq_getElem (by rw [lz]; exact lt1)]
        rfl
      · intro G2 s2 hR2
        have eT : ((List.range m).filterMap fun k => some (V.int (((sent.getD (order.getD k 0) []).getD ((c[i]'(by omega)).getD (order.getD k 0) 0) 0 : Nat) : Int))) = numsV (turnP order sent (c[i]'(by omega))) := by
          have e0 : order = (List.range m).map fun k => order.getD k 0 := by
            refine List.ext_getElem (by simp [lo]) fun k h1 h2 => ?_
            simp [h1]
          unfold numsV turnP
          conv => rhs; rw [e0]
          rw [List.filterMap_eq_map', List.map_map, List.map_map]
          rfl
        rw [eT] at hR2
        refine ⟨F0, ys, .ref D, rfl, rfl, s2 _ _ hFG, by omega, ?_⟩
        refine ⟨fun b o h1 h2 h3 => ?_, (PG.same s2).same' (upd_ne nF.symm), ys ++ [.ref D], some (.ref p), upd_same, ?_, rfl⟩
        · rw [upd_ne h2]
          exact s2 _ _ (kG _ _ h1 h2 h3)
        · rw [List.take_succ, List.getElem?_eq_getElem (show i < c.length by omega), Option.toList_some, List.map_append]
          refine paired_snoc (paired_mono (fun _ _ h => h.same ((off2_but (But.of s2)).trans off2_upd)) py) ⟨D, rfl, off2_at nDF nD ?_⟩
          rw [upd_ne nDF]
          exact hR2
    · rintro σ G ⟨kG, PG, ys, v6, hFG, py, rfl⟩
      have ly := py.length
      rw [lx, List.take_length, List.length_map] at ly
      rw [lx, List.take_length] at py
      refine ⟨_, rfl, _, rfl, pu, F0, N + m + most * m, ys, rfl, PG, by omega, nF, hFG, by omega, fun q L' H' bG PH nq hq pL => ?_⟩
      obtain ⟨c', pc, pl⟩ := paired_perm pL (paired_mono (fun _ _ h => h.same off2_le) py)
      refine k q c' H' (fun b o nb e => ?_) (PH.mono (by omega)) ?_ ⟨L', ?_, paired_mono (fun _ _ h => h.same (off_but bG)) pl⟩ (turn_good g lt (by omega) po ls hS4 pc)
      · have e1 := b01 _ _ nb e
        exact bG _ _ nb (kG _ _ nb (old _ _ nb e1) (b3 _ _ nb (sF _ _ e1)))
      · cases hq2 : H q with
        | none => rfl
        | some o => 
          have nq2 : q ≠ pu := fresh_ne PG nq
          have e1 := b01 _ _ nq2 hq2
          rw [kG _ _ nq2 (old _ _ nq2 e1) (b3 _ _ nq2 (sF _ _ e1))] at nq
          cases nq
      · rw [KB.off_at (fresh_ne PG nq)]
        exact hq
end
end K06
set_option Elab.async false
set_option linter.all false
set_option maxRecDepth 100000
set_option maxHeartbeats 8000000
/-! A code of drawn pages. -/
namespace K06
open PySem PySem.Spec PyProof.Rows L2 KB
theorem dp_ls {K : PySem.W.Frag} {H : Hp} {r : List Nat} {y : V} (h : LsAt H r y) : Dp K H y (lsD r) := by
  obtain ⟨T, rfl, hT⟩ := h
  refine .lst (SqL.of hT) ?_
  have := dpAll_ints (K := K) (H := H) (r.map fun x : Nat => (x : Int))
  rw [List.map_map] at this
  exact this
theorem dpAll_ls {K : PySem.W.Frag} {H : Hp} : ∀ {c : List (List Nat)} {ys : List V}, Paired (LsAt H) c ys → DpAll K H ys (c.map lsD)
  | _, _, .nil => .nil
  | _, _, .cons h t => .cons (dp_ls h) (dpAll_ls t)
theorem lay_ls (r : List Nat) : PyData.canLay0 (lsD r) = true ∧ PyData.depth (lsD r) ≤ 2 := by
  have g : PyData.canLayAll0 ((r.map fun x : Nat => (x : Int)).map PyData.int) = true ∧ PyData.depthAll ((r.map fun x : Nat => (x : Int)).map PyData.int) ≤ 1 := by
    induction r with
    | nil => exact ⟨rfl, Nat.zero_le _⟩
    | cons x P ih =>
      rw [List.map_cons, List.map_cons]
      exact ⟨by simp only [PyData.canLayAll0, PyData.canLay0, ih.1, Bool.and_self], by simp only [PyData.depthAll, PyData.depth]; have := ih.2; omega⟩
  unfold lsD
  refine ⟨?_, ?_⟩
  · simp only [PyData.canLay0]
    exact g.1
  · simp only [PyData.depth]
    have := g.2
    omega
theorem shaped_ls (r : List Nat) : SeqAt.shaped (lsD r) = true := by
  have g := lay_ls r
  exact Bool.and_eq_true_iff.mpr ⟨g.1, decide_eq_true (by have := g.2; omega)⟩
theorem shaped_lss (c : List (List Nat)) : SeqAt.shaped (.list (c.map lsD)) = true := by
  have g : PyData.canLayAll0 (c.map lsD) = true ∧ PyData.depthAll (c.map lsD) ≤ 2 := by
    induction c with
    | nil => exact ⟨rfl, Nat.zero_le _⟩
    | cons x P ih =>
      have l := lay_ls x
      rw [List.map_cons]
      exact ⟨by simp only [PyData.canLayAll0, l.1, ih.1, Bool.and_self], by simp only [PyData.depthAll]; have := ih.2; have := l.2; omega⟩
  refine Bool.and_eq_true_iff.mpr ⟨?_, decide_eq_true ?_⟩
  · simp only [PyData.canLay0]
    exact g.1
  · simp only [PyData.depth]
    have := g.2
    omega
theorem eqv_ls : ∀ a b : List Nat, PyData.eqv (lsD a) (lsD b) = decide (a = b) := by
  have g : ∀ a b : List Nat, PyData.eqvAll ((a.map fun x : Nat => (x : Int)).map PyData.int) ((b.map fun x : Nat => (x : Int)).map PyData.int) = decide (a = b) := by
    intro a
    induction a with
    | nil => intro b; cases b <;> simp [PyData.eqvAll]
    | cons x a ih =>
      intro b
      cases b with
      | nil => simp [PyData.eqvAll]
      | cons y b =>
        simp only [List.map_cons, PyData.eqvAll, ih, PyData.eqv]
        rw [Bool.eq_iff_iff]
        simp
        omega
  intro a b
  unfold lsD
  simp only [PyData.eqv]
  exact g a b
theorem any_ls (c : List (List Nat)) (r : List Nat) : ((c.map lsD).any fun z => PyData.eqv z (lsD r)) = decide (r ∈ c) := by
  rw [List.any_map, Bool.eq_iff_iff, List.any_eq_true, decide_eq_true_eq]
  constructor
  · rintro ⟨x, hx, e⟩
    have e2 : PyData.eqv (lsD x) (lsD r) = true := e
    rw [eqv_ls, decide_eq_true_eq] at e2
    rw [← e2]
    exact hx
  · intro h
    refine ⟨r, h, ?_⟩
    show PyData.eqv (lsD r) (lsD r) = true
    rw [eqv_ls, decide_eq_true rfl]
@[irreducible] def drawI : Sp := KB.spDraw
theorem drawI_eq : drawI = KB.spDraw := by
  unfold drawI
  rfl
theorem draw_ok {pu : Addr} {H : Hp} {N : Nat} {m : Int} {Q : VK} {E : XK} (h0 : 1 ≤ m) (h : m < 2 ^ 27) (hP : Purse H pu N) (hN : N + 1 ≤ 2 ^ 50) (k : ∀ (r : Nat) (H' : Hp), (r : Int) < m → But pu H H' → Purse H' pu (N + 1) → Q (.int (r : Int)) H') : drawI [.ref pu, .int m] H Q E := by
  rw [drawI_eq]
  have mx := mixes_one h0 h
  refine ⟨pu, m, N, rfl, h0, log_small h0 h, hP, by rw [mx]; exact hN, by rw [mx]; decide, fun r H' r0 r1 b P2 => ?_⟩
  rw [mx] at P2
  obtain ⟨n, rfl⟩ : ∃ n : Nat, r = (n : Int) := ⟨r.toNat, by omega⟩
  exact k n H' r1 b P2
theorem paired_nums {b : Nat} : ∀ {is : List Nat} {ys : List V}, Paired (fun _ y => ∃ r : Nat, y = V.int (r : Int) ∧ r < b) is ys → ∃ rs : List Nat, ys = numsV rs ∧ rs.length = is.length ∧ ∀ r ∈ rs, r < b
  | _, _, .nil => ⟨[], rfl, rfl, fun r h => by cases h⟩
  | _, _, .cons ⟨r, e, l⟩ t => by
    obtain ⟨rs, e1, e2, e3⟩ := paired_nums t
    refine ⟨r :: rs, by rw [e, e1]; rfl, by rw [List.length_cons, e2, List.length_cons], fun q hq => ?_⟩
    rcases List.mem_cons.mp hq with rfl | hq
    · exact l
    · exact e3 q hq
theorem cut_n (xs : List V) (n : Nat) : cutV xs none (some (n : Int)) = xs.take n := by
  unfold cutV
  rw [HT.sIx_none, HT.sIx_nat, List.drop_zero, Nat.sub_zero]
  by_cases h : n ≤ xs.length
  · rw [Nat.min_eq_left h]
  · rw [Nat.min_eq_right (by omega), List.take_of_length_le (Nat.le_refl _), List.take_of_length_le (by omega)]
def spRandom : Sp := fun vs H Q _ => ∃ (pu : Addr) (N : Nat), vs = [.ref pu] ∧ Purse H pu N ∧ N + 200 ≤ 2 ^ 38 ∧ ∀ q c m H', But pu H H' → Purse H' pu (N + 40) → H q = none → CodeAt (KB.off H' pu) q c → Drawn c m → Q (.ref q) H'
section
variable {P : Program} {w : World} {K : PySem.W.Frag} {mg : Str → Option Value} {base : Heap}
abbrev s_random_code : Stmt := top 41
abbrev N_random_code : List Str := ["_law_purse_here", "_law_cells", "_law_signs", "_law_found", "_law_turn", "_law_page", "_law_late", "_law_at"]
theorem sc_random_code : FnScope N_random_code ["_law_purse_here"] (defScope s_random_code) := ⟨rfl, rfl, rfl, by decide +kernel, rfl, by decide +kernel, by decide +kernel⟩
theorem ok_random_code {f : Addr} {fd : FuncData} (F : FnP K "_law_random_code" s_random_code f fd) (Z : FreeS mg)
    {f_draw : Addr} {d_draw : FuncData} (g_draw : mg "_law_draw" = some (.ref f_draw)) (F_draw : FnP K "_law_draw" s_draw f_draw d_draw) (G_draw : FnOk P w K mg base CX0 2 f_draw d_draw ["_law_purse_here", "_law_many"] drawI) :
    FnOk P w K mg base CX0 3 f fd ["_law_purse_here"] spRandom := by
  have b_draw : Binds K d_draw ["_law_purse_here", "_law_many"] [] := F_draw.bindsN fun _ _ _ _ _ _ us hl => match us, hl with | [_, _], _ => rfl
  refine F.ok sc_random_code (fun vs H Q E h => ?_) (fun cdv A outer s H vs Q E hr h => ?_)
  · obtain ⟨pu, N, rfl, _⟩ := h
    rfl
  · obtain ⟨pu, N, rfl, hP, hN, k⟩ := h
    have hu : (A.deeper (envOfC "_law_random_code" (defScope s_random_code) s.heap.objs.size f cdv)).units + 65 < cLine := by
      have := hr.un
      omega
    have sl : (1000 : Nat) < sizeLine := by decide
    have nd := sc_random_code.nd
    refine ⟨_, PSs.nox (pss_cons (ps_asg (pe_tup (pa_cons (pe_op op_add (pe_int) (pe_call G_draw (hr.mono (by decide)) rfl g_draw F_draw.kp b_draw .nil pass0 (pa_cons (pv 0) (pa_cons (pe_int) (pa_nil))))) (pa_cons (pe_op op_add (pe_int) (pe_call G_draw (hr.mono (by decide)) rfl g_draw F_draw.kp b_draw .nil pass0 (pa_cons (pv 0) (pa_cons (pe_int) (pa_nil))))) (pa_cons (pe_lst (pa_nil)) (pa_nil))))) (pg_tup rfl (pgs_cons (pg_name (i := 1) nd rfl (Or.inl rfl)) (pgs_cons (pg_name (i := 2) nd rfl (Or.inr rfl)) (pgs_cons (pg_name (i := 3) nd rfl (Or.inl rfl)) (pgs_nil))))))
      (pss_cons (ps_for PassesOwn.never rfl (pi_range1 (by rfl) Z.range (pa_cons (pe_op op_add (pe_int) (pe_call G_draw (hr.mono (by decide)) rfl g_draw F_draw.kp b_draw .nil pass0 (pa_cons (pv 0) (pa_cons (pe_int) (pa_nil))))) (pa_nil))) (pg_name (i := 4) nd rfl (Or.inl rfl))
        (pss_cons (ps_setLc (i := 5) (own := [("_law_at", 7)]) (g := gName 7) (tt := tYes) (te := tCall drawI [] E0 (tCons (tVar 0) (tCons (tVar 2) (tNil)))) (by rfl) nd rfl rfl rfl (pi_range1 (by rfl) Z.range (pa_cons (pv 1) (pa_nil)))
          (blkOk_by (own := [("_law_at", 7)]) (N := N_random_code) (sc := defScope s_random_code) (by decide +kernel)) (fun _ _ _ _ _ => pg_name (i := 7) nd rfl (Or.inl rfl)) (fun _ _ _ _ _ => pts_nil)
          (fun _ _ _ _ _ => pe_call G_draw (hr.mono (by decide)) rfl g_draw F_draw.kp b_draw .nil pass0 (pa_cons (pv 0) (pa_cons (pv 2) (pa_nil)))))
      (pss_one (ps_set (i := 3) nd rfl (Or.inl rfl) (pe_op op_cat (pv 3) (pe_op op_rep (pe_lst (pa_cons (pv 5) (pa_nil))) (pe_callTy call_int1 (by rfl) Z.int (by decide +kernel) (pa_cons (pe_cmpR (op_notInD hu) (pv 5) (pv 3) (by rfl)) (pa_nil)))))))))
      (pss_cons (ps_setLc (i := 6) (own := [("_law_page", 5)]) (g := gName 5) (tt := tYes) (te := tLc (iList K (tVar 5)) (gName 7) (tYes) (tOp (rI0 fun i j => .int (i + j)) (tVar 7) (tC (.int 1))) [7]) (by rfl) nd rfl rfl rfl (pi_list (pe_slice sl_list (pv 3) (po_none) (po_some (pe_int))))
          (blkOk_by (own := [("_law_page", 5)]) (N := N_random_code) (sc := defScope s_random_code) (by decide +kernel)) (fun _ _ _ _ _ => pg_name (i := 5) nd rfl (Or.inl rfl)) (fun _ _ _ _ _ => pts_nil)
          (fun _ _ _ _ _ => pe_lc (own := [("_law_at", 7)]) (g := gName 7) (tt := tYes) (te := tOp (rI0 fun i j => .int (i + j)) (tVar 7) (tC (.int 1))) (by rfl) nd (pi_list (pv 5))
          (blkOk_by (own := [("_law_at", 7)]) (N := N_random_code) (sc := ({ kind := .function, names := [(".0", .local), ("_law_page", .local)], isGenerator := false, isCoroutine := false } : Scope)) (by decide +kernel)) (fun _ _ _ _ _ => pg_name (i := 7) nd rfl (Or.inl rfl)) (fun _ _ _ _ _ => pts_nil)
          (fun _ _ _ _ _ => pe_op op_add (pv 7) (pe_int))))
      (pss_one (ps_ret (pe_ifExp (pt_cmpR op_lt (pe_callB call_len_seq (by rfl) Z.len (by decide +kernel) (pa_cons (pv 3) (pa_nil))) (pe_int) (nomark _)) (pe_op op_cat (pv 3) (pv 6)) (pv 3))))))), ?_⟩
    have P0 := hP
    have d4 : mixes 4 = 1 := mixes_one (by decide) (by decide)
    have d3 : mixes 3 = 1 := mixes_one (by decide) (by decide)
    refine ⟨_, rfl, draw_ok (by decide) (by decide) hP (by omega) (fun r1 H1 l1 b1 P1 => ⟨_, _, rfl, rfl, ?_⟩)⟩
    refine ⟨_, rfl, draw_ok (by decide) (by decide) P1 (by omega) (fun r2 H2 l2 b2 P2 => ⟨_, _, rfl, rfl, Nat.zero_le _, fun F0 hF0 => ⟨(by show 3 ≤ sizeLine; decide), fun T hT => ⟨T, _, rfl, SqT.of upd_same, rfl, _, _, rfl, _, _, rfl, _, _, rfl, rfl, ?_⟩⟩⟩)⟩
    have s3 := (Same.updf (o := .lst []) hF0).trans (Same.updf (o := .tup [.int (1 + (r1 : Int)), .int (2 + (r2 : Int)), .ref F0]) hT)
    have hFF := Same.updf (o := .tup [.int (1 + (r1 : Int)), .int (2 + (r2 : Int)), .ref F0]) hT F0 _ upd_same
    generalize upd (upd H2 F0 (.lst [])) T (.tup [.int (1 + (r1 : Int)), .int (2 + (r2 : Int)), .ref F0]) = H3 at s3 hFF ⊢
    have b03 : But pu H H3 := b1.trans (b2.trans (But.of s3))
    have P3 := P2.same s3
    have nF : H F0 = none := (b1.trans b2).none (fresh_ne P2 hF0) hF0
    clear s3 hT hF0 b1 b2 P1 P2
    refine ⟨_, rfl, draw_ok (by decide) (by decide) P3 (by omega) (fun r3 H4 l3 b4 P4 => ⟨_, _, rfl, rfl, _, rfl, by omega, by omega, ?_⟩)⟩
    have b04 := b03.trans b4
    have hF4 := b4 _ _ (fresh_ne hP nF) hFF
    rw [show ((2 + (r3 : Int)) : Int).toNat = 2 + r3 by omega]
    refine for_range (lo := 0) (n := 2 + r3) (fun i σ G => But pu H G ∧ Purse G pu (N + 3 + 4 * i) ∧ ∃ (q : Addr) (ys : List V) (found : List (List Nat)) (v4 v5 : Option V), H q = none ∧ G q = some (.lst ys) ∧ Paired (LsAt (KB.off G pu)) found ys ∧ found.Nodup ∧ (∀ r ∈ found, r.length = 1 + r1) ∧ (∀ r ∈ found, ∀ x ∈ r, x < 4) ∧ found.length ≤ i ∧ (1 ≤ i → 1 ≤ found.length) ∧
        σ = [some (.ref pu), some (.int (1 + (r1 : Int))), some (.int (2 + (r2 : Int))), some (.ref q), v4, v5, none, none])
      ⟨b04, P4, F0, [], [], none, none, nF, hF4, .nil, List.nodup_nil, (fun r h => by cases h), (fun r h => by cases h), Nat.le_refl _, (fun z => by omega), rfl⟩ ?_ ?_
    · rintro i σ G hi ⟨bG, PG, q, ys, found, v4, v5, nq, hq, pf, nd2, lf, tf, ff, of, rfl⟩
      refine ⟨_, rfl, _, rfl, by omega, by omega, fun D hD => ?_⟩
      rw [show ((1 + (r1 : Int)) : Int).toNat = 1 + r1 by omega]
      refine lc_but (n := 1 + r1) (pu := pu) (N := N + 3 + 4 * i) (cost := 1) (walk_range (lo := 0) (n := 1 + r1)) (fun _ y _ => ∃ r : Nat, y = .int (r : Int) ∧ r < 4) (fun i y G G' _ h => h) (by omega) PG hD (fun G _ => trivial) ?_ ?_
      · rintro j x G2 G3 Qy Qn hj b2 P2 hacc ⟨rfl, rfl⟩ ky
        refine ⟨rfl, _, rfl, _, rfl, draw_ok (by omega) (by omega) P2 (by omega) (fun r H5 l5 b5 P5 => ky _ _ b5 P5 ⟨r, rfl, by omega⟩)⟩
      intro H5 zs b5 P5 hz pz
      obtain ⟨page, rfl, lpg, tpg⟩ := paired_nums pz
      rw [List.length_range] at lpg
      have nD : D ≠ pu := fresh_ne PG hD
      have bH5 := bG.trans b5
      have hq5 := b5 _ _ (fresh_ne hP nq) hq
      have pf5 : Paired (LsAt (KB.off H5 pu)) found ys := paired_mono (fun _ _ h => h.same (off_but b5)) pf
      have ly := pf.length
      have P5' : Purse H5 pu (N + 3 + 4 * (i + 1)) := P5.mono (by omega)
      refine ⟨_, rfl, _, rfl, (by show 1 ≤ sizeLine; omega), fun L hL => ?_⟩
      have sL := Same.updf (o := .lst [.ref D]) hL
      refine ⟨_, rfl, _, rfl, lsD page, found.map lsD, dp_ls ⟨D, rfl, sL _ _ hz⟩, .lst (SqL.of (sL _ _ hq5)) (dpAll_ls (paired_mono (fun _ _ h => (h.same (off_le _ _)).same sL) pf5)), shaped_ls page, shaped_lss found, .inr ⟨_, rfl, ?_⟩⟩
      rw [any_ls]
      by_cases hm : page ∈ found
      · rw [decide_eq_true hm]
        refine ⟨L, 0, _, rfl, rfl, upd_same, by decide, by decide, by show 1 * 0 ≤ sizeLine; omega, fun R hR => ⟨q, R, ys, _, rfl, rfl, Same.updf hR _ _ (sL _ _ hq5), upd_same, ?_, fun p hp => ?_⟩⟩
        · show ys.length + 0 ≤ sizeLine
          omega
        have sA : Same H5 (upd (upd (upd H5 L (.lst [.ref D])) R (.lst (List.replicate (0 : Int).toNat [V.ref D]).flatten)) p (.lst (ys ++ (List.replicate (0 : Int).toNat [V.ref D]).flatten))) := sL.trans ((Same.updf hR).trans (Same.updf hp))
        have np : p ≠ pu := fresh_ne (P5.same (sL.trans (Same.updf hR))) hp
        have pn : H p = none := bH5.none np (none_back (sL.trans (Same.updf hR)) hp)
        refine ⟨bH5.trans (But.of sA), P5'.same sA, p, ys, found, _, _, pn, ?_, paired_mono (fun _ _ h => h.same (off_but (But.of sA))) pf5, nd2, lf, tf, by omega, fun _ => List.length_pos_of_mem hm, rfl⟩
        rw [upd_same]
        exact congrArg (fun z => some (HO.lst z)) (List.append_nil ys)
      · rw [decide_eq_false hm]
        refine ⟨L, 1, _, rfl, rfl, upd_same, by decide, by decide, by show 1 * 1 ≤ sizeLine; omega, fun R hR => ⟨q, R, ys, _, rfl, rfl, Same.updf hR _ _ (sL _ _ hq5), upd_same, ?_, fun p hp => ?_⟩⟩
        · show ys.length + 1 ≤ sizeLine
          omega
        have sA : Same H5 (upd (upd (upd H5 L (.lst [.ref D])) R (.lst (List.replicate (1 : Int).toNat [V.ref D]).flatten)) p (.lst (ys ++ (List.replicate (1 : Int).toNat [V.ref D]).flatten))) := sL.trans ((Same.updf hR).trans (Same.updf hp))
        have np : p ≠ pu := fresh_ne (P5.same (sL.trans (Same.updf hR))) hp
        have pn : H p = none := bH5.none np (none_back (sL.trans (Same.updf hR)) hp)
        refine ⟨bH5.trans (But.of sA), P5'.same sA, p, ys ++ [.ref D], found ++ [page], _, _, pn, upd_same, paired_snoc (paired_mono (fun _ _ h => h.same (off_but (But.of sA))) pf5) ⟨D, rfl, ?_⟩, ?_, ?_, ?_, by rw [List.length_append, List.length_singleton]; omega, fun _ => by rw [List.length_append, List.length_singleton]; omega, rfl⟩
        · rw [KB.off_at nD]
          exact sA _ _ hz
        · refine List.nodup_append.mpr ⟨nd2, by simp, fun a ha b hb e => ?_⟩
          rw [List.mem_singleton.mp hb] at e
          exact hm (e ▸ ha)
        · intro r hr
          rcases List.mem_append.mp hr with hr | hr
          · exact lf r hr
          · rw [List.mem_singleton.mp hr]
            exact lpg
        · intro r hr
          rcases List.mem_append.mp hr with hr | hr
          · exact tf r hr
          · rw [List.mem_singleton.mp hr]
            exact tpg
    · rintro σ G ⟨bG, PG, q, ys, found, v4, v5, nq, hq, pf, nd2, lf, tf, ff, of, rfl⟩
      have gd := random_good (m := 1 + r1) (by omega) (by omega) nd2 (of (by omega)) (by omega) lf tf
      have ly := pf.length
      have nq2 : q ≠ pu := fresh_ne hP nq
      have of1 := of (by omega)
      obtain ⟨r0, rest, rfl⟩ : ∃ r0 rest, found = r0 :: rest := by
        cases found with
        | nil => simp at of1
        | cons r0 rest => exact ⟨_, _, rfl⟩
      obtain ⟨y0, yt, rfl⟩ : ∃ y0 yt, ys = y0 :: yt := by
        cases ys with
        | nil => cases ly
        | cons y0 yt => exact ⟨_, _, rfl⟩
      obtain ⟨T0, e0, hT0⟩ : LsAt (KB.off G pu) r0 y0 := by
        cases pf with
        | cons h _ => exact h
      subst e0
      have hT1 := (off_some hT0).2
      have l0 := lf r0 List.mem_cons_self
      refine ⟨_, rfl, _, rfl, q, _, rfl, SqL.of hq, fun S hS => ?_⟩
      rw [show cutV (V.ref T0 :: yt) none (some 1) = [V.ref T0] from cut_n (V.ref T0 :: yt) 1]
      have sS := Same.updf (o := .lst [V.ref T0]) hS
      refine ⟨S, rfl, ⟨_, SqL.of upd_same⟩, fun D hD => ?_⟩
      have hSS : upd G S (.lst [V.ref T0]) S = some (.lst [V.ref T0]) := upd_same
      generalize upd G S (.lst [V.ref T0]) = G1 at sS hSS hD ⊢
      refine lc_rel (n := 1) (walk_list (K := K) (a := S) (xs := [V.ref T0])) (fun _ => true) (fun _ y G2 => LsAt (KB.off G2 pu) (r0.map (· + 1)) y) (fun _ y G2 G3 s h => h.same (KB.off_same pu s)) (by decide) hD (fun G2 s => SqL.of (s _ _ hSS)) ?_ ?_
      · rintro t x G2 G3 Qy Qn ht s2 hacc ⟨rfl, hv⟩ ky kn
        obtain ⟨acc, hacc⟩ := hacc
        obtain rfl : t = 0 := by omega
        cases hv
        refine ⟨rfl, _, rfl, T0, rfl, ⟨_, SqL.of (s2 _ _ (sS _ _ hT1))⟩, fun D2 hD2 => ?_⟩
        have nD2 : D2 ≠ D := fun z => by rw [z, hacc] at hD2; cases hD2
        refine lc_sel (n := r0.length) (by have := walk_list (K := K) (a := T0) (xs := numsV r0); rw [numsV_len] at this; exact this) (fun x => some (.int ((r0.getD x 0 + 1 : Nat) : Int))) (by omega) hD2 (fun G4 s4 => SqL.of (s4 _ _ (s2 _ _ (sS _ _ hT1)))) ?_ ?_
        · rintro x v G4 G5 Qy2 Qn2 hx s5 ⟨rfl, hv⟩ ky2 kn2
          obtain ⟨hx2, rfl⟩ := numsV_at hv
          refine ⟨rfl, _, rfl, _, _, rfl, rfl, ky2 _ _ (Same.refl _) ?_⟩
          rw [List.getD_eq_getElem?_getD, List.getElem?_eq_getElem hx2]
          rfl
        · intro G4 s4 hR4
          refine ky _ _ rfl s4 ⟨D2, rfl, ?_⟩
          rw [KB.off_at (fresh_ne ((PG.same sS).same s2) hD2), KB.off_at nD2, hR4]
          rw [List.filterMap_eq_map']
          have e0 : r0 = (List.range r0.length).map fun k => r0.getD k 0 := by
            refine List.ext_getElem (by simp) fun k h1 h2 => ?_
            simp [h1]
          conv => rhs; rw [e0]
          rw [List.map_map, List.map_map]
          rfl
      intro G2 zs s2 hz pz
      have sG2 := sS.trans s2
      have pz2 : Paired (LsAt (KB.off (KB.off G2 D) pu)) [r0.map (· + 1)] zs := by
        cases pz with
        | cons h t => cases t with
          | nil => exact .cons h .nil
      have lz : zs.length = 1 := pz2.length.symm
      have hq2 := sG2 _ _ hq
      refine ⟨_, rfl, q, _, rfl, .inl (SqL.of hq2), _, _, rfl, rfl, ?_⟩
      have bG2 := bG.trans (But.of sG2)
      have PG2 := PG.same sG2
      have pf2 : Paired (LsAt (KB.off G2 pu)) (r0 :: rest) (V.ref T0 :: yt) := paired_mono (fun _ _ h => h.same (off_but (But.of sG2))) pf
      have nD : D ≠ pu := fresh_ne (PG.same sS) hD
      by_cases h2 : (r0 :: rest).length < 2
      · rw [if_pos h2] at gd
        refine ⟨_, rfl, itB (c := true) (decide_eq_true (by omega)) (fun _ => ?_) (fun z => by cases z)⟩
        refine ⟨_, rfl, _, rfl, q, D, _, _, rfl, rfl, hq2, hz, by omega, fun p hp => ?_⟩
        have sp := Same.updf (o := .lst ((V.ref T0 :: yt) ++ zs)) hp
        have np : p ≠ pu := fresh_ne PG2 hp
        refine k p _ _ _ (bG2.trans (But.of sp)) ((PG2.same sp).mono (by omega)) (bG2.none np hp) ⟨(V.ref T0 :: yt) ++ zs, by rw [KB.off_at np, upd_same], ?_⟩ gd
        refine paired_app (paired_mono (fun _ _ h => h.same (off_but (But.of sp))) pf2) ?_
        refine paired_mono (fun x y h => ?_) pz2
        obtain ⟨Z, e, hZ⟩ := h
        subst e
        refine ⟨Z, rfl, ?_⟩
        obtain ⟨zp, z1⟩ := off_some hZ
        obtain ⟨z1, z2⟩ := off_some z1
        rw [KB.off_at zp]
        exact sp _ _ z2
      · rw [if_neg h2] at gd
        refine ⟨_, rfl, itB (c := false) (decide_eq_false (by omega)) (fun z => by cases z) (fun _ => ?_)⟩
        exact ⟨_, rfl, k q _ _ _ bG2 (PG2.mono (by omega)) nq ⟨_, by rw [KB.off_at nq2]; exact hq2, pf2⟩ gd⟩
end
end K06
set_option Elab.async false
set_option linter.all false
set_option maxRecDepth 100000
set_option maxHeartbeats 8000000
/-! A drawn code. -/
namespace K06
open PySem PySem.Spec PyProof.Rows L2 KB
theorem paired_take {α β : Type} {R : α → β → Prop} : ∀ {xs : List α} {ys : List β}, Paired R xs ys → ∀ n, Paired R (xs.take n) (ys.take n)
  | _, _, .nil, n => by rw [List.take_nil, List.take_nil]; exact .nil
  | _, _, .cons _ _, 0 => .nil
  | _, _, .cons h t, n + 1 => .cons h (paired_take t n)
abbrev s_one_of := sOne
abbrev s_purses := sPurses
def spDrawnC : Sp := fun vs H Q _ => ∃ (pu : Addr) (N : Nat), vs = [.ref pu] ∧ Purse H pu N ∧ N + 1000 ≤ 2 ^ 38 ∧ ∀ q c m H', But pu H H' → Purse H' pu (N + 200) → H q = none → CodeAt (KB.off H' pu) q c → Drawn c m → Q (.ref q) H'
section
variable {P : Program} {w : World} {K : PySem.W.Frag} {mg : Str → Option Value} {base : Heap}
abbrev s_drawn_code : Stmt := top 42
abbrev N_drawn_code : List Str := ["_law_purse_here", "_law_way", "_law_prime", "_law_numbers", "_law_cells", "_law_pages", "_law_code", "_law_number", "_law_sign"]
theorem sc_drawn_code : FnScope N_drawn_code ["_law_purse_here"] (defScope s_drawn_code) := ⟨rfl, rfl, rfl, by decide +kernel, rfl, by decide +kernel, by decide +kernel⟩
theorem ok_drawn_code {f : Addr} {fd : FuncData} (F : FnP K "_law_drawn_code" s_drawn_code f fd) (Z : FreeS mg)
    {f_draw : Addr} {d_draw : FuncData} (g_draw : mg "_law_draw" = some (.ref f_draw)) (F_draw : FnP K "_law_draw" s_draw f_draw d_draw) (G_draw : FnOk P w K mg base CX0 2 f_draw d_draw ["_law_purse_here", "_law_many"] drawI)
    {f_turned_cells : Addr} {d_turned_cells : FuncData} (g_turned_cells : mg "_law_turned_cells" = some (.ref f_turned_cells)) (F_turned_cells : FnP K "_law_turned_cells" s_turned_cells f_turned_cells d_turned_cells) (G_turned_cells : FnOk P w K mg base CX0 4 f_turned_cells d_turned_cells ["_law_purse_here", "_law_code", "_law_most"] spTurned)
    {f_random_code : Addr} {d_random_code : FuncData} (g_random_code : mg "_law_random_code" = some (.ref f_random_code)) (F_random_code : FnP K "_law_random_code" s_random_code f_random_code d_random_code) (G_random_code : FnOk P w K mg base CX0 3 f_random_code d_random_code ["_law_purse_here"] spRandom)
    {f_one_of : Addr} {d_one_of : FuncData} (g_one_of : mg "_law_one_of" = some (.ref f_one_of)) (F_one_of : FnP K "_law_one_of" s_one_of f_one_of d_one_of) (G_one_of : FnOk P w K mg base CX0 3 f_one_of d_one_of ["_law_purse_here", "_law_some"] (spOne K))
    {f_shuffled : Addr} {d_shuffled : FuncData} (g_shuffled : mg "_law_shuffled" = some (.ref f_shuffled)) (F_shuffled : FnP K "_law_shuffled" s_shuffled f_shuffled d_shuffled) (G_shuffled : FnOk P w K mg base CX0 3 f_shuffled d_shuffled ["_law_purse_here", "_law_some"] (spShuffled K))
    {f_line_page : Addr} {d_line_page : FuncData} (g_line_page : mg "_law_line_page" = some (.ref f_line_page)) (F_line_page : FnP K "_law_line_page" s_line_page f_line_page d_line_page) (G_line_page : FnOk P w K mg base CX0 1 f_line_page d_line_page ["_law_number", "_law_prime", "_law_cells"] spLineP) :
    FnOk P w K mg base CX0 5 f fd ["_law_purse_here"] spDrawnC := by
  have b_draw : Binds K d_draw ["_law_purse_here", "_law_many"] [] := F_draw.bindsN fun _ _ _ _ _ _ us hl => match us, hl with | [_, _], _ => rfl
  have b_turned_cells : Binds K d_turned_cells ["_law_purse_here", "_law_code", "_law_most"] [] := F_turned_cells.bindsN fun _ _ _ _ _ _ us hl => match us, hl with | [_, _, _], _ => rfl
  have b_random_code : Binds K d_random_code ["_law_purse_here"] [] := F_random_code.bindsN fun _ _ _ _ _ _ us hl => match us, hl with | [_], _ => rfl
  have b_one_of : Binds K d_one_of ["_law_purse_here", "_law_some"] [] := F_one_of.bindsN fun _ _ _ _ _ _ us hl => match us, hl with | [_, _], _ => rfl
  have b_shuffled : Binds K d_shuffled ["_law_purse_here", "_law_some"] [] := F_shuffled.bindsN fun _ _ _ _ _ _ us hl => match us, hl with | [_, _], _ => rfl
  have b_line_page : Binds K d_line_page ["_law_number", "_law_prime", "_law_cells"] [] := F_line_page.bindsN fun _ _ _ _ _ _ us hl => match us, hl with | [_, _, _], _ => rfl
  refine F.ok sc_drawn_code (fun vs H Q E h => ?_) (fun cdv A outer s H vs Q E hr h => ?_)
  · obtain ⟨pu, N, rfl, _⟩ := h
    rfl
  · obtain ⟨pu, N, rfl, hP, hN, k⟩ := h
    have sl : (1000 : Nat) < sizeLine := by decide
    have nd := sc_drawn_code.nd
    refine ⟨_, PSs.nox (pss_cons (ps_set (i := 1) nd rfl (Or.inl rfl) (pe_call G_draw (hr.mono (by decide)) rfl g_draw F_draw.kp b_draw .nil pass0 (pa_cons (pv 0) (pa_cons (pe_int) (pa_nil)))))
      (pss_cons (ps_if (pt_cmpR op_lt (pv 1) (pe_int) (nomark _)) (pss_one (ps_ret (pe_call G_random_code (hr.mono (by decide)) rfl g_random_code F_random_code.kp b_random_code .nil pass0 (pa_cons (pv 0) (pa_nil))))) (pss_nil))
      (pss_cons (ps_if (pt_cmpR op_lt (pv 1) (pe_int) (nomark _)) (pss_cons (ps_set (i := 2) nd rfl (Or.inr rfl) (pe_call G_one_of (hr.mono (by decide)) rfl g_one_of F_one_of.kp b_one_of .nil pass0 (pa_cons (pv 0) (pa_cons (pe_lst (pa_cons (pe_int) (pa_cons (pe_int) (pa_nil)))) (pa_nil)))))
      (pss_cons (ps_set (i := 3) nd rfl (Or.inl rfl) (pe_slice sl_list (pe_call G_shuffled (hr.mono (by decide)) rfl g_shuffled F_shuffled.kp b_shuffled .nil pass0 (pa_cons (pv 0) (pa_cons (pe_listRg rfl (by rfl) Z.tlist (prg_1 (by rfl) Z.range (pe_op op_mul (pv 2) (pv 2)))) (pa_nil)))) (po_none) (po_some (pe_op op_add (pe_int) (pe_call G_draw (hr.mono (by decide)) rfl g_draw F_draw.kp b_draw .nil pass0 (pa_cons (pv 0) (pa_cons (pe_int) (pa_nil))))))))
      (pss_cons (ps_set (i := 4) nd rfl (Or.inr rfl) (pe_op op_sub (pv 2) (pe_call G_draw (hr.mono (by decide)) rfl g_draw F_draw.kp b_draw .nil pass0 (pa_cons (pv 0) (pa_cons (pe_op op_sub (pv 2) (pe_int)) (pa_nil))))))
      (pss_cons (ps_setLc (i := 5) (own := [("_law_number", 7)]) (g := gName 7) (tt := tYes) (te := tCall spLineP [] E0 (tCons (tVar 7) (tCons (tVar 2) (tCons (tVar 4) (tNil))))) (by rfl) nd rfl rfl rfl (pi_list (pv 3))
          (blkOk_by (own := [("_law_number", 7)]) (N := N_drawn_code) (sc := defScope s_drawn_code) (by decide +kernel)) (fun _ _ _ _ _ => pg_name (i := 7) nd rfl (Or.inl rfl)) (fun _ _ _ _ _ => pts_nil)
          (fun _ _ _ _ _ => pe_call G_line_page (hr.mono (by decide)) rfl g_line_page F_line_page.kp b_line_page .nil pass0 (pa_cons (pv 7) (pa_cons (pv 2) (pa_cons (pv 4) (pa_nil))))))
      (pss_one (ps_ret (pe_ifExp (pt_cmpR op_eq (pv 1) (pe_int) (nomark _)) (pv 5) (pe_call G_turned_cells (hr.mono (by decide)) rfl g_turned_cells F_turned_cells.kp b_turned_cells .nil pass0 (pa_cons (pv 0) (pa_cons (pv 5) (pa_cons (pv 2) (pa_nil)))))))))))) (pss_nil))
      (pss_cons (ps_if (pt_cmpR op_eq (pv 1) (pe_int) (nomark _)) (pss_cons (ps_set (i := 4) nd rfl (Or.inr rfl) (pe_op op_add (pe_int) (pe_call G_draw (hr.mono (by decide)) rfl g_draw F_draw.kp b_draw .nil pass0 (pa_cons (pv 0) (pa_cons (pe_int) (pa_nil))))))
      (pss_one (ps_ret (pe_lc (own := [("_law_sign", 8)]) (g := gName 8) (tt := tYes) (by rfl) nd (pi_range1 (by rfl) Z.range (pa_cons (pe_op op_add (pe_int) (pe_call G_draw (hr.mono (by decide)) rfl g_draw F_draw.kp b_draw .nil pass0 (pa_cons (pv 0) (pa_cons (pe_int) (pa_nil))))) (pa_nil)))
          (blkOk_by (own := [("_law_sign", 8)]) (N := N_drawn_code) (sc := defScope s_drawn_code) (by decide +kernel)) (fun _ _ _ _ _ => pg_name (i := 8) nd rfl (Or.inl rfl)) (fun _ _ _ _ _ => pts_nil)
          (fun _ _ _ _ _ => pe_op op_rep (pe_lst (pa_cons (pv 8) (pa_nil))) (pv 4)))))) (pss_nil))
      (pss_cons (ps_set (i := 6) nd rfl (Or.inl rfl) (pe_lst (pa_cons (pe_lst (pa_cons (pe_int) (pa_cons (pe_int) (pa_cons (pe_int) (pa_nil))))) (pa_cons (pe_lst (pa_cons (pe_int) (pa_cons (pe_int) (pa_cons (pe_int) (pa_nil))))) (pa_cons (pe_lst (pa_cons (pe_int) (pa_cons (pe_int) (pa_cons (pe_int) (pa_nil))))) (pa_cons (pe_lst (pa_cons (pe_int) (pa_cons (pe_int) (pa_cons (pe_int) (pa_nil))))) (pa_nil)))))))
      (pss_cons (ps_set (i := 6) nd rfl (Or.inl rfl) (pe_ifExp (pt_cmpR op_eq (pv 1) (pe_int) (nomark _)) (pe_slice sl_list (pv 6) (po_none) (po_some (pe_op op_add (pe_int) (pe_call G_draw (hr.mono (by decide)) rfl g_draw F_draw.kp b_draw .nil pass0 (pa_cons (pv 0) (pa_cons (pe_int) (pa_nil))))))) (pv 6)))
      (pss_one (ps_ret (pe_call G_turned_cells (hr.mono (by decide)) rfl g_turned_cells F_turned_cells.kp b_turned_cells .nil pass0 (pa_cons (pv 0) (pa_cons (pv 6) (pa_cons (pe_int) (pa_nil))))))))))))), ?_⟩
    refine ⟨_, rfl, draw_ok (by decide) (by decide) hP (by omega) (fun r1 H1 l1 b1 P1 => ?_)⟩
    refine ⟨_, rfl, _, _, rfl, rfl, ?_⟩
    by_cases h3 : r1 < 3
    · refine ⟨_, rfl, itB (c := true) (decide_eq_true (by omega)) (fun _ => ?_) (fun z => by cases z)⟩
      exact ⟨_, rfl, pu, N + 1, rfl, P1, by omega, fun q c m H2 b2 P2 n2 hc g => k q c m H2 (b1.trans b2) (P2.mono (by omega)) (b1.none (fresh_ne P1 n2) n2) hc g⟩
    refine ⟨_, rfl, itB (c := false) (decide_eq_false (by omega)) (fun z => by cases z) (fun _ => ?_)⟩
    refine ⟨_, rfl, _, _, rfl, rfl, ?_⟩
    by_cases h5 : r1 < 5
    · refine ⟨_, rfl, itB (c := true) (decide_eq_true (by omega)) (fun _ => ?_) (fun z => by cases z)⟩
      refine ⟨_, rfl, (by show 2 ≤ sizeLine; omega), fun L hL => ?_⟩
      have sL := Same.updf (o := .lst [.int 5, .int 7]) hL
      have PL := P1.same sL
      refine ⟨pu, L, [.int 5, .int 7], N + 1, rfl, fresh_ne P1 hL, SqL.of upd_same, by decide, by decide, PL, by omega, fun x H2 hx b2 P2 => ?_⟩
      obtain ⟨pr, rfl, hpr⟩ : ∃ pr : Nat, x = .int (pr : Int) ∧ (pr = 5 ∨ pr = 7) := by
        rcases List.mem_cons.mp hx with rfl | hx
        · exact ⟨5, rfl, .inl rfl⟩
        · rw [List.mem_singleton.mp hx]
          exact ⟨7, rfl, .inr rfl⟩
      have b02 := b1.trans ((But.of sL).trans b2)
      have pp : pr * pr ≤ 49 := by rcases hpr with rfl | rfl <;> decide
      have ppI : (pr : Int) * (pr : Int) = ((pr * pr : Nat) : Int) := (Int.natCast_mul pr pr).symm
      clear hx b2 PL sL hL
      refine ⟨_, rfl, _, rfl, _, rfl, _, _, rfl, rfl, .inl ⟨by omega, by omega⟩, _, rfl, ?_⟩
      dsimp only
      rw [ppI]
      refine ⟨RgOk.of_le (by omega) (by omega) (by omega) (by omega), fun R hR => ?_⟩
      rw [rgV_nat]
      have sR := Same.updf (o := .lst (numsV (List.range (pr * pr)))) hR
      have nR : R ≠ pu := fresh_ne P2 hR
      refine ⟨pu, R, N + 1 + 1, numsV (List.range (pr * pr)), rfl, P2.same sR, by rw [numsV_len, List.length_range]; omega, nR, upd_same, by rw [numsV_len, List.length_range]; omega, fun q1 L1 H3 b3 P3 n3 e3 p3 => ?_⟩
      obtain ⟨ns, rfl, pns⟩ := nums_perm p3
      rw [numsV_len, List.length_range] at P3
      have lns : ns.length = pr * pr := by rw [pns.length_eq, List.length_range]
      have nq1 : q1 ≠ pu := fresh_ne (P2.same sR) n3
      have b03 := b02.trans ((But.of sR).trans b3)
      have pp2 : 25 ≤ pr * pr := by rcases hpr with rfl | rfl <;> decide
      clear b3 hR sR nR p3
      refine ⟨_, rfl, draw_ok (by decide) (by decide) P3 (by omega) (fun r5 H5 l5 b5 P5 => ⟨_, _, rfl, rfl, _, rfl, q1, _, rfl, SqL.of (b5 _ _ nq1 e3), fun S hS => ?_⟩)⟩
      rw [show ((3 : Int) + (r5 : Int)) = ((3 + r5 : Nat) : Int) by omega, cut_n, show (numsV ns).take (3 + r5) = numsV (ns.take (3 + r5)) from List.map_take.symm]
      have nd3 : (ns.take (3 + r5)).Nodup := (pns.nodup_iff.mpr List.nodup_range).sublist (List.take_sublist _ _)
      have lt3 : ∀ n ∈ ns.take (3 + r5), n < pr * pr := fun n hn => List.mem_range.mp (pns.mem_iff.mp (List.mem_of_mem_take hn))
      have ln3 : (ns.take (3 + r5)).length = 3 + r5 := by rw [List.length_take]; omega
      generalize ns.take (3 + r5) = ms at nd3 lt3 ln3 ⊢
      have sS := Same.updf (o := .lst (numsV ms)) hS
      have nS : S ≠ pu := fresh_ne P5 hS
      have hSS : upd H5 S (.lst (numsV ms)) S = some (.lst (numsV ms)) := upd_same
      have b05 := b03.trans (b5.trans (But.of sS))
      have P6 := P5.same sS
      generalize upd H5 S (.lst (numsV ms)) = H6 at sS hSS b05 P6 ⊢
      clear b5 P5 hS sS P3 e3
      refine ⟨_, rfl, _, rfl, _, rfl, _, _, rfl, rfl, draw_ok (by omega) (by omega) P6 (by omega) (fun r7 H7 l7 b7 P7 => ⟨_, _, rfl, rfl, ?_⟩)⟩
      have b07 := b05.trans b7
      have hS7 := b7 _ _ nS hSS
      obtain ⟨m, em, m5, m7⟩ : ∃ m : Nat, (pr : Int) - (r7 : Int) = (m : Int) ∧ 2 ≤ m ∧ m ≤ 7 := ⟨pr - r7, by omega, by omega, by omega⟩
      have gd := line_good hpr m5 m7 nd3 lt3 (by omega) (by omega)
      dsimp only
      rw [em]
      refine ⟨_, rfl, S, rfl, ⟨_, SqL.of hS7⟩, fun D hD => ?_⟩
      have nD : D ≠ pu := fresh_ne P7 hD
      refine lc_rel (n := ms.length) (by have := walk_list (K := K) (a := S) (xs := numsV ms); rw [numsV_len] at this; exact this) (fun _ => true) (fun i y G => LsAt (KB.off G pu) (lineP (ms.getD i 0) pr m) y) (fun _ y G2 G3 s h => h.same (KB.off_same pu s)) (by omega) hD (fun G2 s => SqL.of (s _ _ hS7)) ?_ ?_
      · rintro i v G2 G3 Qy Qn hi s2 hacc ⟨rfl, hv⟩ ky kn
        obtain ⟨acc, hacc⟩ := hacc
        obtain ⟨hi2, rfl⟩ := numsV_at hv
        have := lt3 _ (List.getElem_mem hi2)
        refine ⟨rfl, _, rfl, _, rfl, _, rfl, ms[i], pr, m, rfl, by omega, by omega, by omega, by omega, fun q G4 s4 nq hq => ky _ _ rfl s4 ⟨q, rfl, ?_⟩⟩
        have nqD : q ≠ D := fun z => by rw [z, hacc] at nq; cases nq
        rw [KB.off_at (fresh_ne (P7.same s2) nq), KB.off_at nqD, hq, List.getD_eq_getElem?_getD, List.getElem?_eq_getElem hi2]
        rfl
      intro G2 zs s2 hz pz
      have bG2 := b07.trans (But.of s2)
      have PG2 := P7.same s2
      have hc : CodeAt (KB.off G2 pu) D (ms.map fun n => lineP n pr m) := by
        refine ⟨zs, by rw [KB.off_at nD]; exact hz, ?_⟩
        have e0 : (ms.map fun n => lineP n pr m) = ((List.range ms.length).filter fun _ => true).map fun i => lineP (ms.getD i 0) pr m := by
          rw [List.filter_eq_self.mpr (fun _ _ => rfl)]
          refine List.ext_getElem (by simp) fun k h1 h2 => ?_
          simp only [List.getElem_map, List.getElem_range]
          rw [List.getD_eq_getElem?_getD, List.getElem?_eq_getElem (by simpa using h1)]
          rfl
        rw [e0]
        exact paired_mapG (paired_mono (fun _ _ h => h.same (KB.off_same pu (off_le G2 D))) pz)
      refine ⟨_, rfl, rfl, _, rfl, ?_⟩
      have nHD : H D = none := b07.none nD hD
      by_cases h33 : r1 = 3
      · refine itB (c := true) (decide_eq_true (by rw [h33]; rfl)) (fun _ => ?_) (fun z => by cases z)
        exact ⟨_, rfl, k D _ _ _ bG2 (PG2.mono (by omega)) nHD hc gd⟩
      · refine itB (c := false) (decide_eq_false (fun z => h33 (by have := V.int.inj z; omega))) (fun z => by cases z) (fun _ => ?_)
        refine ⟨_, rfl, _, rfl, _, rfl, pu, D, _, m, pr, _, rfl, PG2, by omega, hc, gd, fun r hr x hx => ?_, by omega, fun q c' H' bH PH nq hc' gd' => k q c' m H' (bG2.trans bH) (PH.mono (by omega)) (bG2.none (fresh_ne PG2 nq) nq) hc' gd'⟩
        obtain ⟨n, _, rfl⟩ := List.mem_map.mp hr
        exact lineP_lt (by omega) x hx
    refine ⟨_, rfl, itB (c := false) (decide_eq_false (by omega)) (fun z => by cases z) (fun _ => ?_)⟩
    refine ⟨_, rfl, rfl, _, rfl, ?_⟩
    by_cases h55 : r1 = 5
    · refine itB (c := true) (decide_eq_true (by rw [h55]; rfl)) (fun _ => ?_) (fun z => by cases z)
      refine ⟨_, rfl, draw_ok (by decide) (by decide) P1 (by omega) (fun r2 H2 l2 b2 P2 => ⟨_, _, rfl, rfl, ?_⟩)⟩
      refine ⟨_, rfl, draw_ok (by decide) (by decide) P2 (by omega) (fun r3 H3 l3 b3 P3 => ⟨_, _, rfl, rfl, _, rfl, by omega, by omega, fun D hD => ?_⟩)⟩
      rw [show ((2 : Int) + (r3 : Int)).toNat = 2 + r3 by omega]
      have b03 := b1.trans (b2.trans b3)
      have nD : D ≠ pu := fresh_ne P3 hD
      refine lc_rel (n := 2 + r3) (walk_range (lo := 0) (n := 2 + r3)) (fun _ => true) (fun i y G => LsAt (KB.off G pu) (List.replicate (1 + r2) i) y) (fun _ y G2 G3 s h => h.same (KB.off_same pu s)) (by omega) hD (fun G2 s => trivial) ?_ ?_
      · rintro i v G2 G3 Qy Qn hi s2 hacc ⟨rfl, rfl⟩ ky kn
        obtain ⟨acc, hacc⟩ := hacc
        refine ⟨rfl, _, rfl, (by show 1 ≤ sizeLine; omega), fun L hL => ⟨_, rfl, L, (1 + (r2 : Int)), _, rfl, rfl, upd_same, by omega, by omega, ?_, fun R hR => ky _ _ rfl ((Same.updf hL).trans (Same.updf hR)) ⟨R, rfl, ?_⟩⟩⟩
        · show 1 * (1 + (r2 : Int)).toNat ≤ sizeLine
          omega
        have nRD : R ≠ D := fun z => by rw [z, Same.updf hL _ _ hacc] at hR; cases hR
        rw [KB.off_at (fresh_ne ((P3.same s2).same (Same.updf hL)) hR), KB.off_at nRD, upd_same]
        rw [show (1 + (r2 : Int)).toNat = 1 + r2 by omega, show (fun i : Nat => V.int (0 + (i : Int))) i = V.int (i : Int) from congrArg V.int (by omega)]
        refine congrArg (fun z => some (HO.lst z)) ?_
        rw [List.map_replicate]
        generalize 1 + r2 = z
        induction z with
        | zero => rfl
        | succ z ih => rw [List.replicate_succ, List.flatten_cons, ih, List.replicate_succ]; rfl
      intro G2 zs s2 hz pz
      have bG2 := b03.trans (But.of s2)
      have PG2 := P3.same s2
      refine k D _ _ _ bG2 (PG2.mono (by omega)) (b03.none nD hD) ⟨zs, by rw [KB.off_at nD]; exact hz, ?_⟩ (alike_good (n := 2 + r3) (m := 1 + r2) (by omega) (by omega) (by omega) (by omega))
      have e0 : ((List.range (2 + r3)).map fun s => List.replicate (1 + r2) s) = ((List.range (2 + r3)).filter fun _ => true).map fun i => List.replicate (1 + r2) i := by
        rw [List.filter_eq_self.mpr (fun _ _ => rfl)]
      rw [e0]
      exact paired_mapG (paired_mono (fun _ _ h => h.same (KB.off_same pu (off_le G2 D))) pz)
    refine itB (c := false) (decide_eq_false (fun z => h55 (by have := V.int.inj z; omega))) (fun z => by cases z) (fun _ => ?_)
    refine ⟨(by show 3 ≤ sizeLine; omega), fun a1 h1 => ⟨(by show 3 ≤ sizeLine; omega), fun a2 h2 => ⟨(by show 3 ≤ sizeLine; omega), fun a3 h3' => ⟨(by show 3 ≤ sizeLine; omega), fun a4 h4 => ⟨(by show 4 ≤ sizeLine; omega), fun D hD => ?_⟩⟩⟩⟩⟩
    have s1 := Same.updf (o := .lst [.int 0, .int 0, .int 0]) h1
    have e1 : upd H1 a1 (.lst [.int 0, .int 0, .int 0]) a1 = some (.lst (numsV [0, 0, 0])) := upd_same
    generalize upd H1 a1 (.lst [.int 0, .int 0, .int 0]) = H2 at s1 e1 h2 h3' h4 hD ⊢
    have s2 := Same.updf (o := .lst [.int 0, .int 1, .int 1]) h2
    have e2 : upd H2 a2 (.lst [.int 0, .int 1, .int 1]) a2 = some (.lst (numsV [0, 1, 1])) := upd_same
    generalize upd H2 a2 (.lst [.int 0, .int 1, .int 1]) = H3 at s2 e2 h3' h4 hD ⊢
    have s3 := Same.updf (o := .lst [.int 1, .int 0, .int 2]) h3'
    have e3 : upd H3 a3 (.lst [.int 1, .int 0, .int 2]) a3 = some (.lst (numsV [1, 0, 2])) := upd_same
    generalize upd H3 a3 (.lst [.int 1, .int 0, .int 2]) = H4 at s3 e3 h4 hD ⊢
    have s4 := Same.updf (o := .lst [.int 2, .int 2, .int 0]) h4
    have e4 : upd H4 a4 (.lst [.int 2, .int 2, .int 0]) a4 = some (.lst (numsV [2, 2, 0])) := upd_same
    generalize upd H4 a4 (.lst [.int 2, .int 2, .int 0]) = H5 at s4 e4 hD ⊢
    have s5 := Same.updf (o := .lst [.ref a1, .ref a2, .ref a3, .ref a4]) hD
    have e5 : upd H5 D (.lst [.ref a1, .ref a2, .ref a3, .ref a4]) D = some (.lst [.ref a1, .ref a2, .ref a3, .ref a4]) := upd_same
    generalize upd H5 D (.lst [.ref a1, .ref a2, .ref a3, .ref a4]) = H6 at s5 e5 ⊢
    have n1 : a1 ≠ pu := fresh_ne P1 h1
    have n2 : a2 ≠ pu := fresh_ne (P1.same s1) h2
    have n3 : a3 ≠ pu := fresh_ne ((P1.same s1).same s2) h3'
    have n4 : a4 ≠ pu := fresh_ne (((P1.same s1).same s2).same s3) h4
    have nD : D ≠ pu := fresh_ne ((((P1.same s1).same s2).same s3).same s4) hD
    have sA := s1.trans (s2.trans (s3.trans (s4.trans s5)))
    have P6 := P1.same sA
    have b06 := b1.trans (But.of sA)
    have pw : Paired (LsAt (KB.off H6 pu)) written [V.ref a1, V.ref a2, V.ref a3, V.ref a4] :=
      .cons ⟨a1, rfl, by rw [KB.off_at n1]; exact s5 _ _ (s4 _ _ (s3 _ _ (s2 _ _ e1)))⟩ (.cons ⟨a2, rfl, by rw [KB.off_at n2]; exact s5 _ _ (s4 _ _ (s3 _ _ e2))⟩ (.cons ⟨a3, rfl, by rw [KB.off_at n3]; exact s5 _ _ (s4 _ _ e3)⟩ (.cons ⟨a4, rfl, by rw [KB.off_at n4]; exact s5 _ _ e4⟩ .nil)))
    clear e1 e2 e3 e4 s1 s2 s3 s4 s5 h1 h2 h3' h4 hD
    have fin : ∀ (G : Hp) (X : Addr) (kk : Nat), But pu H G → Purse G pu (N + 2) → CodeAt (KB.off G pu) X (written.take kk) → 2 ≤ kk → kk ≤ 4 → spTurned [.ref pu, .ref X, .int ((3 : Nat) : Int)] G Q E := fun G X kk bG PG hc k2 k4 => by
      obtain ⟨gd, lt⟩ := written_good k2 k4
      exact ⟨pu, X, _, 3, 3, N + 2, rfl, PG, by omega, hc, gd, lt, by omega, fun q c' H' bH PH nq hc' gd' => k q c' 3 H' (bG.trans bH) (PH.mono (by omega)) (bG.none (fresh_ne PG nq) nq) hc' gd'⟩
    refine ⟨_, rfl, rfl, _, rfl, ?_⟩
    by_cases h77 : r1 = 7
    · refine itB (c := true) (decide_eq_true (by rw [h77]; rfl)) (fun _ => ?_) (fun z => by cases z)
      refine ⟨_, rfl, _, rfl, draw_ok (by decide) (by decide) P6 (by omega) (fun r2 H7 l2 b7 P7 => ⟨_, _, rfl, rfl, _, rfl, D, _, rfl, SqL.of (b7 _ _ nD e5), fun S hS => ?_⟩)⟩
      rw [show ((2 : Int) + (r2 : Int)) = ((2 + r2 : Nat) : Int) by omega, cut_n]
      have sS := Same.updf (o := .lst ([V.ref a1, V.ref a2, V.ref a3, V.ref a4].take (2 + r2))) hS
      refine ⟨_, rfl, _, rfl, fin _ S (2 + r2) ((b06.trans b7).trans (But.of sS)) ((P7.same sS).mono (by omega)) ⟨_, by rw [KB.off_at (fresh_ne P7 hS), upd_same], ?_⟩ (by omega) (by omega)⟩
      exact paired_take (paired_mono (fun _ _ h => (h.same (off_but b7)).same (off_but (But.of sS))) pw) _
    · refine itB (c := false) (decide_eq_false (fun z => h77 (by have := V.int.inj z; omega))) (fun z => by cases z) (fun _ => ?_)
      exact ⟨_, rfl, _, rfl, _, rfl, fin _ D 4 b06 (P6.mono (by omega)) ⟨_, by rw [KB.off_at nD]; exact e5, pw⟩ (by decide) (by decide)⟩
end
end K06
set_option Elab.async false
set_option linter.all false
set_option maxRecDepth 100000
set_option maxHeartbeats 8000000
/-! A picture that the law makes. -/
namespace K06
open PySem PySem.Spec PyProof.Rows L2 KB
theorem paired_numsR {R : Nat → Nat → Prop} : ∀ {is : List Nat} {ys : List V}, Paired (fun x y => ∃ v : Nat, y = V.int (v : Int) ∧ R x v) is ys → ∃ ns : List Nat, ys = numsV ns ∧ Paired R is ns
  | _, _, .nil => ⟨[], rfl, .nil⟩
  | _, _, .cons ⟨v, e, l⟩ t => by
    obtain ⟨ns, e1, e2⟩ := paired_numsR t
    exact ⟨v :: ns, by rw [e, e1]; rfl, .cons l e2⟩
theorem nums_oV (ns : List Nat) : numsV ns = (ns.map some).map oV := by
  unfold numsV
  rw [List.map_map]
  rfl
theorem ixN_nat {n j : Nat} (h : j < n) : ixN n (j : Int) = some j := by
  unfold ixN
  rw [if_pos (by omega), if_pos (by omega)]
  simp
def spSomePic : Sp := fun vs H Q _ => ∃ (pu a : Addr) (c : List (List Nat)) (m ch un N : Nat), vs = [.ref pu, .ref a, .int (ch : Int), .int (un : Int)] ∧ Purse H pu N ∧ N + 1000 ≤ 2 ^ 38 ∧ CodeAt (KB.off H pu) a c ∧ Drawn c m ∧ ch ≤ 2 ∧ un ≤ 2 ∧
  ∀ (q T : Addr) (i j : Nat) (os : List (Option Nat)) H', But pu H H' → Purse H' pu (N + 20) → H q = none → H T = none → H' q = some (.lst [.int (i : Int), .int (j : Int), .ref T]) → H' T = some (.lst (os.map oV)) → os.length = m → i < c.length → j < c.length → shB (c.getD i []) (c.getD j []) (some os) ch un = true → Q (.ref q) H'
section
variable {P : Program} {w : World} {K : PySem.W.Frag} {mg : Str → Option Value} {base : Heap}
abbrev s_some_picture : Stmt := top 49
abbrev N_some_picture : List Str := ["_law_purse_here", "_law_code", "_law_changed", "_law_unread", "_law_one", "_law_other", "_law_value", "_law_turn", "_law_at"]
theorem sc_some_picture : FnScope N_some_picture ["_law_purse_here", "_law_code", "_law_changed", "_law_unread"] (defScope s_some_picture) := ⟨rfl, rfl, rfl, by decide +kernel, rfl, by decide +kernel, by decide +kernel⟩
theorem ok_some_picture {f : Addr} {fd : FuncData} (F : FnP K "_law_some_picture" s_some_picture f fd) (Z : FreeS mg)
    {f_draw : Addr} {d_draw : FuncData} (g_draw : mg "_law_draw" = some (.ref f_draw)) (F_draw : FnP K "_law_draw" s_draw f_draw d_draw) (G_draw : FnOk P w K mg base CX0 2 f_draw d_draw ["_law_purse_here", "_law_many"] drawI)
    {f_one_of : Addr} {d_one_of : FuncData} (g_one_of : mg "_law_one_of" = some (.ref f_one_of)) (F_one_of : FnP K "_law_one_of" s_one_of f_one_of d_one_of) (G_one_of : FnOk P w K mg base CX0 3 f_one_of d_one_of ["_law_purse_here", "_law_some"] (spOne K)) :
    FnOk P w K mg base CX0 4 f fd ["_law_purse_here", "_law_code", "_law_changed", "_law_unread"] spSomePic := by
  have b_draw : Binds K d_draw ["_law_purse_here", "_law_many"] [] := F_draw.bindsN fun _ _ _ _ _ _ us hl => match us, hl with | [_, _], _ => rfl
  have b_one_of : Binds K d_one_of ["_law_purse_here", "_law_some"] [] := F_one_of.bindsN fun _ _ _ _ _ _ us hl => match us, hl with | [_, _], _ => rfl
  refine F.ok sc_some_picture (fun vs H Q E h => ?_) (fun cdv A outer s H vs Q E hr h => ?_)
  · obtain ⟨pu, a, c, m, ch, un, N, rfl, _⟩ := h
    rfl
  · obtain ⟨pu, a, c, m, ch, un, N, rfl, hP, hN, hc, g, c2, u2, k⟩ := h
    obtain ⟨xs, ha0, lx, hx⟩ := hc.at
    obtain ⟨na, ha⟩ := off_some ha0
    have g2 := g.two
    have g5 := g.five
    have mm := g.seven
    have m1 := g.cells
    have sl : (1000 : Nat) < sizeLine := by decide
    have nd := sc_some_picture.nd
    refine ⟨_, PSs.nox (pss_cons (ps_asg (pe_tup (pa_cons (pe_call G_draw (hr.mono (by decide)) rfl g_draw F_draw.kp b_draw .nil pass0 (pa_cons (pv 0) (pa_cons (pe_callB call_len_seq (by rfl) Z.len (by decide +kernel) (pa_cons (pv 1) (pa_nil))) (pa_nil)))) (pa_cons (pe_call G_draw (hr.mono (by decide)) rfl g_draw F_draw.kp b_draw .nil pass0 (pa_cons (pv 0) (pa_cons (pe_callB call_len_seq (by rfl) Z.len (by decide +kernel) (pa_cons (pv 1) (pa_nil))) (pa_nil)))) (pa_nil)))) (pg_tup rfl (pgs_cons (pg_name (i := 4) nd rfl (Or.inr rfl)) (pgs_cons (pg_name (i := 5) nd rfl (Or.inr rfl)) (pgs_nil)))))
      (pss_cons (ps_setLc (i := 6) (own := [("_law_at", 8)]) (g := gName 8) (tt := tYes) (te := tCall (spOne K) [] E0 (tCons (tVar 0) (tCons (tLst (tCons (tOp (rIxL K) (tOp (rIxL K) (tVar 1) (tVar 4)) (tVar 8)) (tCons (tOp (rIxL K) (tOp (rIxL K) (tVar 1) (tVar 5)) (tVar 8)) (tNil)))) (tNil)))) (by rfl) nd rfl rfl rfl (pi_range1 (by rfl) Z.range (pa_cons (pe_callB call_len_seq (by rfl) Z.len (by decide +kernel) (pa_cons (pe_ix ix_list (pv 1) (pe_int) (fun _ _ => rfl)) (pa_nil))) (pa_nil)))
          (blkOk_by (own := [("_law_at", 8)]) (N := N_some_picture) (sc := defScope s_some_picture) (by decide +kernel)) (fun _ _ _ _ _ => pg_name (i := 8) nd rfl (Or.inl rfl)) (fun _ _ _ _ _ => pts_nil)
          (fun _ _ _ _ _ => pe_call G_one_of (hr.mono (by decide)) rfl g_one_of F_one_of.kp b_one_of .nil pass0 (pa_cons (pv 0) (pa_cons (pe_lst (pa_cons (pe_ix ix_list (pe_ix ix_list (pv 1) (pv 4) (fun _ _ => rfl)) (pv 8) (fun _ _ => rfl)) (pa_cons (pe_ix ix_list (pe_ix ix_list (pv 1) (pv 5) (fun _ _ => rfl)) (pv 8) (fun _ _ => rfl)) (pa_nil)))) (pa_nil)))))
      (pss_cons (ps_for PassesOwn.never rfl (pi_range1 (by rfl) Z.range (pa_cons (pv 2) (pa_nil))) (pg_name (i := 7) nd rfl (Or.inl rfl))
        (pss_one (ps_asg (pe_call G_draw (hr.mono (by decide)) rfl g_draw F_draw.kp b_draw .nil pass0 (pa_cons (pv 0) (pa_cons (pe_int) (pa_nil)))) (pg_sub (pv 6) (pe_call G_draw (hr.mono (by decide)) rfl g_draw F_draw.kp b_draw .nil pass0 (pa_cons (pv 0) (pa_cons (pe_callB call_len_seq (by rfl) Z.len (by decide +kernel) (pa_cons (pv 6) (pa_nil))) (pa_nil)))) set_list))))
      (pss_cons (ps_for PassesOwn.never rfl (pi_range1 (by rfl) Z.range (pa_cons (pv 3) (pa_nil))) (pg_name (i := 7) nd rfl (Or.inl rfl))
        (pss_one (ps_asg (pe_non) (pg_sub (pv 6) (pe_call G_draw (hr.mono (by decide)) rfl g_draw F_draw.kp b_draw .nil pass0 (pa_cons (pv 0) (pa_cons (pe_callB call_len_seq (by rfl) Z.len (by decide +kernel) (pa_cons (pv 6) (pa_nil))) (pa_nil)))) set_list))))
      (pss_one (ps_ret (pe_lst (pa_cons (pv 4) (pa_cons (pv 5) (pa_cons (pv 6) (pa_nil))))))))))), ?_⟩
    refine ⟨_, rfl, _, rfl, a, _, rfl, .inl (SqL.of ha), draw_ok (by omega) (by omega) hP (by omega) (fun i H1 li b1 P1 => ?_)⟩
    refine ⟨_, rfl, _, rfl, a, _, rfl, .inl (SqL.of (b1 _ _ na ha)), draw_ok (by omega) (by omega) P1 (by omega) (fun j H2 lj b2 P2 => ⟨(by show 2 ≤ sizeLine; omega), fun T0 hT0 => ⟨T0, _, rfl, SqT.of upd_same, rfl, _, _, rfl, _, _, rfl, rfl, ?_⟩⟩)⟩
    have sT := Same.updf (o := .tup [.int (i : Int), .int (j : Int)]) hT0
    generalize upd H2 T0 (.tup [.int (i : Int), .int (j : Int)]) = H3 at sT ⊢
    have b03 := b1.trans (b2.trans (But.of sT))
    have P3 := P2.same sT
    clear b1 b2 P1 P2 hT0 sT
    have hx3 : ∀ (i : Nat) (hi : i < c.length), ∃ p, xs[i]? = some (.ref p) ∧ p ≠ pu ∧ H3 p = some (.lst (numsV c[i])) := fun i hi => by
      obtain ⟨p, f1, f2⟩ := hx i hi
      exact ⟨p, f1, (off_some f2).1, b03 _ _ (off_some f2).1 (off_some f2).2⟩
    obtain ⟨p0, z1, z0, z2⟩ := hx3 0 (by omega)
    have l0 := g.len _ (List.getElem_mem (show 0 < c.length by omega))
    obtain ⟨pi, i1, i0, i2⟩ := hx3 i (by omega)
    obtain ⟨pj, j1, j0, j2⟩ := hx3 j (by omega)
    have lei := g.len _ (List.getElem_mem (show i < c.length by omega))
    have lej := g.len _ (List.getElem_mem (show j < c.length by omega))
    have ha3 := b03 _ _ na ha
    refine ⟨_, rfl, a, xs, 0, .ref p0, rfl, rfl, SqL.of ha3, atI_nat (j := 0) z1, p0, _, rfl, .inl (SqL.of z2), _, rfl, by rw [numsV_len]; omega, by rw [numsV_len]; omega, fun D hD => ?_⟩
    rw [numsV_len, l0, show ((m : Nat) : Int).toNat = m by omega]
    have nD : D ≠ pu := fresh_ne P3 hD
    refine lc_but (n := m) (pu := pu) (N := N + 1 + 1) (cost := 1) (walk_range (lo := 0) (n := m)) (fun x y _ => ∃ v : Nat, y = V.int (v : Int) ∧ (v = sg c i x ∨ v = sg c j x)) (fun x y G G' _ h => h) (by omega) P3 hD (fun G _ => trivial) ?_ ?_
    · rintro x v G G2 Qy Qn hx2 bG PG hacc ⟨rfl, rfl⟩ ky
      have ex : (0 + (x : Int)) = ((x : Nat) : Int) := by omega
      refine ⟨rfl, _, rfl, _, rfl, _, rfl, a, xs, (i : Int), .ref pi, rfl, rfl, SqL.of (bG _ _ na ha3), atI_nat i1, _, rfl, pi, _, _, .int (c[i][x]'(by omega) : Nat), rfl, rfl, SqL.of (bG _ _ i0 i2), by rw [ex]; exact atI_nat (numsV_get (by omega)), ?_⟩
      refine ⟨_, rfl, _, rfl, a, xs, (j : Int), .ref pj, rfl, rfl, SqL.of (bG _ _ na ha3), atI_nat j1, _, rfl, pj, _, _, .int (c[j][x]'(by omega) : Nat), rfl, rfl, SqL.of (bG _ _ j0 j2), by rw [ex]; exact atI_nat (numsV_get (by omega)), ?_⟩
      refine ⟨(by show 2 ≤ sizeLine; omega), fun L hL => ?_⟩
      have sL := Same.updf (o := .lst [.int (c[i][x]'(by omega) : Nat), .int (c[j][x]'(by omega) : Nat)]) hL
      refine ⟨pu, L, _, N + 1 + 1 + 1 * x, rfl, fresh_ne PG hL, SqL.of upd_same, (show 1 ≤ 2 by decide), (show 2 ≤ 1000000 by decide), PG.same sL, by omega, fun v G3 hv b3 P3' => ?_⟩
      rw [← sg_at (by omega) (by omega), ← sg_at (by omega) (by omega)] at hv
      rcases List.mem_cons.mp hv with rfl | hv
      · exact ky _ _ ((But.of sL).trans b3) (P3'.mono (by omega)) ⟨_, rfl, .inl rfl⟩
      · rw [List.mem_singleton.mp hv]
        exact ky _ _ ((But.of sL).trans b3) (P3'.mono (by omega)) ⟨_, rfl, .inr rfl⟩
    intro H4 zs b4 P4 hz pz
    obtain ⟨ns, rfl, pn⟩ := paired_numsR pz
    have lns : ns.length = m := by rw [← pn.length, List.length_range]
    have b04 := b03.trans b4
    have nHD : H D = none := b03.none nD hD
    have di : c.getD i [] = c[i] := by rw [List.getD_eq_getElem?_getD, List.getElem?_eq_getElem (show i < c.length by omega)]; rfl
    have dj : c.getD j [] = c[j] := by rw [List.getD_eq_getElem?_getD, List.getElem?_eq_getElem (show j < c.length by omega)]; rfl
    have o0 : offN (c.getD i []) (c.getD j []) (ns.map some) = 0 := off_zero fun x hx2 => by
      obtain ⟨y, e1, e2⟩ := paired_get2 pn (List.getElem?_eq_getElem hx2)
      have ey : x = y := by
        rw [List.getElem?_range (by omega)] at e1
        exact Option.some.inj e1
      rw [← ey] at e2
      exact e2
    rw [nums_oV] at hz
    have lo0 : (ns.map some).length = m := by rw [List.length_map, lns]
    have n0 := cnt_some ns
    generalize ns.map some = os at hz o0 lo0 n0
    refine ⟨_, rfl, _, rfl, by omega, by omega, ?_⟩
    rw [show ((ch : Nat) : Int).toNat = ch by omega]
    clear pz pn hx lns
    refine for_range (lo := 0) (n := ch) (fun t σ G => But pu H G ∧ Purse G pu (N + 1 + 1 + m + 2 * t) ∧ ∃ (os : List (Option Nat)) (v7 : Option V), G D = some (.lst (os.map oV)) ∧ os.length = m ∧ os.count none = 0 ∧ offN (c.getD i []) (c.getD j []) os ≤ t ∧ σ = [some (.ref pu), some (.ref a), some (.int (ch : Int)), some (.int (un : Int)), some (.int (i : Int)), some (.int (j : Int)), some (.ref D), v7, none])
      ⟨b04, P4.mono (by omega), os, none, hz, lo0, n0, by omega, rfl⟩ ?_ ?_
    · rintro t σ G ht ⟨bG, PG, os, v7, hG, lo, cn, of, rfl⟩
      refine ⟨_, rfl, draw_ok (by decide) (by decide) PG (by omega) (fun y G2 ly b2 P2 => ?_)⟩
      have hG2 := b2 _ _ nD hG
      refine ⟨_, rfl, _, rfl, _, rfl, D, _, rfl, .inl (SqL.of hG2), ?_⟩
      rw [List.length_map, lo]
      refine draw_ok (by omega) (by omega) P2 (by omega) (fun z G3 lz b3 P3' => ?_)
      have hG3 := b3 _ _ nD hG2
      have zl : z < os.length := by omega
      refine ⟨D, _, _, z, rfl, rfl, hG3, ixN_nat (by rw [List.length_map]; exact zl), ?_⟩
      refine ⟨fun b o nb e => ?_, P3'.same' (upd_ne nD.symm) |>.mono (by omega), os.set z (some y), some (.int (0 + (t : Int))), ?_, by rw [List.length_set]; exact lo, ?_, ?_, rfl⟩
      · rw [upd_ne (ne_of_none e nHD)]
        exact b3 _ _ nb (b2 _ _ nb (bG _ _ nb e))
      · rw [upd_same, List.map_set]
        rfl
      · have := cnt_set os zl y
        omega
      · have := off_set (c.getD i []) (c.getD j []) os z (some y)
        omega
    · rintro σ G ⟨bG, PG, os, v7, hG, lo, cn, of, rfl⟩
      refine ⟨_, rfl, _, rfl, by omega, by omega, ?_⟩
      rw [show ((un : Nat) : Int).toNat = un by omega]
      refine for_range (lo := 0) (n := un) (fun t σ G => But pu H G ∧ Purse G pu (N + 1 + 1 + m + 2 * ch + 1 * t) ∧ ∃ (os : List (Option Nat)) (v7 : Option V), G D = some (.lst (os.map oV)) ∧ os.length = m ∧ os.count none ≤ t ∧ offN (c.getD i []) (c.getD j []) os ≤ ch ∧ σ = [some (.ref pu), some (.ref a), some (.int (ch : Int)), some (.int (un : Int)), some (.int (i : Int)), some (.int (j : Int)), some (.ref D), v7, none])
        ⟨bG, PG, os, v7, hG, lo, by omega, of, rfl⟩ ?_ ?_
      · rintro t σ G ht ⟨bG, PG, os, v7, hG, lo, cn, of, rfl⟩
        refine ⟨_, rfl, _, rfl, _, rfl, D, _, rfl, .inl (SqL.of hG), ?_⟩
        rw [List.length_map, lo]
        refine draw_ok (by omega) (by omega) PG (by omega) (fun z G3 lz b3 P3' => ?_)
        have hG3 := b3 _ _ nD hG
        have zl : z < os.length := by omega
        refine ⟨D, _, _, z, rfl, rfl, hG3, ixN_nat (by rw [List.length_map]; exact zl), ?_⟩
        refine ⟨fun b o nb e => ?_, P3'.same' (upd_ne nD.symm) |>.mono (by omega), os.set z none, some (.int (0 + (t : Int))), ?_, by rw [List.length_set]; exact lo, ?_, ?_, rfl⟩
        · rw [upd_ne (ne_of_none e nHD)]
          exact b3 _ _ nb (bG _ _ nb e)
        · rw [upd_same, List.map_set]
          rfl
        · have := cnt_setN os zl
          omega
        · have := off_none (c.getD i []) (c.getD j []) os z
          omega
      · rintro σ G ⟨bG, PG, os, v7, hG, lo, cn, of, rfl⟩
        refine ⟨_, rfl, _, rfl, _, rfl, (by show 3 ≤ sizeLine; omega), fun q hq => ?_⟩
        have sq := Same.updf (o := .lst [.int (i : Int), .int (j : Int), .ref D]) hq
        refine k q D i j os _ (bG.trans (But.of sq)) ((PG.same sq).mono (by omega)) (bG.none (fresh_ne PG hq) hq) nHD upd_same (sq _ _ hG) lo (by omega) (by omega) ?_
        show (decide (os.count none ≤ un) && decide (offN (c.getD i []) (c.getD j []) os ≤ ch)) = true
        rw [decide_eq_true cn, decide_eq_true of]
        rfl
end
end K06
set_option Elab.async false
set_option linter.all false
set_option maxRecDepth 100000
set_option maxHeartbeats 8000000
/-! All lists of signs. -/
namespace K06
open PySem PySem.Spec PyProof.Rows L2 KB
/-- a list of signs and unread cells -/
def RowAt (m : Nat) (H : Hp) (y : V) : Prop := ∃ (T : Addr) (os : List (Option Nat)), y = .ref T ∧ H T = some (.lst (os.map oV)) ∧ os.length = m
theorem RowAt.same {m : Nat} {H H' : Hp} (s : Same H H') {y : V} : RowAt m H y → RowAt m H' y := fun ⟨T, os, e, h, l⟩ => ⟨T, os, e, s _ _ h, l⟩
theorem pick_kvs {K : PySem.W.Frag} {G : Hp} {f : Nat → Nat} : ∀ {is : List Nat} {zs : List V}, Paired (fun i y => ∃ T, y = V.ref T ∧ G T = some (.tup [.int (f i : Int), .bl true])) is zs →
    ∃ ps : List Addr, zs = ps.map V.ref ∧ Paired (fun p (kv : Key × V) => SqT K G p [kV kv.1, kv.2]) ps (is.map fun i => ((Sum.inl (f i : Int) : Key), V.bl true))
  | _, _, .nil => ⟨[], rfl, .nil⟩
  | _, _, .cons ⟨T, e, h⟩ t => by
    obtain ⟨ps, e1, e2⟩ := pick_kvs (K := K) t
    exact ⟨T :: ps, by rw [e, e1]; rfl, .cons (SqT.of h) e2⟩
theorem flat_rep {v : V} : ∀ k : Nat, (List.replicate k [v]).flatten = List.replicate k v
  | 0 => rfl
  | k + 1 => by rw [List.replicate_succ, List.flatten_cons, flat_rep k, List.replicate_succ]; rfl
def spAllL : Sp := fun vs H Q _ => ∃ (a : Addr) (c : List (List Nat)) (m : Nat) (ch un : Nat), vs = [.ref a, .int (ch : Int), .int (un : Int)] ∧ CodeAt H a c ∧ Drawn c m ∧ m ≤ 4 ∧ ch ≤ 1 ∧ un ≤ 1 ∧
  ∀ q ys H', Same H H' → H q = none → H' q = some (.lst ys) → ys.length ≤ 7 ^ m → (∀ y ∈ ys, RowAt m (nw H H') y) → Q (.ref q) H'
section
variable {P : Program} {w : World} {K : PySem.W.Frag} {mg : Str → Option Value} {base : Heap}
abbrev s_all_lists : Stmt := top 50
abbrev N_all_lists : List Str := ["_law_code", "_law_is_changed", "_law_is_unread", "_law_found", "_law_at", "_law_signs", "_law_longer", "_law_row", "_law_page", "_law_sign"]
theorem sc_all_lists : FnScope N_all_lists ["_law_code", "_law_is_changed", "_law_is_unread"] (defScope s_all_lists) := ⟨rfl, rfl, rfl, by decide +kernel, rfl, by decide +kernel, by decide +kernel⟩
theorem ok_all_lists {f : Addr} {fd : FuncData} (F : FnP K "_law_all_lists" s_all_lists f fd) (Z : FreeS mg) :
    FnOk P w K mg base CX0 1 f fd ["_law_code", "_law_is_changed", "_law_is_unread"] spAllL := by
  refine F.ok sc_all_lists (fun vs H Q E h => ?_) (fun cdv A outer s H vs Q E hr h => ?_)
  · obtain ⟨a, c, m, ch, un, rfl, _⟩ := h
    rfl
  · obtain ⟨a, c, m, ch, un, rfl, hc, g, m4, ch1, un1, k⟩ := h
    obtain ⟨xs, ha, lx, hx⟩ := hc.at
    have g2 := g.two
    have g5 := g.five
    have m1 := g.cells
    obtain ⟨p0, z1, z2⟩ := hx 0 (by omega)
    have l0 := g.len _ (List.getElem_mem (show 0 < c.length by omega))
    have sl : (100000 : Nat) < sizeLine := by decide
    have nd := sc_all_lists.nd
    refine ⟨_, PSs.nox (pss_cons (ps_set (i := 3) nd rfl (Or.inl rfl) (pe_lst (pa_cons (pe_lst (pa_nil)) (pa_nil))))
      (pss_cons (ps_for PassesOwn.never rfl (pi_range1 (by rfl) Z.range (pa_cons (pe_callB call_len_seq (by rfl) Z.len (by decide +kernel) (pa_cons (pe_ix ix_list (pv 0) (pe_int) (fun _ _ => rfl)) (pa_nil))) (pa_nil))) (pg_name (i := 4) nd rfl (Or.inr rfl))
        (pss_cons (ps_set (i := 5) nd rfl (Or.inl rfl) (pe_callB ((cr_sortedDI rfl)) (by rfl) Z.sorted (by decide +kernel) (pa_cons (pe_callTy (call_dictPR rfl) (by rfl) Z.tdict (by decide +kernel) (pa_cons (pe_lc (own := [("_law_page", 8)]) (g := gName 8) (tt := tYes) (te := tTup (tCons (tOp (rIxL K) (tVar 8) (tVar 4)) (tCons (tC (.bl true)) (tNil)))) (by rfl) nd (pi_list (pv 0))
          (blkOk_by (own := [("_law_page", 8)]) (N := N_all_lists) (sc := defScope s_all_lists) (by decide +kernel)) (fun _ _ _ _ _ => pg_name (i := 8) nd rfl (Or.inl rfl)) (fun _ _ _ _ _ => pts_nil)
          (fun _ _ _ _ _ => pe_tup (pa_cons (pe_ix ix_list (pv 8) (pv 4) (fun _ _ => rfl)) (pa_cons (pe_bl) (pa_nil))))) (pa_nil))) (pa_nil))))
      (pss_cons (ps_set (i := 5) nd rfl (Or.inl rfl) (pe_op op_cat (pe_op op_cat (pv 5) (pe_op op_rep (pe_lst (pa_cons (pe_op op_add (pe_ix ix_list (pv 5) (pe_un un_neg (pe_int)) (fun _ _ => rfl)) (pe_int)) (pa_nil))) (pe_callTy call_int1 (by rfl) Z.int (by decide +kernel) (pa_cons (pv 1) (pa_nil))))) (pe_op op_rep (pe_lst (pa_cons (pe_non) (pa_nil))) (pe_callTy call_int1 (by rfl) Z.int (by decide +kernel) (pa_cons (pv 2) (pa_nil))))))
      (pss_cons (ps_set (i := 6) nd rfl (Or.inl rfl) (pe_lst (pa_nil)))
      (pss_cons (ps_for PassesOwn.never rfl (pi_list (pv 3)) (pg_name (i := 7) nd rfl (Or.inr rfl))
        (pss_one (ps_set (i := 6) nd rfl (Or.inl rfl) (pe_op op_cat (pv 6) (pe_lc (own := [("_law_sign", 9)]) (g := gName 9) (tt := tYes) (te := tOp rCat (tVar 7) (tLst (tCons (tVar 9) (tNil)))) (by rfl) nd (pi_list (pv 5))
          (blkOk_by (own := [("_law_sign", 9)]) (N := N_all_lists) (sc := defScope s_all_lists) (by decide +kernel)) (fun _ _ _ _ _ => pg_name (i := 9) nd rfl (Or.inl rfl)) (fun _ _ _ _ _ => pts_nil)
          (fun _ _ _ _ _ => pe_op op_cat (pv 7) (pe_lst (pa_cons (pv 9) (pa_nil)))))))))
      (pss_one (ps_set (i := 3) nd rfl (Or.inl rfl) (pv 6))))))))
      (pss_one (ps_ret (pv 3))))), ?_⟩
    refine ⟨(by show 0 ≤ sizeLine; omega), fun E0 hE0 => ⟨(by show 1 ≤ sizeLine; omega), fun F0 hF0 => ?_⟩⟩
    have s1 := (Same.updf (o := .lst []) hE0).trans (Same.updf (o := .lst [.ref E0]) hF0)
    have eF : upd (upd H E0 (.lst [])) F0 (.lst [.ref E0]) F0 = some (.lst [.ref E0]) := upd_same
    have nEF : E0 ≠ F0 := fun z => by rw [z] at hF0; rw [upd_same] at hF0; cases hF0
    have eE : upd (upd H E0 (.lst [])) F0 (.lst [.ref E0]) E0 = some (.lst []) := by rw [upd_ne nEF, upd_same]
    have nF : H F0 = none := none_back (Same.updf hE0) hF0
    generalize upd (upd H E0 (.lst [])) F0 (.lst [.ref E0]) = H1 at s1 eF eE ⊢
    have ha1 := s1 _ _ ha
    refine ⟨_, rfl, a, xs, 0, .ref p0, rfl, rfl, SqL.of ha1, atI_nat (j := 0) z1, p0, _, rfl, .inl (SqL.of (s1 _ _ z2)), _, rfl, by rw [numsV_len]; omega, by rw [numsV_len]; omega, ?_⟩
    rw [numsV_len, l0, show ((m : Nat) : Int).toNat = m by omega]
    refine for_range (lo := 0) (n := m) (fun x σ G => Same H G ∧ ∃ (q : Addr) (ys : List V) (v4 v5 v6 v7 : Option V), H q = none ∧ G q = some (.lst ys) ∧ ys.length ≤ 7 ^ x ∧ (∀ y ∈ ys, RowAt x (nw H G) y) ∧ σ = [some (.ref a), some (.int (ch : Int)), some (.int (un : Int)), some (.ref q), v4, v5, v6, v7, none, none])
      ⟨s1, F0, [.ref E0], none, none, none, none, nF, eF, Nat.le_refl _, fun y hy => ⟨E0, [], List.mem_singleton.mp hy, by rw [nw_at hE0]; exact eE, rfl⟩, rfl⟩ ?_ ?_
    · rintro x σ G hx2 ⟨sG, q, ys, v4, v5, v6, v7, nq, hq, lq, tq, rfl⟩
      refine ⟨_, rfl, a, rfl, ⟨_, SqL.of (sG _ _ ha)⟩, fun D hD => ?_⟩
      refine lc_rel (n := c.length) (by have := walk_list (K := K) (a := a) (xs := xs); rw [lx] at this; exact this) (fun _ => true) (fun i y G2 => ∃ T, y = V.ref T ∧ G2 T = some (.tup [.int (sg c i x : Int), .bl true])) (fun i y G2 G3 s ⟨T, e, h⟩ => ⟨T, e, s _ _ h⟩) (by omega) hD (fun G2 s => SqL.of (s _ _ (sG _ _ ha))) ?_ ?_
      · rintro i v G2 G3 Qy Qn hi s2 hacc ⟨rfl, hv⟩ ky kn
        obtain ⟨acc, hacc⟩ := hacc
        obtain ⟨p, f1, f2⟩ := hx i hi
        rw [f1] at hv
        cases hv
        have fl := g.len _ (List.getElem_mem hi)
        refine ⟨rfl, _, rfl, _, rfl, p, _, (0 + (x : Int)), .int (c[i][x]'(by omega) : Nat), rfl, rfl, SqL.of (s2 _ _ (sG _ _ f2)), by rw [show (0 + (x : Int)) = ((x : Nat) : Int) by omega]; exact atI_nat (numsV_get (by omega)), ?_⟩
        refine ⟨(by show 2 ≤ sizeLine; omega), fun T hT => ky _ _ rfl (Same.updf hT) ⟨T, rfl, ?_⟩⟩
        have nT : T ≠ D := fun z => by rw [z, hacc] at hT; cases hT
        rw [KB.off_at nT, upd_same, sg_at hi (by omega)]
      intro G2 zs s2 hz pz
      rw [List.filter_eq_self.mpr (fun _ _ => rfl)] at pz
      obtain ⟨ps, rfl, pk⟩ := pick_kvs (K := K) pz
      have lps := pk.length
      rw [List.length_map, List.length_range] at lps
      refine ⟨D, ps, _, rfl, SqL.of hz, paired_mono (fun _ _ h => SqT_up (off_le G2 D) h) pk, fun d hd => ?_⟩
      have ma := merge_all (R := fun k => ∃ n : Nat, k = Sum.inl (n : Int)) ((List.range c.length).map fun i => ((Sum.inl (sg c i x : Int) : Key), V.bl true)) [] (fun kv h => by cases h) (fun kv h => by
        obtain ⟨i, _, rfl⟩ := List.mem_map.mp h
        exact ⟨_, rfl⟩)
      have ln1 : 1 ≤ (mergeK [] ((List.range c.length).map fun i => ((Sum.inl (sg c i x : Int) : Key), V.bl true))).length := by
        obtain ⟨c0, ec⟩ : ∃ c0, c.length = c0 + 1 := ⟨c.length - 1, by omega⟩
        rw [ec, List.range_succ_eq_map, List.map_cons]
        have p1 := putK_ne [] (Sum.inl (sg c 0 x : Int) : Key) (V.bl true)
        have p2 := merge_all (R := fun k => ∃ n : Nat, k = Sum.inl (n : Int)) (((List.range c0).map Nat.succ).map fun i => ((Sum.inl (sg c i x : Int) : Key), V.bl true)) (putK [] (Sum.inl (sg c 0 x : Int) : Key) (V.bl true)) (putK_keys (c := []) (R := fun k => ∃ n : Nat, k = Sum.inl (n : Int)) (fun kv h => by cases h) ⟨_, rfl⟩) (fun kv h => by
          obtain ⟨i, _, rfl⟩ := List.mem_map.mp h
          exact ⟨_, rfl⟩)
        exact Nat.le_trans p1.2.1 p2.2.1
      obtain ⟨ns, en, lns⟩ := nat_keys _ ma.1
      have ln5 := ma.2.2
      rw [List.length_nil, List.length_map, List.length_range] at ln5
      have sd := Same.updf (o := .dK (mergeK [] ((List.range c.length).map fun i => ((Sum.inl (sg c i x : Int) : Key), V.bl true)))) hd
      refine ⟨d, _, ns.map fun n : Nat => (n : Int), rfl, Rd.of upd_same, en, by rw [List.length_map]; omega, fun sgs S pS _ hS => ?_⟩
      obtain ⟨ms, em, pm⟩ : ∃ ms, sgs.map V.int = numsV ms ∧ ms.Perm ns := nums_perm (by
        have := pS.map V.int
        rw [List.map_map] at this
        exact this)
      have lms := pm.length_eq
      rw [em]
      have sS := sd.trans (Same.updf (o := .lst (numsV ms)) hS)
      have eS : upd (upd G2 d (.dK (mergeK [] ((List.range c.length).map fun i => ((Sum.inl (sg c i x : Int) : Key), V.bl true))))) S (.lst (numsV ms)) S = some (.lst (numsV ms)) := upd_same
      generalize upd (upd G2 d (.dK (mergeK [] ((List.range c.length).map fun i => ((Sum.inl (sg c i x : Int) : Key), V.bl true))))) S (.lst (numsV ms)) = G3 at sS eS ⊢
      have sG3 := sG.trans (s2.trans sS)
      have hq3 := sS _ _ (s2 _ _ hq)
      have tq3 : ∀ y ∈ ys, RowAt x (nw H G3) y := fun y hy => (tq y hy).same (nw_same (s2.trans sS))
      have ln6 : ns.length ≤ 5 := by omega
      clear ma ln5 en pS hS sd hd pk lps hz pz sS s2 hD tq hq
      obtain ⟨i0, last, rfl⟩ : ∃ i0 last, ms = i0 ++ [last] := by
        rcases List.eq_nil_or_concat ms with rfl | ⟨a, b, e⟩
        · simp at lms
          omega
        · exact ⟨a, b, by rw [e, List.concat_eq_append]⟩
      have eL : numsV (i0 ++ [last]) = numsV i0 ++ [.int (last : Int)] := List.map_append
      rw [eL] at eS
      rw [List.length_append, List.length_singleton] at lms
      have li0 := numsV_len i0
      refine ⟨_, rfl, _, rfl, _, rfl, S, _, -1, .int (last : Int), rfl, rfl, SqL.of eS, atI_last _ _, _, _, rfl, rfl, (by show 1 ≤ sizeLine; omega), fun L1 hL1 => ⟨_, rfl, .inl ⟨_, rfl, L1, (ch : Int), _, rfl, rfl, upd_same, by omega, by omega, ?_, fun R1 hR1 => ⟨S, R1, numsV i0 ++ [.int (last : Int)], _, rfl, rfl, ?_, upd_same, ?_, fun S2 hS2 => ?_⟩⟩⟩⟩
      · show 1 * ((ch : Nat) : Int).toNat ≤ sizeLine
        omega
      · exact Same.updf hR1 _ _ (Same.updf hL1 _ _ eS)
      · rw [flat_rep, List.length_replicate, List.length_append, List.length_singleton]
        omega
      dsimp only at hR1 hS2 ⊢
      have sA := (Same.updf (o := .lst [.int ((last : Int) + 1)]) hL1).trans ((Same.updf (o := .lst (List.replicate (ch : Int).toNat [V.int ((last : Int) + 1)]).flatten) hR1).trans (Same.updf (o := .lst (numsV i0 ++ [.int (last : Int)] ++ (List.replicate (ch : Int).toNat [V.int ((last : Int) + 1)]).flatten)) hS2))
      have eA := upd_same (H := upd (upd G3 L1 (.lst [.int ((last : Int) + 1)])) R1 (.lst (List.replicate (ch : Int).toNat [V.int ((last : Int) + 1)]).flatten)) (a := S2) (o := .lst (numsV i0 ++ [.int (last : Int)] ++ (List.replicate (ch : Int).toNat [V.int ((last : Int) + 1)]).flatten))
      generalize upd (upd (upd G3 L1 (.lst [.int ((last : Int) + 1)])) R1 (.lst (List.replicate (ch : Int).toNat [V.int ((last : Int) + 1)]).flatten)) S2 (.lst (numsV i0 ++ [.int (last : Int)] ++ (List.replicate (ch : Int).toNat [V.int ((last : Int) + 1)]).flatten)) = G4 at sA eA ⊢
      refine ⟨(by show 1 ≤ sizeLine; omega), fun L2' hL2 => ⟨_, rfl, .inl ⟨_, rfl, L2', (un : Int), _, rfl, rfl, upd_same, by omega, by omega, ?_, fun R2 hR2 => ⟨S2, R2, _, _, rfl, rfl, Same.updf hR2 _ _ (Same.updf hL2 _ _ eA), upd_same, ?_, fun S3 hS3 => ?_⟩⟩⟩⟩
      · show 1 * ((un : Nat) : Int).toNat ≤ sizeLine
        omega
      · rw [flat_rep, flat_rep, List.length_append, List.length_append, List.length_replicate, List.length_replicate, List.length_singleton]
        omega
      have sB := (Same.updf (o := .lst [V.non]) hL2).trans ((Same.updf (o := .lst (List.replicate (un : Int).toNat [V.non]).flatten) hR2).trans (Same.updf (o := .lst (numsV i0 ++ [.int (last : Int)] ++ (List.replicate (ch : Int).toNat [V.int ((last : Int) + 1)]).flatten ++ (List.replicate (un : Int).toNat [V.non]).flatten)) hS3))
      have eB := upd_same (H := upd (upd G4 L2' (.lst [V.non])) R2 (.lst (List.replicate (un : Int).toNat [V.non]).flatten)) (a := S3) (o := .lst (numsV i0 ++ [.int (last : Int)] ++ (List.replicate (ch : Int).toNat [V.int ((last : Int) + 1)]).flatten ++ (List.replicate (un : Int).toNat [V.non]).flatten))
      generalize upd (upd (upd G4 L2' (.lst [V.non])) R2 (.lst (List.replicate (un : Int).toNat [V.non]).flatten)) S3 (.lst (numsV i0 ++ [.int (last : Int)] ++ (List.replicate (ch : Int).toNat [V.int ((last : Int) + 1)]).flatten ++ (List.replicate (un : Int).toNat [V.non]).flatten)) = G5 at sB eB ⊢
      obtain ⟨os, eo, lo⟩ : ∃ os : List (Option Nat), numsV i0 ++ [.int (last : Int)] ++ (List.replicate (ch : Int).toNat [V.int ((last : Int) + 1)]).flatten ++ (List.replicate (un : Int).toNat [V.non]).flatten = os.map oV ∧ os.length ≤ 7 := by
        refine ⟨i0.map some ++ [some last] ++ List.replicate ch (some (last + 1)) ++ List.replicate un none, ?_, ?_⟩
        · rw [flat_rep, flat_rep, List.map_append, List.map_append, List.map_append, List.map_replicate, List.map_replicate, ← nums_oV]
          rfl
        · rw [List.length_append, List.length_append, List.length_append, List.length_map, List.length_replicate, List.length_replicate, List.length_singleton]
          omega
      rw [eo] at eB
      have sG5 := sG3.trans (sA.trans sB)
      have hq5 := sB _ _ (sA _ _ hq3)
      have tq5 : ∀ y ∈ ys, RowAt x (nw H G5) y := fun y hy => (tq3 y hy).same (nw_same (sA.trans sB))
      clear sA sB eA eS hS3 hR2 hL2 hS2 hR1 hL1 tq3 hq3 eo
      refine ⟨(by show 0 ≤ sizeLine; omega), fun F1 hF1 => ?_⟩
      have sF := Same.updf (o := .lst []) hF1
      have eF1 : upd G5 F1 (.lst []) F1 = some (.lst []) := upd_same
      have nF1 := none_back sG5 hF1
      generalize upd G5 F1 (.lst []) = G6 at sF eF1 ⊢
      have sG6 := sG5.trans sF
      have hq6 := sF _ _ hq5
      have eS6 := sF _ _ eB
      have tq6 : ∀ y ∈ ys, RowAt x (nw H G6) y := fun y hy => (tq5 y hy).same (nw_same sF)
      clear sF hF1 hq5 tq5 eB
      refine ⟨_, rfl, q, rfl, ⟨_, SqL.of hq6⟩, ?_⟩
      refine for_it (walk_list (K := K) (a := q) (xs := ys)) (fun t σ G => Same G6 G ∧ ∃ (r : Addr) (zs : List V) (v7 : Option V), H r = none ∧ G r = some (.lst zs) ∧ zs.length ≤ 7 * t ∧ (∀ y ∈ zs, RowAt (x + 1) (nw H G) y) ∧ σ = [some (.ref a), some (.int (ch : Int)), some (.int (un : Int)), some (.ref q), some (.int (0 + (x : Int))), some (.ref S3), some (.ref r), v7, none, none])
        ⟨Same.refl _, F1, [], v7, nF1, eF1, Nat.le_refl _, (fun y hy => by cases hy), rfl⟩ (fun t σ G _ hh => SqL.of (hh.1 _ _ hq6)) ?_ ?_
      · rintro t v σ G G' lt ⟨s6, r, zs, v7, nr, hr2, lz, tz, rfl⟩ ⟨rfl, hv⟩
        have my := List.mem_of_getElem? hv
        obtain ⟨T, ot, rfl, hT, lt'⟩ := tq6 _ my
        have hT6 := nw_le _ _ _ _ hT
        have nT := nw_none hT
        have ly : ys.length ≤ 2401 := Nat.le_trans lq (Nat.le_trans (Nat.pow_le_pow_right (by decide) (show x ≤ 4 by omega)) (by decide))
        refine ⟨_, rfl, _, rfl, S3, rfl, ⟨_, SqL.of (s6 _ _ eS6)⟩, fun D hD => ?_⟩
        refine lc_rel (n := os.length) (by have := walk_list (K := K) (a := S3) (xs := os.map oV); rw [List.length_map] at this; exact this) (fun _ => true) (fun _ y G2 => RowAt (x + 1) (nw H G2) y) (fun _ y G2 G3 s h => h.same (nw_same s)) (by omega) hD (fun G2 s => SqL.of (s _ _ (s6 _ _ eS6))) ?_ ?_
        · rintro i v G2 G3 Qy Qn hi s2 hacc ⟨rfl, hv⟩ ky kn
          obtain ⟨acc, hacc⟩ := hacc
          rw [List.getElem?_map, List.getElem?_eq_getElem hi] at hv
          cases hv
          refine ⟨rfl, _, rfl, _, rfl, (by show 1 ≤ sizeLine; omega), fun L hL => ⟨T, L, _, _, rfl, rfl, Same.updf hL _ _ (s2 _ _ (s6 _ _ hT6)), upd_same, ?_, fun R hR => ky _ _ rfl ((Same.updf hL).trans (Same.updf hR)) ⟨R, ot ++ [os[i]], rfl, ?_, ?_⟩⟩⟩
          · rw [List.length_map]
            show ot.length + 1 ≤ sizeLine
            omega
          · have nRD : R ≠ D := fun z => by rw [z, Same.updf hL _ _ hacc] at hR; cases hR
            have nRH : H R = none := none_back ((sG6.trans s6).trans (s2.trans (Same.updf hL))) hR
            rw [nw_at nRH, KB.off_at nRD, upd_same, List.map_append]
            rfl
          · rw [List.length_append, List.length_singleton, lt']
        · intro G2 ws s2 hz pz
          have lw := pz.length
          rw [List.filter_eq_self.mpr (fun _ _ => rfl), List.length_range] at lw
          refine ⟨r, D, zs, ws, rfl, rfl, s2 _ _ hr2, hz, by omega, fun p hp => ?_⟩
          have sp := Same.updf (o := .lst (zs ++ ws)) hp
          refine ⟨s6.trans (s2.trans sp), p, zs ++ ws, some (.ref T), none_back (sG6.trans (s6.trans s2)) hp, upd_same, by rw [List.length_append]; omega, fun y hy => ?_, rfl⟩
          rcases List.mem_append.mp hy with hy | hy
          · exact (tz y hy).same (nw_same (s2.trans sp))
          · obtain ⟨t, ht2⟩ := List.getElem?_of_mem hy
            obtain ⟨_, _, h⟩ := paired_get2 pz ht2
            exact (h.same (nw_same (off_le G2 D))).same (nw_same sp)
      · rintro σ G ⟨s6, r, zs, v7, nr, hr2, lz, tz, rfl⟩
        refine ⟨_, rfl, sG6.trans s6, r, zs, _, _, _, v7, nr, hr2, ?_, tz, rfl⟩
        rw [Nat.pow_succ]
        omega
    · rintro σ G ⟨sG, q, ys, v4, v5, v6, v7, nq, hq, lq, tq, rfl⟩
      exact ⟨_, rfl, k q ys G sG nq hq lq tq⟩
end
end K06
set_option Elab.async false
set_option linter.all false
set_option maxRecDepth 100000
set_option maxHeartbeats 8000000
/-! What a list tells is right. -/
namespace K06
open PySem PySem.Spec PyProof.Rows L2 KB
def spListR (K : PySem.W.Frag) : Sp := fun vs H Q _ => ∃ (a t : Addr) (c : List (List Nat)) (m : Nat) (os : List (Option Nat)) (ch un : Nat), vs = [.ref a, .ref t, .int (ch : Int), .int (un : Int)] ∧ CodeAt H a c ∧ Good c m ∧ H t = some (.lst (os.map oV)) ∧ os.length = m ∧ ∀ H', Same H H' → Q (.bl true) H'
theorem nums_flat : ∀ l : List Nat, (numsV l).all flatV = true
  | [] => rfl
  | n :: l => by
    show (numsV (n :: l)).all flatV = true
    unfold numsV
    rw [List.map_cons, List.all_cons]
    exact Bool.and_eq_true_iff.mpr ⟨rfl, nums_flat l⟩
def prD (p : Nat × Nat) : PyData := .tuple [.int (p.1 : Int), .int (p.2 : Int)]
theorem tr_pair {H : Hp} {p : Nat × Nat} {y : V} (h : PairAt H p y) : Tr H 1 y (prD p) := by
  obtain ⟨T, rfl, hT⟩ := h
  exact Tr.tup hT rfl (show 2 ≤ 1000 by decide) (tr_cons (Tr.flat (.int _)) (tr_cons (Tr.flat (.int _)) tr_nil))
theorem tr_pairs {H : Hp} {D : Addr} {ps : List (Nat × Nat)} (h : PairsAt H D ps) (l : ps.length ≤ 1000) : Tr H 2 (.ref D) (.list (ps.map prD)) := by
  obtain ⟨ys, hy, py⟩ := h
  refine Tr.lst hy (by rw [List.length_map, py.length]) (by rw [List.length_map]; exact l) fun i u e h1 h2 => ?_
  obtain ⟨x, e1, e2⟩ := paired_get2 py h1
  rw [List.getElem?_map, e1] at h2
  cases h2
  exact tr_pair e2
def numsD (r : List Nat) : List PyData := r.map fun n : Nat => .int (n : Int)
theorem tr_nums {H : Hp} {q : Addr} {r : List Nat} (h : H q = some (.lst (numsV r))) (l : r.length ≤ 1000) : Tr H 1 (.ref q) (.list (numsD r)) := by
  refine Tr.lst h (by rw [numsV_len]; exact (List.length_map _).symm) (by unfold numsD; rw [List.length_map]; exact l) fun i u e h1 h2 => ?_
  unfold numsD at h2
  rw [List.getElem?_map] at h1 h2
  cases hr : r[i]? with
  | none => rw [hr] at h1; cases h1
  | some n =>
    rw [hr] at h1 h2
    cases h1
    cases h2
    exact Tr.flat (.int _)
theorem tr_oV {H : Hp} {q : Addr} {os : List (Option Nat)} (h : H q = some (.lst (os.map oV))) (l : os.length ≤ 1000) : Tr H 1 (.ref q) (.list (os.map oD)) := by
  refine Tr.lst h (by rw [List.length_map, List.length_map]) (by rw [List.length_map]; exact l) fun i u e h1 h2 => ?_
  rw [List.getElem?_map] at h1 h2
  cases hr : os[i]? with
  | none => rw [hr] at h1; cases h1
  | some n =>
    rw [hr] at h1 h2
    cases h1
    cases h2
    cases n with
    | none => exact Tr.flat .non
    | some n => exact Tr.flat (.int _)
theorem twosR_len {c : List (List Nat)} {m : Nat} (g : Good c m) (r : Option (List (Option Nat))) (ch un : Nat) : (twosR c r ch un).length ≤ 900 := by
  have h1 : (twosR c r ch un).length ≤ (twosL c.length).length := List.length_filter_le _ _
  have h2 := twosUp_len c.length c.length
  have h3 : c.length * c.length ≤ 900 := Nat.mul_le_mul g.few g.few
  exact Nat.le_trans h1 (Nat.le_trans h2 h3)
theorem toldL_len (n : Nat) (ps : List (Nat × Nat)) : (toldL n ps).length ≤ n := by
  have := List.length_filter_le (fun x => decide (ps ≠ []) && ps.all fun p => decide (x = p.1) || decide (x = p.2)) (List.range n)
  rw [List.length_range] at this
  exact this
section
variable {P : Program} {w : World} {K : PySem.W.Frag} {mg : Str → Option Value} {base : Heap}
abbrev s_list_right : Stmt := top 51
abbrev N_list_right : List Str := ["_law_code", "_law_value", "_law_changed", "_law_unread", "_law_pairs", "_law_handed", "_law_due", "_law_told_here", "_law_page"]
theorem sc_list_right : FnScope N_list_right ["_law_code", "_law_value", "_law_changed", "_law_unread"] (defScope s_list_right) := ⟨rfl, rfl, rfl, by decide +kernel, rfl, by decide +kernel, by decide +kernel⟩
theorem ok_list_right {f : Addr} {fd : FuncData} (F : FnP K "_law_list_right" s_list_right f fd) (Z : FreeS mg)
    {f_told : Addr} {d_told : FuncData} (g_told : mg "_law_told" = some (.ref f_told)) (F_told : FnP K "_law_told" s_told f_told d_told) (G_told : FnOk P w K mg base CX0 1 f_told d_told ["_law_pairs", "_law_many"] spLTold)
    {f_told_page : Addr} {d_told_page : FuncData} (g_told_page : mg "told_page" = some (.ref f_told_page)) (F_told_page : FnP K "told_page" s_told_page f_told_page d_told_page) (G_told_page : FnOk P w K mg base CX0 8 f_told_page d_told_page ["code", "value", "changed", "unread"] (spToldPage K))
    {f_exact : Addr} {d_exact : FuncData} (g_exact : mg "_law_exact" = some (.ref f_exact)) (F_exact : FnP K "_law_exact" s_exact f_exact d_exact) (GA_exact : ∀ n : Nat, FnOk P w K mg base CX0 (n + 1) f_exact d_exact ["_law_mine", "_law_theirs"] (spExact n))
    {f_l_twos : Addr} {d_l_twos : FuncData} (g_l_twos : mg "_law_twos" = some (.ref f_l_twos)) (F_l_twos : FnP K "_law_twos" s_l_twos f_l_twos d_l_twos) (G_l_twos : FnOk P w K mg base CX0 2 f_l_twos d_l_twos ["_law_code", "_law_value", "_law_changed", "_law_unread"] (spLTwos K))
    {f_twos : Addr} {d_twos : FuncData} (g_twos : mg "twos" = some (.ref f_twos)) (F_twos : FnP K "twos" s_twos f_twos d_twos) (G_twos : FnOk P w K mg base CX0 6 f_twos d_twos ["code", "value", "changed", "unread"] (spTwos K))
    {f_told_pages : Addr} {d_told_pages : FuncData} (g_told_pages : mg "told_pages" = some (.ref f_told_pages)) (F_told_pages : FnP K "told_pages" s_told_pages f_told_pages d_told_pages) (G_told_pages : FnOk P w K mg base CX0 7 f_told_pages d_told_pages ["code", "value", "changed", "unread"] (spToldPages K)) :
    FnOk P w K mg base CX0 9 f fd ["_law_code", "_law_value", "_law_changed", "_law_unread"] (spListR K) := by
  have b_told : Binds K d_told ["_law_pairs", "_law_many"] [] := F_told.bindsN fun _ _ _ _ _ _ us hl => match us, hl with | [_, _], _ => rfl
  have b_told_page : Binds K d_told_page ["code", "value", "changed", "unread"] [] := F_told_page.bindsN fun _ _ _ _ _ _ us hl => match us, hl with | [_, _, _, _], _ => rfl
  have b_exact : Binds K d_exact ["_law_mine", "_law_theirs"] [] := F_exact.bindsN fun _ _ _ _ _ _ us hl => match us, hl with | [_, _], _ => rfl
  have b_l_twos : Binds K d_l_twos ["_law_code", "_law_value", "_law_changed", "_law_unread"] [] := F_l_twos.bindsN fun _ _ _ _ _ _ us hl => match us, hl with | [_, _, _, _], _ => rfl
  have b_twos : Binds K d_twos ["code", "value", "changed", "unread"] [] := F_twos.bindsN fun _ _ _ _ _ _ us hl => match us, hl with | [_, _, _, _], _ => rfl
  have b_told_pages : Binds K d_told_pages ["code", "value", "changed", "unread"] [] := F_told_pages.bindsN fun _ _ _ _ _ _ us hl => match us, hl with | [_, _, _, _], _ => rfl
  refine F.ok sc_list_right (fun vs H Q E h => ?_) (fun cdv A outer s H vs Q E hr h => ?_)
  · obtain ⟨a, t, c, m, os, ch, un, rfl, _⟩ := h
    rfl
  · obtain ⟨a, t, c, m, os, ch, un, rfl, hc, g, ht, lo, k⟩ := h
    obtain ⟨xs, ha, lx, hx⟩ := hc.at
    have g2 := g.two
    have g5 := g.few
    have m1 := g.cells
    have m100 := g.small
    have sl : (100000 : Nat) < sizeLine := by decide
    have hu2 : (A.deeper (envOfC "_law_list_right" (defScope s_list_right) s.heap.objs.size f cdv)).units < cLine := by
      have := hr.un
      omega
    have nd := sc_list_right.nd
    refine ⟨_, PSs.nox (pss_cons (ps_par (i := 4) (j := 5) rfl nd rfl rfl (by decide) rfl rfl (pa_cons (pe_call G_l_twos (hr.mono (by decide)) rfl g_l_twos F_l_twos.kp b_l_twos .nil pass0 (pa_cons (pv 0) (pa_cons (pv 1) (pa_cons (pv 2) (pa_cons (pv 3) (pa_nil)))))) (pa_cons (pe_callTy call_list_of (by rfl) Z.tlist (by decide +kernel) (pa_cons (pv 1) (pa_nil))) (pa_nil))) rfl)
      (pss_cons (ps_set (i := 6) nd rfl (Or.inl rfl) (pe_call G_told (hr.mono (by decide)) rfl g_told F_told.kp b_told .nil pass0 (pa_cons (pv 4) (pa_cons (pe_callB call_len_seq (by rfl) Z.len (by decide +kernel) (pa_cons (pv 0) (pa_nil))) (pa_nil)))))
      (pss_cons (ps_set (i := 7) nd rfl (Or.inl rfl) (pe_lst (pa_cons (pe_call G_twos (hr.mono (by decide)) rfl g_twos F_twos.kp b_twos .nil pass0 (pa_cons (pv 0) (pa_cons (pv 5) (pa_cons (pv 2) (pa_cons (pv 3) (pa_nil)))))) (pa_cons (pe_call G_told_pages (hr.mono (by decide)) rfl g_told_pages F_told_pages.kp b_told_pages .nil pass0 (pa_cons (pv 0) (pa_cons (pv 5) (pa_cons (pv 2) (pa_cons (pv 3) (pa_nil)))))) (pa_nil)))))
      (pss_cons (ps_set (i := 8) nd rfl (Or.inl rfl) (pe_call G_told_page (hr.mono (by decide)) rfl g_told_page F_told_page.kp b_told_page .nil pass0 (pa_cons (pv 0) (pa_cons (pv 5) (pa_cons (pv 2) (pa_cons (pv 3) (pa_nil)))))))
      (pss_cons (ps_if (PW.pt (pw_or (pt_not (pt_val (pe_call (GA_exact 5) (hr.mono (by decide)) rfl g_exact F_exact.kp b_exact .nil pass0 (pa_cons (pe_op op_cat (pv 7) (pe_lst (pa_cons (pv 5) (pa_nil)))) (pa_cons (pe_lst (pa_cons (pv 4) (pa_cons (pv 6) (pa_cons (pv 1) (pa_nil))))) (pa_nil)))))) (pw_or (pt_cmpR op_ne (pe_cmpR op_isN (pv 8) (pe_non) (nomark _)) (pe_cmpR (op_eqE hu2) (pv 6) (pe_lst (pa_nil)) (nomark _)) (nomark _)) (pw_or1 (PW.pt (pw_and (pt_cmpR op_notN (pv 8) (pe_non) (nomark _)) (pw_and1 (pt_cmpR op_notIn_seq (pv 8) (pv 6) (by rfl))))))))) (pss_one (ps_ret (pe_bl))) (pss_nil))
      (pss_cons (ps_expr (pe_bm PySem.F.plainAttrs_list PySem.F.slot_list_append PySem.F.type_list_append mt_append (pe_ix ix_list (pv 7) (pe_int) (fun _ _ => rfl)) (pa_cons (pe_str) (pa_nil))))
      (pss_cons (ps_expr (pe_bm PySem.F.plainAttrs_list PySem.F.slot_list_append PySem.F.type_list_append mt_append (pe_ix ix_list (pv 7) (pe_int) (fun _ _ => rfl)) (pa_cons (pe_str) (pa_nil))))
      (pss_one (ps_ret (pe_call (GA_exact 5) (hr.mono (by decide)) rfl g_exact F_exact.kp b_exact .nil pass0 (pa_cons (pe_call G_told_pages (hr.mono (by decide)) rfl g_told_pages F_told_pages.kp b_told_pages .nil pass0 (pa_cons (pv 0) (pa_cons (pv 1) (pa_cons (pv 2) (pa_cons (pv 3) (pa_nil)))))) (pa_cons (pv 6) (pa_nil))))))))))))), ?_⟩
    refine ⟨_, rfl, _, rfl, _, rfl, _, rfl, a, t, c, m, os, ch, un, rfl, hc, g, ht, lo, fun D1 H1 s1 n1 hP1 => ?_⟩
    refine ⟨_, rfl, t, _, rfl, .inl (SqL.of (s1 _ _ ht)), fun hd hh => ⟨_, _, rfl, ?_⟩⟩
    have sH := Same.updf (o := .lst (os.map oV)) hh
    have eH : upd H1 hd (.lst (os.map oV)) hd = some (.lst (os.map oV)) := upd_same
    have nhd : H hd = none := none_back s1 hh
    generalize upd H1 hd (.lst (os.map oV)) = H2 at sH eH ⊢
    have s2 := s1.trans sH
    have hP2 := hP1.same sH
    have lp := twosR_len g (some os) ch un
    refine ⟨_, rfl, _, rfl, a, _, rfl, .inl (SqL.of (s2 _ _ ha)), D1, twosR c (some os) ch un, xs.length, rfl, hP2, by omega, by omega, fun q1 H3 s3 n3 e3 => ?_⟩
    rw [lx] at e3
    have s03 := s2.trans s3
    have nq1 := none_back s2 n3
    have hP3 := hP2.same s3
    have eH3 := s3 _ _ eH
    refine ⟨_, rfl, _, rfl, _, rfl, _, rfl, a, c, m, .ref hd, some os, ch, un, rfl, hc.same s03, g, .pic eH3 lo, fun D2 H4 s4 n4 hP4 => ?_⟩
    have s04 := s03.trans s4
    refine ⟨_, rfl, _, rfl, _, rfl, _, rfl, a, c, m, .ref hd, some os, ch, un, rfl, hc.same s04, g, .pic (s4 _ _ eH3) lo, fun q2 H5 s5 n5 e5 => ?_⟩
    have s05 := s04.trans s5
    refine ⟨(by show 2 ≤ sizeLine; omega), fun TH hTH => ?_⟩
    have sT := Same.updf (o := .lst [.ref D2, .ref q2]) hTH
    have eT : upd H5 TH (.lst [.ref D2, .ref q2]) TH = some (.lst [.ref D2, .ref q2]) := upd_same
    generalize upd H5 TH (.lst [.ref D2, .ref q2]) = H6 at sT eT ⊢
    have s06 := s05.trans sT
    refine ⟨_, rfl, _, rfl, _, rfl, _, rfl, a, c, m, .ref hd, some os, ch, un, rfl, hc.same s06, g, .pic (sT _ _ (s5 _ _ (s4 _ _ eH3))) lo, fun H7 s7 => ?_⟩
    have s07 := s06.trans s7
    -- exact
    have eT7 := s7 _ _ eT
    have e17 := s7 _ _ (sT _ _ (s5 _ _ (s4 _ _ e3)))
    have e27 := s7 _ _ (sT _ _ e5)
    have hP17 := ((((hP3.same s4).same s5).same sT).same s7)
    have hP27 := (((hP4.same s5).same sT).same s7)
    have eH7 := s7 _ _ (sT _ _ (s5 _ _ (s4 _ _ eH3)))
    have nD2 : H D2 = none := none_back s03 n4
    have nq2 : H q2 = none := none_back s04 n5
    have hlt := toldL_len c.length (twosR c (some os) ch un)
    generalize htl : toldL c.length (twosR c (some os) ch un) = tl at hlt e17 e27 ⊢
    refine ⟨_, rfl, _, rfl, (by show 1 ≤ sizeLine; omega), fun L1 hL1 => ?_⟩
    have sL1 := Same.updf (o := .lst [.ref hd]) hL1
    refine ⟨TH, L1, _, _, rfl, rfl, sL1 _ _ eT7, upd_same, (show 2 + 1 ≤ sizeLine by omega), fun L2' hL2 => ?_⟩
    have sL2 := Same.updf (o := .lst ([.ref D2, .ref q2] ++ [.ref hd])) hL2
    refine ⟨_, rfl, _, rfl, _, rfl, (by show 3 ≤ sizeLine; omega), fun L3 hL3 => ?_⟩
    have sL3 := Same.updf (o := .lst [.ref D1, .ref q1, .ref t]) hL3
    have s78 := sL1.trans (sL2.trans sL3)
    have eL2 : upd (upd (upd H7 L1 (.lst [.ref hd])) L2' (.lst ([.ref D2, .ref q2] ++ [.ref hd]))) L3 (.lst [.ref D1, .ref q1, .ref t]) L2' = some (.lst [.ref D2, .ref q2, .ref hd]) := sL3 _ _ upd_same
    have eL3 : upd (upd (upd H7 L1 (.lst [.ref hd])) L2' (.lst ([.ref D2, .ref q2] ++ [.ref hd]))) L3 (.lst [.ref D1, .ref q1, .ref t]) L3 = some (.lst [.ref D1, .ref q1, .ref t]) := upd_same
    generalize upd (upd (upd H7 L1 (.lst [.ref hd])) L2' (.lst ([.ref D2, .ref q2] ++ [.ref hd]))) L3 (.lst [.ref D1, .ref q1, .ref t]) = H8 at s78 eL2 eL3 ⊢
    have s08 := s07.trans s78
    clear sL1 sL2 sL3 hL1 hL2 hL3 hh
    refine ⟨.ref L2', .ref L3, .list [.list ((twosR c (some os) ch un).map prD), .list (numsD tl), .list (os.map oD)], rfl, ?_, ?_, fun H9 s9 => ⟨_, rfl, ?_⟩⟩
    · exact Tr.lst eL2 rfl (show 3 ≤ 1000 by decide) (tr_cons (tr_pairs (hP27.same s78) (by omega)).up.up (tr_cons (tr_nums (s78 _ _ e27) (by omega)).up.up.up (tr_cons (tr_oV (s78 _ _ eH7) (by omega)).up.up.up tr_nil)))
    · exact Tr.lst eL3 rfl (show 3 ≤ 1000 by decide) (tr_cons (tr_pairs (hP17.same s78) (by omega)).up.up (tr_cons (tr_nums (s78 _ _ e17) (by omega)).up.up.up (tr_cons (tr_oV (s08 _ _ ht) (by omega)).up.up.up tr_nil)))
    have s09 := s08.trans s9
    have e19 := s9 _ _ (s78 _ _ e17)
    have e29 := s9 _ _ (s78 _ _ e27)
    have eT9 := s9 _ _ (s78 _ _ eT7)
    obtain ⟨ys2, hy2, py2⟩ := (hP27.same s78).same s9
    refine iteF ?_
    have l2 := py2.length
    have nTD : TH ≠ D2 := fun z => by
      obtain ⟨ys, h, _⟩ := hP4
      rw [z, s5 _ _ h] at hTH
      cases hTH
    have nqD : q2 ≠ D2 := fun z => by
      obtain ⟨ys, h, _⟩ := hP4
      rw [z, h] at n5
      cases n5
    have nq1D : q1 ≠ D2 := fun z => by rw [← z, e3] at n4; cases n4
    have nq12 : q1 ≠ q2 := fun z => by rw [← z, s4 _ _ e3] at n5; cases n5
    cases tl with
    | nil =>
      refine ⟨_, rfl, rfl, _, rfl, (by show 0 ≤ sizeLine; omega), fun b hb => ?_⟩
      have s10 := Same.updf (o := .lst []) hb
      have eb : upd H9 b (.lst []) b = some (.lst []) := upd_same
      generalize upd H9 b (.lst []) = G10 at s10 eb ⊢
      have e110 := s10 _ _ e19
      have e210 := s10 _ _ e29
      have eT10 := s10 _ _ eT9
      have hy10 := s10 _ _ hy2
      refine ⟨q1, b, _, rfl, rfl, SqL.of e110, SqL.of eb, ?_⟩
      refine ⟨rfl, _, rfl, itB (c := false) (by decide) (fun z => by cases z) (fun _ => ?_)⟩
      refine ⟨_, rfl, rfl, _, rfl, itB (c := false) (by decide) (fun z => by cases z) (fun _ => ?_)⟩
      refine iteF ?_
      refine ⟨_, rfl, TH, _, 0, .ref D2, rfl, rfl, SqL.of eT10, atI_nat (j := 0) rfl, .inl ⟨rfl, _, SqL.of hy10⟩, D2, ys2, _, rfl, rfl, hy10, by omega, ?_⟩
      refine ⟨_, rfl, TH, _, 1, .ref q2, rfl, rfl, SqL.of (by rw [upd_ne nTD]; exact eT10), atI_nat (j := 1) rfl, .inl ⟨rfl, _, SqL.of (by rw [upd_ne nqD]; exact e210)⟩, q2, numsV [], _, rfl, rfl, by rw [upd_ne nqD]; exact e210, by rw [numsV_len]; omega, ?_⟩
      generalize hG12 : upd (upd G10 D2 _) q2 _ = G12
      have s12 : Same H G12 := fun b o e => by
        rw [← hG12, upd_ne (ne_of_none e nq2), upd_ne (ne_of_none e nD2)]
        exact s10 _ _ (s09 _ _ e)
      have e112 : G12 q1 = some (.lst (numsV [])) := by
        rw [← hG12, upd_ne nq12, upd_ne nq1D]
        exact e110
      clear hG12
      exact ⟨_, rfl, _, rfl, _, rfl, _, rfl, a, c, m, .ref t, some os, ch, un, rfl, hc.same s12, g, .pic (s12 _ _ ht) lo, fun q G2 s2 _ e2 => ⟨_, rfl, .ref q, .ref q1, .list (numsD []), rfl, (tr_nums (by rw [← htl]; exact e2) (by omega)).up.up.up.up, (tr_nums (s2 _ _ e112) (by omega)).up.up.up.up, fun G3 s3 => k _ (s12.trans (s2.trans s3))⟩⟩
    | cons y0 yt =>
      refine ⟨_, rfl, rfl, _, rfl, (by show 0 ≤ sizeLine; omega), fun b hb => ?_⟩
      have s10 := Same.updf (o := .lst []) hb
      have eb : upd H9 b (.lst []) b = some (.lst []) := upd_same
      generalize upd H9 b (.lst []) = G10 at s10 eb ⊢
      have e110 := s10 _ _ e19
      have e210 := s10 _ _ e29
      have eT10 := s10 _ _ eT9
      have hy10 := s10 _ _ hy2
      refine ⟨q1, b, _, rfl, rfl, SqL.of e110, SqL.of eb, ?_⟩
      refine ⟨rfl, _, rfl, itB (c := false) rfl (fun z => by cases z) (fun _ => ?_)⟩
      refine ⟨_, rfl, rfl, _, rfl, itB (c := true) rfl (fun _ => ?_) (fun z => by cases z)⟩
      refine ⟨_, rfl, _, rfl, q1, _, rfl, .inl (SqL.of e110), rfl, ?_⟩
      refine ⟨nums_flat _, _, rfl, itB (c := false) ?_ (fun z => by cases z) (fun _ => ?_)⟩
      · rw [if_pos rfl]
        rw [show inV (firstV (y0 :: yt)) (numsV (y0 :: yt)) = true from (inV_nat y0 (y0 :: yt)).trans (decide_eq_true List.mem_cons_self)]
        rfl
      refine ⟨_, rfl, TH, _, 0, .ref D2, rfl, rfl, SqL.of eT10, atI_nat (j := 0) rfl, .inl ⟨rfl, _, SqL.of hy10⟩, D2, ys2, _, rfl, rfl, hy10, by omega, ?_⟩
      refine ⟨_, rfl, TH, _, 1, .ref q2, rfl, rfl, SqL.of (by rw [upd_ne nTD]; exact eT10), atI_nat (j := 1) rfl, .inl ⟨rfl, _, SqL.of (by rw [upd_ne nqD]; exact e210)⟩, q2, numsV (y0 :: yt), _, rfl, rfl, by rw [upd_ne nqD]; exact e210, by rw [numsV_len]; omega, ?_⟩
      generalize hG12 : upd (upd G10 D2 _) q2 _ = G12
      have s12 : Same H G12 := fun b o e => by
        rw [← hG12, upd_ne (ne_of_none e nq2), upd_ne (ne_of_none e nD2)]
        exact s10 _ _ (s09 _ _ e)
      have e112 : G12 q1 = some (.lst (numsV (y0 :: yt))) := by
        rw [← hG12, upd_ne nq12, upd_ne nq1D]
        exact e110
      clear hG12
      exact ⟨_, rfl, _, rfl, _, rfl, _, rfl, a, c, m, .ref t, some os, ch, un, rfl, hc.same s12, g, .pic (s12 _ _ ht) lo, fun q G2 s2 _ e2 => ⟨_, rfl, .ref q, .ref q1, .list (numsD (y0 :: yt)), rfl, (tr_nums (by rw [← htl]; exact e2) (by omega)).up.up.up.up, (tr_nums (s2 _ _ e112) (by omega)).up.up.up.up, fun G3 s3 => k _ (s12.trans (s2.trans s3))⟩⟩
end
end K06
set_option Elab.async false
set_option linter.all false
set_option maxRecDepth 100000
set_option maxHeartbeats 8000000
/-! What pictures tell is right. -/
namespace K06
open PySem PySem.Spec PyProof.Rows L2 KB
def spPicsR (K : PySem.W.Frag) : Sp := fun vs H Q _ => ∃ (pu a b : Addr) (c c' : List (List Nat)) (m m' N : Nat), vs = [.ref pu, .ref a, .ref b] ∧ Purse H pu N ∧ N + 10000 ≤ 2 ^ 38 ∧ CodeAt (KB.off H pu) a c ∧ Drawn c m ∧ CodeAt (KB.off H pu) b c' ∧ Drawn c' m' ∧
  ∀ H', But pu H H' → Purse H' pu (N + 1000) → Q (.bl true) H'
section
variable {P : Program} {w : World} {K : PySem.W.Frag} {mg : Str → Option Value} {base : Heap}
abbrev s_pictures_right : Stmt := top 52
abbrev N_pictures_right : List Str := ["_law_purse_here", "_law_code", "_law_other", "_law_turn", "_law_changed", "_law_unread", "_law_one", "_law_two", "_law_value", "_law_late", "_law_mine", "_law_theirs", "_law_few", "_law_less", "_law_due", "_law_picture"]
theorem sc_pictures_right : FnScope N_pictures_right ["_law_purse_here", "_law_code", "_law_other"] (defScope s_pictures_right) := ⟨rfl, rfl, rfl, by decide +kernel, rfl, by decide +kernel, by decide +kernel⟩
theorem ok_pictures_right {f : Addr} {fd : FuncData} (F : FnP K "_law_pictures_right" s_pictures_right f fd) (Z : FreeS mg)
    {f_some_picture : Addr} {d_some_picture : FuncData} (g_some_picture : mg "_law_some_picture" = some (.ref f_some_picture)) (F_some_picture : FnP K "_law_some_picture" s_some_picture f_some_picture d_some_picture) (G_some_picture : FnOk P w K mg base CX0 4 f_some_picture d_some_picture ["_law_purse_here", "_law_code", "_law_changed", "_law_unread"] spSomePic)
    {f_draw : Addr} {d_draw : FuncData} (g_draw : mg "_law_draw" = some (.ref f_draw)) (F_draw : FnP K "_law_draw" s_draw f_draw d_draw) (G_draw : FnOk P w K mg base CX0 2 f_draw d_draw ["_law_purse_here", "_law_many"] drawI)
    {f_may_leave : Addr} {d_may_leave : FuncData} (g_may_leave : mg "_law_may_leave" = some (.ref f_may_leave)) (F_may_leave : FnP K "_law_may_leave" s_may_leave f_may_leave d_may_leave) (G_may_leave : FnOk P w K mg base CX0 1 f_may_leave d_may_leave ["_law_code", "_law_one", "_law_other", "_law_value", "_law_changed", "_law_unread"] (spMay K))
    {f_list_right : Addr} {d_list_right : FuncData} (g_list_right : mg "_law_list_right" = some (.ref f_list_right)) (F_list_right : FnP K "_law_list_right" s_list_right f_list_right d_list_right) (G_list_right : FnOk P w K mg base CX0 9 f_list_right d_list_right ["_law_code", "_law_value", "_law_changed", "_law_unread"] (spListR K))
    {f_is_picture : Addr} {d_is_picture : FuncData} (g_is_picture : mg "is_picture" = some (.ref f_is_picture)) (F_is_picture : FnP K "is_picture" s_is_picture f_is_picture d_is_picture) (G_is_picture : FnOk P w K mg base CX0 6 f_is_picture d_is_picture ["code", "one", "other", "value", "changed", "unread"] (spIsPic K))
    {f_exact : Addr} {d_exact : FuncData} (g_exact : mg "_law_exact" = some (.ref f_exact)) (F_exact : FnP K "_law_exact" s_exact f_exact d_exact) (GA_exact : ∀ n : Nat, FnOk P w K mg base CX0 (n + 1) f_exact d_exact ["_law_mine", "_law_theirs"] (spExact n)) :
    FnOk P w K mg base CX0 10 f fd ["_law_purse_here", "_law_code", "_law_other"] (spPicsR K) := by
  have b_some_picture : Binds K d_some_picture ["_law_purse_here", "_law_code", "_law_changed", "_law_unread"] [] := F_some_picture.bindsN fun _ _ _ _ _ _ us hl => match us, hl with | [_, _, _, _], _ => rfl
  have b_draw : Binds K d_draw ["_law_purse_here", "_law_many"] [] := F_draw.bindsN fun _ _ _ _ _ _ us hl => match us, hl with | [_, _], _ => rfl
  have b_may_leave : Binds K d_may_leave ["_law_code", "_law_one", "_law_other", "_law_value", "_law_changed", "_law_unread"] [] := F_may_leave.bindsN fun _ _ _ _ _ _ us hl => match us, hl with | [_, _, _, _, _, _], _ => rfl
  have b_list_right : Binds K d_list_right ["_law_code", "_law_value", "_law_changed", "_law_unread"] [] := F_list_right.bindsN fun _ _ _ _ _ _ us hl => match us, hl with | [_, _, _, _], _ => rfl
  have b_is_picture : Binds K d_is_picture ["code", "one", "other", "value", "changed", "unread"] [] := F_is_picture.bindsN fun _ _ _ _ _ _ us hl => match us, hl with | [_, _, _, _, _, _], _ => rfl
  have b_exact : Binds K d_exact ["_law_mine", "_law_theirs"] [] := F_exact.bindsN fun _ _ _ _ _ _ us hl => match us, hl with | [_, _], _ => rfl
  refine F.ok sc_pictures_right (fun vs H Q E h => ?_) (fun cdv A outer s H vs Q E hr h => ?_)
  · obtain ⟨pu, a, b, c, c', m, m', N, rfl, _⟩ := h
    rfl
  · obtain ⟨pu, a, b, c, c', m, m', N, rfl, hP, hN, hc, g, hc', g', k⟩ := h
    have g2 := g.two
    have g5 := g.five
    have m1 := g.cells
    have m7 := g.seven
    have sl : (100000 : Nat) < sizeLine := by decide
    have nd := sc_pictures_right.nd
    refine ⟨_, PSs.nox (pss_cons (ps_for PassesOwn.never rfl (pi_range1 (by rfl) Z.range (pa_cons (pe_int) (pa_nil))) (pg_name (i := 3) nd rfl (Or.inl rfl))
        (pss_cons (ps_par (i := 4) (j := 5) rfl nd rfl rfl (by decide) rfl rfl (pa_cons (pe_call G_draw (hr.mono (by decide)) rfl g_draw F_draw.kp b_draw .nil pass0 (pa_cons (pv 0) (pa_cons (pe_int) (pa_nil)))) (pa_cons (pe_call G_draw (hr.mono (by decide)) rfl g_draw F_draw.kp b_draw .nil pass0 (pa_cons (pv 0) (pa_cons (pe_int) (pa_nil)))) (pa_nil))) rfl)
      (pss_cons (ps_asg (pe_call G_some_picture (hr.mono (by decide)) rfl g_some_picture F_some_picture.kp b_some_picture .nil pass0 (pa_cons (pv 0) (pa_cons (pv 1) (pa_cons (pv 4) (pa_cons (pv 5) (pa_nil)))))) (pg_unl rfl (pgs_cons (pg_name (i := 6) nd rfl (Or.inl rfl)) (pgs_cons (pg_name (i := 7) nd rfl (Or.inl rfl)) (pgs_cons (pg_name (i := 8) nd rfl (Or.inl rfl)) (pgs_nil))))))
      (pss_cons (ps_if (PW.pt (pw_or (pt_cmpR op_notBl (pe_call G_is_picture (hr.mono (by decide)) rfl g_is_picture F_is_picture.kp b_is_picture .nil pass0 (pa_cons (pv 1) (pa_cons (pv 6) (pa_cons (pv 7) (pa_cons (pv 8) (pa_cons (pv 4) (pa_cons (pv 5) (pa_nil)))))))) (pe_bl) (nomark _)) (pw_or1 (pt_not (pt_val (pe_call G_list_right (hr.mono (by decide)) rfl g_list_right F_list_right.kp b_list_right .nil pass0 (pa_cons (pv 1) (pa_cons (pv 8) (pa_cons (pv 4) (pa_cons (pv 5) (pa_nil))))))))))) (pss_one (ps_ret (pe_bl))) (pss_nil))
      (pss_cons (ps_for PassesOwn.never rfl (pi_range1 (by rfl) Z.range (pa_cons (pe_int) (pa_nil))) (pg_name (i := 9) nd rfl (Or.inl rfl))
        (pss_cons (ps_asg (pe_tup (pa_cons (pe_call G_draw (hr.mono (by decide)) rfl g_draw F_draw.kp b_draw .nil pass0 (pa_cons (pv 0) (pa_cons (pe_callB call_len_seq (by rfl) Z.len (by decide +kernel) (pa_cons (pv 1) (pa_nil))) (pa_nil)))) (pa_cons (pe_call G_draw (hr.mono (by decide)) rfl g_draw F_draw.kp b_draw .nil pass0 (pa_cons (pv 0) (pa_cons (pe_callB call_len_seq (by rfl) Z.len (by decide +kernel) (pa_cons (pv 1) (pa_nil))) (pa_nil)))) (pa_cons (pe_call G_draw (hr.mono (by decide)) rfl g_draw F_draw.kp b_draw .nil pass0 (pa_cons (pv 0) (pa_cons (pe_int) (pa_nil)))) (pa_cons (pe_call G_draw (hr.mono (by decide)) rfl g_draw F_draw.kp b_draw .nil pass0 (pa_cons (pv 0) (pa_cons (pe_int) (pa_nil)))) (pa_nil)))))) (pg_tup rfl (pgs_cons (pg_name (i := 10) nd rfl (Or.inl rfl)) (pgs_cons (pg_name (i := 11) nd rfl (Or.inl rfl)) (pgs_cons (pg_name (i := 12) nd rfl (Or.inl rfl)) (pgs_cons (pg_name (i := 13) nd rfl (Or.inl rfl)) (pgs_nil)))))))
      (pss_cons (ps_set (i := 14) nd rfl (Or.inl rfl) (pe_call G_may_leave (hr.mono (by decide)) rfl g_may_leave F_may_leave.kp b_may_leave .nil pass0 (pa_cons (pv 1) (pa_cons (pv 10) (pa_cons (pv 11) (pa_cons (pv 8) (pa_cons (pv 12) (pa_cons (pv 13) (pa_nil)))))))))
      (pss_one (ps_if (pt_not (pt_val (pe_call (GA_exact 5) (hr.mono (by decide)) rfl g_exact F_exact.kp b_exact .nil pass0 (pa_cons (pe_lst (pa_cons (pe_call G_is_picture (hr.mono (by decide)) rfl g_is_picture F_is_picture.kp b_is_picture .nil pass0 (pa_cons (pv 1) (pa_cons (pv 10) (pa_cons (pv 11) (pa_cons (pv 8) (pa_cons (pv 12) (pa_cons (pv 13) (pa_nil)))))))) (pa_cons (pe_call G_is_picture (hr.mono (by decide)) rfl g_is_picture F_is_picture.kp b_is_picture .nil pass0 (pa_cons (pv 1) (pa_cons (pv 11) (pa_cons (pv 10) (pa_cons (pe_callTy call_list_of (by rfl) Z.tlist (by decide +kernel) (pa_cons (pv 8) (pa_nil))) (pa_cons (pv 12) (pa_cons (pv 13) (pa_nil)))))))) (pa_nil)))) (pa_cons (pe_lst (pa_cons (pv 14) (pa_cons (pv 14) (pa_nil)))) (pa_nil)))))) (pss_one (ps_ret (pe_bl))) (pss_nil))))))
      (pss_cons (ps_set (i := 15) nd rfl (Or.inl rfl) (pe_ix ix_list (pe_call G_some_picture (hr.mono (by decide)) rfl g_some_picture F_some_picture.kp b_some_picture .nil pass0 (pa_cons (pv 0) (pa_cons (pv 2) (pa_cons (pe_int) (pa_cons (pe_int) (pa_nil)))))) (pe_int) (fun _ _ => rfl)))
      (pss_one (ps_if (pt_not (pt_val (pe_call G_list_right (hr.mono (by decide)) rfl g_list_right F_list_right.kp b_list_right .nil pass0 (pa_cons (pv 2) (pa_cons (pv 15) (pa_cons (pe_int) (pa_cons (pe_int) (pa_nil)))))))) (pss_one (ps_ret (pe_bl))) (pss_nil)))))))))
      (pss_one (ps_ret (pe_bl)))), ?_⟩
    refine ⟨_, rfl, by decide, by decide, ?_⟩
    refine for_range (lo := 0) (n := 5) (fun i σ G => But pu H G ∧ Purse G pu (N + 100 * i) ∧ ∃ v3 v4 v5 v6 v7 v8 v9 v10 v11 v12 v13 v14 v15 : Option V, σ = [some (.ref pu), some (.ref a), some (.ref b), v3, v4, v5, v6, v7, v8, v9, v10, v11, v12, v13, v14, v15])
      ⟨But.refl _ _, hP, _, _, _, _, _, _, _, _, _, _, _, _, _, rfl⟩ ?_ ?_
    · rintro i σ G hi ⟨bG, PG, v3, v4, v5, v6, v7, v8, v9, v10, v11, v12, v13, v14, v15, rfl⟩
      refine ⟨_, rfl, draw_ok (by decide) (by decide) PG (by omega) (fun ch H1 l1 b1 P1 => ?_)⟩
      refine ⟨_, rfl, draw_ok (by decide) (by decide) P1 (by omega) (fun un H2 l2 b2 P2 => ⟨_, _, rfl, ?_⟩)⟩
      have b02 := bG.trans (b1.trans b2)
      refine ⟨_, rfl, _, rfl, _, rfl, _, rfl, pu, a, c, m, ch, un, _, rfl, P2, by omega, hc.same (off_but b02), g, by omega, by omega, fun q T i2 j2 os H3 b3 P3 nq nT eq eT lo li lj hsh => ?_⟩
      have b03 := b02.trans b3
      have Tp : T ≠ pu := fresh_ne P2 nT
      have hc3 := hc.same (off_but b03)
      clear b1 b2 b3 P1 P2 PG bG
      refine ⟨q, _, rfl, SqL.of eq, rfl, _, _, rfl, _, _, rfl, _, _, rfl, rfl, ?_⟩
      have hc3' := hc3.same (off_le H3 pu)
      refine ⟨_, rfl, _, rfl, _, rfl, _, rfl, _, rfl, _, rfl, a, c, m, i2, j2, .ref T, some os, ch, un, rfl, hc3', g.toGood, li, lj, .pic eT lo, fun H4 s4 => ?_⟩
      rw [hsh]
      have b04 := b03.trans (But.of s4)
      have P4 := P3.same s4
      have hc4 := hc.same (off_but b04)
      have eT4 := s4 _ _ eT
      clear s4 b03 P3 hc3 eT eq hc3'
      refine ⟨_, _, rfl, rfl, _, rfl, itB (c := false) rfl (fun z => by cases z) (fun _ => ?_)⟩
      refine ⟨_, rfl, _, rfl, _, rfl, _, rfl, a, T, c, m, os, ch, un, rfl, hc4.same (off_le H4 pu), g.toGood, eT4, lo, fun H5 s5 => ⟨_, rfl, iteF ?_⟩⟩
      have b05 := b04.trans (But.of s5)
      have P5 := P4.same s5
      have eT5 := s5 _ _ eT4
      have hc5 := hc.same (off_but b05)
      clear s5 b04 P4 hc4 eT4
      refine ⟨_, rfl, by decide, by decide, ?_⟩
      refine for_range (lo := 0) (n := 4) (fun t σ G => But pu H5 G ∧ Purse G pu (N + 100 * i + 22 + 4 * t) ∧ ∃ v9 v10 v11 v12 v13 v14 v15 : Option V, σ = [some (.ref pu), some (.ref a), some (.ref b), some (.int (0 + (i : Int))), some (.int (ch : Int)), some (.int (un : Int)), some (.int (i2 : Int)), some (.int (j2 : Int)), some (.ref T), v9, v10, v11, v12, v13, v14, v15])
        ⟨But.refl _ _, P5.mono (by omega), _, _, _, _, _, _, _, rfl⟩ ?_ ?_
      · rintro t σ G ht ⟨bG, PG, v9, v10, v11, v12, v13, v14, v15, rfl⟩
        have hcG := hc5.same (off_but bG)
        obtain ⟨xs, ha0, lx, hx⟩ := hc5.at
        obtain ⟨na, ha⟩ := off_some ha0
        refine ⟨_, rfl, _, rfl, a, _, rfl, .inl (SqL.of (bG _ _ na ha)), draw_ok (by omega) (by omega) PG (by omega) (fun d1 G1 l1 b1 P1 => ?_)⟩
        have B1 := bG.trans b1
        refine ⟨_, rfl, _, rfl, a, _, rfl, .inl (SqL.of (B1 _ _ na ha)), draw_ok (by omega) (by omega) P1 (by omega) (fun d2 G2 l2 b2 P2 => ?_)⟩
        refine ⟨_, rfl, draw_ok (by decide) (by decide) P2 (by omega) (fun d3 G3 l3 b3 P3 => ?_)⟩
        refine ⟨_, rfl, draw_ok (by decide) (by decide) P3 (by omega) (fun d4 G4 l4 b4 P4 => ⟨(by show 4 ≤ sizeLine; omega), fun T4 hT4 => ?_⟩)⟩
        have sT := Same.updf (o := .tup [.int (d1 : Int), .int (d2 : Int), .int (d3 : Int), .int (d4 : Int)]) hT4
        refine ⟨T4, _, rfl, SqT.of upd_same, rfl, _, _, rfl, _, _, rfl, _, _, rfl, _, _, rfl, rfl, ?_⟩
        generalize upd G4 T4 (.tup [.int (d1 : Int), .int (d2 : Int), .int (d3 : Int), .int (d4 : Int)]) = G5 at sT ⊢
        have B5 := B1.trans (b2.trans (b3.trans (b4.trans (But.of sT))))
        have P5' := P4.same sT
        have eTG := B5 _ _ Tp eT5
        have hG5 := (hc5.same (off_but B5)).same (off_le G5 pu)
        clear b1 b2 b3 b4 B1 P1 P2 P3 P4 sT hT4
        refine ⟨_, rfl, _, rfl, _, rfl, _, rfl, _, rfl, _, rfl, a, T, c, m, d1, d2, os, d3, d4, rfl, hG5, g.toGood, by omega, by omega, eTG, lo, fun G6 s6 => ?_⟩
        refine ⟨_, rfl, _, rfl, _, rfl, _, rfl, _, rfl, _, rfl, a, c, m, d1, d2, .ref T, some os, d3, d4, rfl, hG5.same s6, g.toGood, by omega, by omega, .pic (s6 _ _ eTG) lo, fun G7 s7 => ?_⟩
        have s57 := s6.trans s7
        refine ⟨_, rfl, _, rfl, _, rfl, _, rfl, T, _, rfl, .inl (SqL.of (s57 _ _ eTG)), fun L hL => ?_⟩
        have sL := Same.updf (o := .lst (os.map oV)) hL
        have eL : upd G7 L (.lst (os.map oV)) L = some (.lst (os.map oV)) := upd_same
        generalize upd G7 L (.lst (os.map oV)) = G8 at sL eL ⊢
        have s58 := s57.trans sL
        refine ⟨_, rfl, _, rfl, a, c, m, d2, d1, .ref L, some os, d3, d4, rfl, hG5.same s58, g.toGood, by omega, by omega, .pic eL lo, fun G9 s9 => ?_⟩
        have s59 := s58.trans s9
        rw [shB_swap (c.getD d2 []) (c.getD d1 [])]
        generalize shB (c.getD d1 []) (c.getD d2 []) (some os) d3 d4 = bb
        refine ⟨(by show 2 ≤ sizeLine; omega), fun A1 h1 => ?_⟩
        have t1 := Same.updf (o := .lst [.bl bb, .bl bb]) h1
        have f1 : upd G9 A1 (.lst [.bl bb, .bl bb]) A1 = some (.lst [.bl bb, .bl bb]) := upd_same
        generalize upd G9 A1 (.lst [.bl bb, .bl bb]) = GA at t1 f1 ⊢
        refine ⟨_, rfl, _, rfl, (by show 2 ≤ sizeLine; omega), fun A2 h2 => ?_⟩
        have t2 := Same.updf (o := .lst [.bl bb, .bl bb]) h2
        have f2 : upd GA A2 (.lst [.bl bb, .bl bb]) A2 = some (.lst [.bl bb, .bl bb]) := upd_same
        generalize upd GA A2 (.lst [.bl bb, .bl bb]) = GB at t2 f2 ⊢
        refine ⟨.ref A1, .ref A2, .list [.bool bb, .bool bb], rfl, Tr.lst (t2 _ _ f1) rfl (show 2 ≤ 1000 by decide) (tr_cons (Tr.flat (.bl _)) (tr_cons (Tr.flat (.bl _)) tr_nil)), Tr.lst f2 rfl (show 2 ≤ 1000 by decide) (tr_cons (Tr.flat (.bl _)) (tr_cons (Tr.flat (.bl _)) tr_nil)), fun GC sC => ⟨_, rfl, iteF ?_⟩⟩
        have sAll := s59.trans (t1.trans (t2.trans sC))
        exact ⟨B5.trans (But.of sAll), (P5'.same sAll).mono (by omega), _, _, _, _, _, _, _, rfl⟩
      · rintro σ G ⟨bG, PG, v9, v10, v11, v12, v13, v14, v15, rfl⟩
        have b06 := b05.trans bG
        refine ⟨_, rfl, _, rfl, pu, b, c', m', 0, 0, _, rfl, PG, by omega, hc'.same (off_but b06), g', by omega, by omega, fun q T2 i3 j3 os2 H6 b6 P6 nq nT eq eT lo2 li3 lj3 _ => ?_⟩
        refine ⟨q, _, 2, .ref T2, rfl, rfl, SqL.of eq, atI_nat (j := 2) rfl, ?_⟩
        refine ⟨_, rfl, _, rfl, b, T2, c', m', os2, 0, 0, rfl, (hc'.same (off_but (b06.trans b6))).same (off_le H6 pu), g'.toGood, eT, lo2, fun H7 s7 => ⟨_, rfl, iteF ?_⟩⟩
        exact ⟨(b06.trans b6).trans (But.of s7), (P6.same s7).mono (by omega), _, _, _, _, _, _, _, _, _, _, _, _, _, rfl⟩
    · rintro σ G ⟨bG, PG, v3, v4, v5, v6, v7, v8, v9, v10, v11, v12, v13, v14, v15, rfl⟩
      exact k _ bG (PG.mono (by omega))
end
end K06
set_option Elab.async false
set_option linter.all false
set_option maxRecDepth 100000
set_option maxHeartbeats 8000000
/-! What cells tell is right. -/
namespace K06
open PySem PySem.Spec PyProof.Rows L2 KB
def spCellsR (K : PySem.W.Frag) : Sp := fun vs H Q _ => ∃ (pu a : Addr) (c : List (List Nat)) (m N : Nat), vs = [.ref pu, .ref a] ∧ Purse H pu N ∧ N + 10000 ≤ 2 ^ 38 ∧ CodeAt (KB.off H pu) a c ∧ Drawn c m ∧
  ∀ H', But pu H H' → Purse H' pu (N + 1000) → Q (.bl true) H'
theorem tup_ne {pu T : Addr} {H : Hp} {N : Nat} {xs : List V} (hP : Purse H pu N) (h : H T = some (.tup xs)) : T ≠ pu := fun z => by
  rw [z] at h
  obtain ⟨_, _, _, _, e, _⟩ := hP
  rw [e] at h
  cases h
theorem code_but {pu a : Addr} {H : Hp} {c : List (List Nat)} (h : CodeAt (KB.off H pu) a c) : ∃ xs, a ≠ pu ∧ H a = some (.lst xs) ∧ xs.length = c.length := by
  obtain ⟨xs, h1, h2⟩ := h
  obtain ⟨n, h3⟩ := off_some h1
  exact ⟨xs, n, h3, h2.length.symm⟩
section
variable {P : Program} {w : World} {K : PySem.W.Frag} {mg : Str → Option Value} {base : Heap}
abbrev s_cells_right : Stmt := top 53
abbrev N_cells_right : List Str := ["_law_purse_here", "_law_code", "_law_many", "_law_spots", "_law_mixed_here", "_law_turn", "_law_pair", "_law_late", "_law_due", "_law_part"]
theorem sc_cells_right : FnScope N_cells_right ["_law_purse_here", "_law_code"] (defScope s_cells_right) := ⟨rfl, rfl, rfl, by decide +kernel, rfl, by decide +kernel, by decide +kernel⟩
theorem ok_cells_right {f : Addr} {fd : FuncData} (F : FnP K "_law_cells_right" s_cells_right f fd) (Z : FreeS mg)
    {f_triples : Addr} {d_triples : FuncData} (g_triples : mg "_law_triples" = some (.ref f_triples)) (F_triples : FnP K "_law_triples" s_triples f_triples d_triples) (G_triples : FnOk P w K mg base CX0 1 f_triples d_triples ["_law_many"] spTriples)
    {f_shuffled : Addr} {d_shuffled : FuncData} (g_shuffled : mg "_law_shuffled" = some (.ref f_shuffled)) (F_shuffled : FnP K "_law_shuffled" s_shuffled f_shuffled d_shuffled) (G_shuffled : FnOk P w K mg base CX0 3 f_shuffled d_shuffled ["_law_purse_here", "_law_some"] (spShuffled K))
    {f_parted : Addr} {d_parted : FuncData} (g_parted : mg "_law_parted" = some (.ref f_parted)) (F_parted : FnP K "_law_parted" s_parted f_parted d_parted) (G_parted : FnOk P w K mg base CX0 1 f_parted d_parted ["_law_code", "_law_pair", "_law_late"] (spLParted K))
    {f_exact : Addr} {d_exact : FuncData} (g_exact : mg "_law_exact" = some (.ref f_exact)) (F_exact : FnP K "_law_exact" s_exact f_exact d_exact) (GA_exact : ∀ n : Nat, FnOk P w K mg base CX0 (n + 1) f_exact d_exact ["_law_mine", "_law_theirs"] (spExact n))
    {f_cells_unlike : Addr} {d_cells_unlike : FuncData} (g_cells_unlike : mg "cells_unlike" = some (.ref f_cells_unlike)) (F_cells_unlike : FnP K "cells_unlike" s_cells_unlike f_cells_unlike d_cells_unlike) (G_cells_unlike : FnOk P w K mg base CX0 6 f_cells_unlike d_cells_unlike ["code", "one", "other", "third"] spCellsU)
    {f_unlike : Addr} {d_unlike : FuncData} (g_unlike : mg "_law_unlike" = some (.ref f_unlike)) (F_unlike : FnP K "_law_unlike" s_unlike f_unlike d_unlike) (G_unlike : FnOk P w K mg base CX0 1 f_unlike d_unlike ["_law_code", "_law_spots"] (spLUnlike K))
    {f_draw : Addr} {d_draw : FuncData} (g_draw : mg "_law_draw" = some (.ref f_draw)) (F_draw : FnP K "_law_draw" s_draw f_draw d_draw) (G_draw : FnOk P w K mg base CX0 2 f_draw d_draw ["_law_purse_here", "_law_many"] drawI)
    {f_cells_parted : Addr} {d_cells_parted : FuncData} (g_cells_parted : mg "cells_parted" = some (.ref f_cells_parted)) (F_cells_parted : FnP K "cells_parted" s_cells_parted f_cells_parted d_cells_parted) (G_cells_parted : FnOk P w K mg base CX0 6 f_cells_parted d_cells_parted ["code", "pair", "late"] (spCellsP K)) :
    FnOk P w K mg base CX0 7 f fd ["_law_purse_here", "_law_code"] (spCellsR K) := by
  have b_triples : Binds K d_triples ["_law_many"] [] := F_triples.bindsN fun _ _ _ _ _ _ us hl => match us, hl with | [_], _ => rfl
  have b_shuffled : Binds K d_shuffled ["_law_purse_here", "_law_some"] [] := F_shuffled.bindsN fun _ _ _ _ _ _ us hl => match us, hl with | [_, _], _ => rfl
  have b_parted : Binds K d_parted ["_law_code", "_law_pair", "_law_late"] [] := F_parted.bindsN fun _ _ _ _ _ _ us hl => match us, hl with | [_, _, _], _ => rfl
  have b_exact : Binds K d_exact ["_law_mine", "_law_theirs"] [] := F_exact.bindsN fun _ _ _ _ _ _ us hl => match us, hl with | [_, _], _ => rfl
  have b_cells_unlike : Binds K d_cells_unlike ["code", "one", "other", "third"] [] := F_cells_unlike.bindsN fun _ _ _ _ _ _ us hl => match us, hl with | [_, _, _, _], _ => rfl
  have b_unlike : Binds K d_unlike ["_law_code", "_law_spots"] [] := F_unlike.bindsN fun _ _ _ _ _ _ us hl => match us, hl with | [_, _], _ => rfl
  have b_draw : Binds K d_draw ["_law_purse_here", "_law_many"] [] := F_draw.bindsN fun _ _ _ _ _ _ us hl => match us, hl with | [_, _], _ => rfl
  have b_cells_parted : Binds K d_cells_parted ["code", "pair", "late"] [] := F_cells_parted.bindsN fun _ _ _ _ _ _ us hl => match us, hl with | [_, _, _], _ => rfl
  refine F.ok sc_cells_right (fun vs H Q E h => ?_) (fun cdv A outer s H vs Q E hr h => ?_)
  · obtain ⟨pu, a, c, m, N, rfl, _⟩ := h
    rfl
  · obtain ⟨pu, a, c, m, N, rfl, hP, hN, hc, g, k⟩ := h
    have g2 := g.two
    have g5 := g.five
    have m1 := g.cells
    have m7 := g.seven
    have sl : (100000 : Nat) < sizeLine := by decide
    obtain ⟨xs, na, ha, lx⟩ := code_but hc
    have nd := sc_cells_right.nd
    refine ⟨_, PSs.nox (pss_cons (ps_set (i := 2) nd rfl (Or.inr rfl) (pe_callB call_len_seq (by rfl) Z.len (by decide +kernel) (pa_cons (pv 1) (pa_nil))))
      (pss_cons (ps_for PassesOwn.never rfl (pi_list (pe_call G_triples (hr.mono (by decide)) rfl g_triples F_triples.kp b_triples .nil pass0 (pa_cons (pv 2) (pa_nil)))) (pg_name (i := 3) nd rfl (Or.inl rfl))
        (pss_cons (ps_set (i := 4) nd rfl (Or.inl rfl) (pe_call G_shuffled (hr.mono (by decide)) rfl g_shuffled F_shuffled.kp b_shuffled .nil pass0 (pa_cons (pv 0) (pa_cons (pe_callTy call_list_of (by rfl) Z.tlist (by decide +kernel) (pa_cons (pv 3) (pa_nil))) (pa_nil)))))
      (pss_one (ps_if (pt_not (pt_val (pe_call (GA_exact 5) (hr.mono (by decide)) rfl g_exact F_exact.kp b_exact .nil pass0 (pa_cons (pe_call G_cells_unlike (hr.mono (by decide)) rfl g_cells_unlike F_cells_unlike.kp b_cells_unlike .nil pass0 (pa_cons (pv 1) (pa_cons (pe_ix ix_list (pv 4) (pe_int) (fun _ _ => rfl)) (pa_cons (pe_ix ix_list (pv 4) (pe_int) (fun _ _ => rfl)) (pa_cons (pe_ix ix_list (pv 4) (pe_int) (fun _ _ => rfl)) (pa_nil)))))) (pa_cons (pe_call G_unlike (hr.mono (by decide)) rfl g_unlike F_unlike.kp b_unlike .nil pass0 (pa_cons (pv 1) (pa_cons (pv 3) (pa_nil)))) (pa_nil)))))) (pss_one (ps_ret (pe_bl))) (pss_nil)))))
      (pss_cons (ps_for PassesOwn.never rfl (pi_range1 (by rfl) Z.range (pa_cons (pe_int) (pa_nil))) (pg_name (i := 5) nd rfl (Or.inl rfl))
        (pss_cons (ps_asg (pe_lc (own := [("_law_part", 9)]) (g := gName 9) (tt := tYes) (te := tTup (tCons (tCall drawI [] E0 (tCons (tVar 0) (tCons (tVar 2) (tNil)))) (tCons (tCall drawI [] E0 (tCons (tVar 0) (tCons (tVar 2) (tNil)))) (tNil)))) (by rfl) nd (pi_range1 (by rfl) Z.range (pa_cons (pe_int) (pa_nil)))
          (blkOk_by (own := [("_law_part", 9)]) (N := N_cells_right) (sc := defScope s_cells_right) (by decide +kernel)) (fun _ _ _ _ _ => pg_name (i := 9) nd rfl (Or.inl rfl)) (fun _ _ _ _ _ => pts_nil)
          (fun _ _ _ _ _ => pe_tup (pa_cons (pe_call G_draw (hr.mono (by decide)) rfl g_draw F_draw.kp b_draw .nil pass0 (pa_cons (pv 0) (pa_cons (pv 2) (pa_nil)))) (pa_cons (pe_call G_draw (hr.mono (by decide)) rfl g_draw F_draw.kp b_draw .nil pass0 (pa_cons (pv 0) (pa_cons (pv 2) (pa_nil)))) (pa_nil))))) (pg_unl rfl (pgs_cons (pg_name (i := 6) nd rfl (Or.inl rfl)) (pgs_cons (pg_name (i := 7) nd rfl (Or.inl rfl)) (pgs_nil)))))
      (pss_cons (ps_set (i := 8) nd rfl (Or.inl rfl) (pe_call G_parted (hr.mono (by decide)) rfl g_parted F_parted.kp b_parted .nil pass0 (pa_cons (pv 1) (pa_cons (pv 6) (pa_cons (pv 7) (pa_nil))))))
      (pss_one (ps_if (pt_not (pt_val (pe_call (GA_exact 5) (hr.mono (by decide)) rfl g_exact F_exact.kp b_exact .nil pass0 (pa_cons (pe_lst (pa_cons (pe_call G_cells_parted (hr.mono (by decide)) rfl g_cells_parted F_cells_parted.kp b_cells_parted .nil pass0 (pa_cons (pv 1) (pa_cons (pv 6) (pa_cons (pv 7) (pa_nil))))) (pa_cons (pe_call G_cells_parted (hr.mono (by decide)) rfl g_cells_parted F_cells_parted.kp b_cells_parted .nil pass0 (pa_cons (pv 1) (pa_cons (pv 7) (pa_cons (pv 6) (pa_nil))))) (pa_nil)))) (pa_cons (pe_lst (pa_cons (pv 8) (pa_cons (pv 8) (pa_nil)))) (pa_nil)))))) (pss_one (ps_ret (pe_bl))) (pss_nil))))))
      (pss_one (ps_ret (pe_bl)))))), ?_⟩
    refine ⟨_, rfl, a, _, rfl, .inl (SqL.of ha), ?_⟩
    refine ⟨_, rfl, xs.length, rfl, by omega, fun D ys H1 s1 nD hD ly ty => ?_⟩
    have b01 := But.of (p := pu) s1
    have P1 := hP.same s1
    have Dp : D ≠ pu := fresh_ne hP nD
    refine ⟨D, rfl, ⟨_, SqL.of hD⟩, ?_⟩
    refine for_it (walk_list (K := K) (a := D) (xs := ys)) (fun i σ G => But pu H1 G ∧ Purse G pu (N + 3 * i) ∧ ∃ v3 v4 v5 v6 v7 v8 v9 : Option V, σ = [some (.ref pu), some (.ref a), some (.int (xs.length : Int)), v3, v4, v5, v6, v7, v8, v9])
      ⟨But.refl _ _, P1, _, _, _, _, _, _, _, rfl⟩ (fun i σ G _ hh => SqL.of (hh.1 _ _ Dp hD)) ?_ ?_
    · rintro i x σ G G' hi ⟨bG, PG, v3, v4, v5, v6, v7, v8, v9, rfl⟩ ⟨rfl, hv⟩
      obtain ⟨T, i1, j1, k1, rfl, hT, e1, e2, e3⟩ := ty x (List.mem_of_getElem? hv)
      have nT : T ≠ pu := tup_ne P1 hT
      have hTG := bG _ _ nT hT
      refine ⟨_, rfl, _, rfl, T, _, rfl, .inr (SqT.of hTG), fun L hL => ?_⟩
      have sL := Same.updf (o := .lst [.int (i1 : Int), .int (j1 : Int), .int (k1 : Int)]) hL
      refine ⟨pu, L, N + 3 * i, numsV [i1, j1, k1], rfl, PG.same sL, (show N + 3 * i + 3 ≤ 2 ^ 38 by omega), fresh_ne PG hL, upd_same, (show 3 ≤ 100000 by decide), fun q L' H2 b2 P2 nq hq pL => ?_⟩
      obtain ⟨r', rfl, pr⟩ := nums_perm pL
      obtain ⟨a1, a2, a3, rfl⟩ := perm3 pr
      have P2' : Purse H2 pu (N + 3 * (i + 1)) := P2.mono (by show N + 3 * i + 3 ≤ _; omega)
      have b02 := b01.trans (bG.trans ((But.of sL).trans b2))
      have hTG2 := b2 _ _ nT (sL _ _ hTG)
      have hc2 := (hc.same (off_but b02)).same (off_le H2 pu)
      have nd3 : [a1, a2, a3].Nodup := pr.nodup_iff.mpr (by simp; omega)
      have mem : ∀ x ∈ [a1, a2, a3], x < c.length := fun x hx => by
        have := pr.mem_iff.mp hx
        simp at this
        omega
      have m1' := mem a1 (by simp)
      have m2' := mem a2 (by simp)
      have m3' := mem a3 (by simp)
      simp only [List.nodup_cons, List.mem_cons, List.not_mem_nil, or_false, not_or] at nd3
      have b12 := bG.trans ((But.of sL).trans b2)
      clear b2 P2 sL hL pL
      refine ⟨_, rfl, _, rfl, q, _, 0, .int (a1 : Int), rfl, rfl, SqL.of hq, atI_nat (j := 0) rfl, ?_⟩
      refine ⟨_, rfl, q, _, 1, .int (a2 : Int), rfl, rfl, SqL.of hq, atI_nat (j := 1) rfl, ?_⟩
      refine ⟨_, rfl, q, _, 2, .int (a3 : Int), rfl, rfl, SqL.of hq, atI_nat (j := 2) rfl, ?_⟩
      refine ⟨a, c, m, a1, a2, a3, rfl, hc2, g.toGood, ⟨m1', m2', m3'⟩, ⟨by omega, by omega, by omega⟩, fun H3 s3 => ?_⟩
      refine ⟨_, rfl, _, rfl, a, T, c, m, i1, j1, k1, rfl, hc2.same s3, g.toGood, SqT.of (s3 _ _ hTG2), ⟨by omega, by omega, by omega⟩, fun H4 s4 => ?_⟩
      rw [unl3_perm pr]
      refine ⟨_, _, _, rfl, Tr.flat (.int _), Tr.flat (.int _), fun H5 s5 => ⟨_, rfl, iteF ?_⟩⟩
      have s25 := s3.trans (s4.trans s5)
      exact ⟨b12.trans (But.of s25), P2'.same s25, _, _, _, _, _, _, _, rfl⟩
    · rintro σ G ⟨bG, PG, v3, v4, v5, v6, v7, v8, v9, rfl⟩
      have b0G := b01.trans bG
      clear bG
      refine ⟨_, rfl, by decide, by decide, ?_⟩
      refine for_range (lo := 0) (n := 5) (fun i σ G => But pu H G ∧ Purse G pu (N + 400 + 4 * i) ∧ ∃ v3 v4 v5 v6 v7 v8 v9 : Option V, σ = [some (.ref pu), some (.ref a), some (.int (xs.length : Int)), v3, v4, v5, v6, v7, v8, v9])
        ⟨b0G, PG.mono (by omega), _, _, _, _, _, _, _, rfl⟩ ?_ ?_
      · rintro i σ G hi ⟨bG, PG, v3, v4, v5, v6, v7, v8, v9, rfl⟩
        refine ⟨_, rfl, by decide, by decide, fun D2 hD2 => ?_⟩
        have nD2 : D2 ≠ pu := fresh_ne PG hD2
        refine lc_but (n := 2) (pu := pu) (N := N + 400 + 4 * i) (cost := 2) (walk_range (lo := 0) (n := 2)) (fun _ y G => ∃ (T : Addr) (p : Nat × Nat), y = .ref T ∧ G T = some (.tup [.int (p.1 : Int), .int (p.2 : Int)]) ∧ p.1 < c.length ∧ p.2 < c.length) (fun _ y G G2 s ⟨T, p, e, h, r⟩ => ⟨T, p, e, s _ _ h, r⟩) (by decide) PG hD2 (fun G _ => trivial) ?_ ?_
        · rintro t x G2 G3 Qy Qn ht b2 P2 hacc ⟨rfl, rfl⟩ ky
          obtain ⟨acc, hacc⟩ := hacc
          refine ⟨rfl, _, rfl, _, rfl, draw_ok (by omega) (by omega) P2 (by omega) (fun d1 G4 l1 b4 P4 => ?_)⟩
          refine ⟨_, rfl, _, rfl, draw_ok (by omega) (by omega) P4 (by omega) (fun d2 G5 l2 b5 P5 => ⟨(by show 2 ≤ sizeLine; omega), fun T hT => ?_⟩)⟩
          have sT := Same.updf (o := .tup [.int (d1 : Int), .int (d2 : Int)]) hT
          have nTD : T ≠ D2 := fun z => by rw [z, b5 _ _ nD2 (b4 _ _ nD2 hacc)] at hT; cases hT
          exact ky _ _ (b4.trans (b5.trans (But.of sT))) ((P5.same sT).mono (by omega)) ⟨T, (d1, d2), rfl, off2_at nTD (fresh_ne P5 hT) upd_same, by show d1 < _; omega, by show d2 < _; omega⟩
        intro G2 zs b2 P2 hz pz
        obtain ⟨y1, y2, rfl, ⟨T, p, rfl, hT, p1, p2⟩, ⟨U, q, rfl, hU, q1, q2⟩⟩ : ∃ y1 y2, zs = [y1, y2] ∧ (∃ (T : Addr) (p : Nat × Nat), y1 = .ref T ∧ off2 G2 D2 pu T = some (.tup [.int (p.1 : Int), .int (p.2 : Int)]) ∧ p.1 < c.length ∧ p.2 < c.length) ∧ (∃ (T : Addr) (p : Nat × Nat), y2 = .ref T ∧ off2 G2 D2 pu T = some (.tup [.int (p.1 : Int), .int (p.2 : Int)]) ∧ p.1 < c.length ∧ p.2 < c.length) := by
          cases pz with
          | cons h t => cases t with
            | cons h2 t2 => cases t2 with
              | nil => exact ⟨_, _, rfl, h, h2⟩
        obtain ⟨_, nT, hT⟩ := off2_some hT
        obtain ⟨_, nU, hU⟩ := off2_some hU
        have b02 := bG.trans b2
        have hc2 := (hc.same (off_but b02)).same (off_le G2 pu)
        refine ⟨D2, [.ref T, .ref U], rfl, SqL.of hz, rfl, _, _, rfl, _, _, rfl, rfl, ?_⟩
        have tT : PrT K G2 T p := SqT.of hT
        have tU : PrT K G2 U q := SqT.of hU
        refine ⟨_, rfl, _, rfl, _, rfl, a, T, U, c, m, p, q, rfl, hc2, g.toGood, tT, tU, ⟨p1, p2, q1, q2⟩, fun H3 s3 => ?_⟩
        refine ⟨_, rfl, _, rfl, _, rfl, a, T, U, c, m, p, q, rfl, hc2.same s3, g.toGood, SqT_up s3 tT, SqT_up s3 tU, ⟨p1, p2, q1, q2⟩, fun H4 s4 => ?_⟩
        have s34 := s3.trans s4
        refine ⟨_, rfl, _, rfl, _, rfl, a, U, T, c, m, q, p, rfl, hc2.same s34, g.toGood, SqT_up s34 tU, SqT_up s34 tT, ⟨q1, q2, p1, p2⟩, fun H5 s5 => ?_⟩
        rw [ptd_swap c m q p]
        have s35 := s34.trans s5
        generalize ((ptd c m p q).length : Int) = z
        refine ⟨(by show 2 ≤ sizeLine; omega), fun A1 h1 => ?_⟩
        have t1 := Same.updf (o := .lst [.int z, .int z]) h1
        have f1 : upd H5 A1 (.lst [.int z, .int z]) A1 = some (.lst [.int z, .int z]) := upd_same
        generalize upd H5 A1 (.lst [.int z, .int z]) = GA at t1 f1 ⊢
        refine ⟨_, rfl, _, rfl, (by show 2 ≤ sizeLine; omega), fun A2 h2 => ?_⟩
        have t2 := Same.updf (o := .lst [.int z, .int z]) h2
        have f2 : upd GA A2 (.lst [.int z, .int z]) A2 = some (.lst [.int z, .int z]) := upd_same
        generalize upd GA A2 (.lst [.int z, .int z]) = GB at t2 f2 ⊢
        refine ⟨.ref A1, .ref A2, .list [.int z, .int z], rfl, Tr.lst (t2 _ _ f1) rfl (show 2 ≤ 1000 by decide) (tr_cons (Tr.flat (.int _)) (tr_cons (Tr.flat (.int _)) tr_nil)), Tr.lst f2 rfl (show 2 ≤ 1000 by decide) (tr_cons (Tr.flat (.int _)) (tr_cons (Tr.flat (.int _)) tr_nil)), fun GC sC => ⟨_, rfl, iteF ?_⟩⟩
        have sAll := s35.trans (t1.trans (t2.trans sC))
        exact ⟨b02.trans (But.of sAll), (P2.same sAll).mono (by omega), _, _, _, _, _, _, _, rfl⟩
      · rintro σ G ⟨bG, PG, v3, v4, v5, v6, v7, v8, v9, rfl⟩
        exact k _ bG (PG.mono (by omega))
end
end K06
set_option Elab.async false
set_option linter.all false
set_option maxRecDepth 100000
set_option maxHeartbeats 8000000
/-! Other objects are none. -/
namespace K06
open PySem PySem.Spec PyProof.Rows L2 KB
def spOthersR (K : PySem.W.Frag) : Sp := fun vs H Q _ => ∃ (a : Addr) (c : List (List Nat)) (m : Nat), vs = [.ref a] ∧ CodeAt H a c ∧ Drawn c m ∧ ∀ H', Same H H' → Q (.bl true) H'
theorem twosR_none (c : List (List Nat)) (ch un : Nat) : twosR c none ch un = [] := by
  unfold twosR
  rw [List.filter_eq_nil_iff]
  intro p _
  exact Bool.false_ne_true
theorem toldL_nil (n : Nat) : toldL n [] = [] := by
  unfold toldL
  simp
theorem cut_last (r : List Nat) (h : 1 ≤ r.length) : (cutV (numsV r) none (some (-1))).length = r.length - 1 := by
  unfold cutV
  have e2 : HT.sIx (numsV r).length (numsV r).length (some (-1)) = r.length - 1 := by
    unfold HT.sIx
    rw [numsV_len]
    simp
    omega
  rw [e2, HT.sIx_none, List.drop_zero, Nat.sub_zero, List.length_take, numsV_len]
  omega
section
variable {P : Program} {w : World} {K : PySem.W.Frag} {mg : Str → Option Value} {base : Heap}
abbrev s_others_right : Stmt := top 54
abbrev N_others_right : List Str := ["_law_code", "_law_value", "_law_things", "_law_sign", "_law_thing"]
theorem sc_others_right : FnScope N_others_right ["_law_code"] (defScope s_others_right) := ⟨rfl, rfl, rfl, by decide +kernel, rfl, by decide +kernel, by decide +kernel⟩
theorem ok_others_right {f : Addr} {fd : FuncData} (F : FnP K "_law_others_right" s_others_right f fd) (Z : FreeS mg)
    {f_twos : Addr} {d_twos : FuncData} (g_twos : mg "twos" = some (.ref f_twos)) (F_twos : FnP K "twos" s_twos f_twos d_twos) (G_twos : FnOk P w K mg base CX0 6 f_twos d_twos ["code", "value", "changed", "unread"] (spTwos K))
    {f_told_pages : Addr} {d_told_pages : FuncData} (g_told_pages : mg "told_pages" = some (.ref f_told_pages)) (F_told_pages : FnP K "told_pages" s_told_pages f_told_pages d_told_pages) (G_told_pages : FnOk P w K mg base CX0 7 f_told_pages d_told_pages ["code", "value", "changed", "unread"] (spToldPages K))
    {f_told_page : Addr} {d_told_page : FuncData} (g_told_page : mg "told_page" = some (.ref f_told_page)) (F_told_page : FnP K "told_page" s_told_page f_told_page d_told_page) (G_told_page : FnOk P w K mg base CX0 8 f_told_page d_told_page ["code", "value", "changed", "unread"] (spToldPage K)) :
    FnOk P w K mg base CX0 9 f fd ["_law_code"] (spOthersR K) := by
  have b_twos : Binds K d_twos ["code", "value", "changed", "unread"] [] := F_twos.bindsN fun _ _ _ _ _ _ us hl => match us, hl with | [_, _, _, _], _ => rfl
  have b_told_pages : Binds K d_told_pages ["code", "value", "changed", "unread"] [] := F_told_pages.bindsN fun _ _ _ _ _ _ us hl => match us, hl with | [_, _, _, _], _ => rfl
  have b_told_page : Binds K d_told_page ["code", "value", "changed", "unread"] [] := F_told_page.bindsN fun _ _ _ _ _ _ us hl => match us, hl with | [_, _, _, _], _ => rfl
  refine F.ok sc_others_right (fun vs H Q E h => ?_) (fun cdv A outer s H vs Q E hr h => ?_)
  · obtain ⟨a, c, m, rfl, _⟩ := h
    rfl
  · obtain ⟨a, c, m, rfl, hc, g, k⟩ := h
    have g2 := g.two
    have g5 := g.five
    have m1 := g.cells
    have m7 := g.seven
    have sl : (100000 : Nat) < sizeLine := by decide
    have hu2 : (A.deeper (envOfC "_law_others_right" (defScope s_others_right) s.heap.objs.size f cdv)).units < cLine := by
      have := hr.un
      omega
    obtain ⟨xs, ha, lx, hx⟩ := hc.at
    obtain ⟨p, z1, z2⟩ := hx 0 (by omega)
    have l0 := g.len _ (List.getElem_mem (show 0 < c.length by omega))
    have sg0 := g.sign _ (List.getElem_mem (show 0 < c.length by omega))
    generalize c[0] = r at z2 l0 sg0
    have nd := sc_others_right.nd
    refine ⟨_, PSs.nox (pss_cons (ps_set (i := 1) nd rfl (Or.inl rfl) (pe_ix ix_list (pv 0) (pe_int) (fun _ _ => rfl)))
      (pss_cons (ps_set (i := 2) nd rfl (Or.inl rfl) (pe_lst (pa_cons (pe_non) (pa_cons (pe_int) (pa_cons (pe_bl) (pa_cons (pe_str) (pa_cons (pe_str) (pa_cons (pe_dnewK) (pa_cons (pe_tup (pa_nil)) (pa_cons (pe_lst (pa_nil)) (pa_cons (pe_callTy call_tuple_ofR (by rfl) Z.ttuple (by decide +kernel) (pa_cons (pv 1) pa_nil)) (pa_cons (pe_slice sl_list (pv 1) (po_none) (po_some (pe_un un_neg (pe_int)))) (pa_cons (pe_op op_cat (pv 1) (pe_lst (pa_cons (pe_int) (pa_nil)))) (pa_cons (pe_lst (pa_cons (pv 1) (pa_nil))) (pa_cons (pe_lc (own := [("_law_sign", 3)]) (g := gName 3) (tt := tYes) (by rfl) nd (pi_list (pv 1))
          (blkOk_by (own := [("_law_sign", 3)]) (N := N_others_right) (sc := defScope s_others_right) (by decide +kernel)) (fun _ _ _ _ _ => pg_name (i := 3) nd rfl (Or.inl rfl)) (fun _ _ _ _ _ => pts_nil)
          (fun _ _ _ _ _ => pe_callTy call_str_int (by rfl) Z.tstr (by decide +kernel) (pa_cons (pv 3) (pa_nil)))) (pa_cons (pe_op op_rep (pe_lst (pa_cons (pe_un un_neg (pe_int)) (pa_nil))) (pe_callB call_len_seq (by rfl) Z.len (by decide +kernel) (pa_cons (pv 1) (pa_nil)))) (pa_cons (pe_op op_rep (pe_lst (pa_cons (pe_bl) (pa_nil))) (pe_callB call_len_seq (by rfl) Z.len (by decide +kernel) (pa_cons (pv 1) (pa_nil)))) (pa_nil))))))))))))))))))
      (pss_one (ps_ret (pe_not (pe_callB (cr_any rfl) (by rfl) Z.any (by decide +kernel) (pa_cons (pe_lc (own := [("_law_thing", 4)]) (g := gName 4) (tt := tYes) (te := tOrV (tOp (rEmp K true) (tCall (spTwos K) [] E0 (tCons (tVar 0) (tCons (tVar 4) (tCons (tC (.int 9)) (tCons (tC (.int 9)) (tNil)))))) (tLst (tNil))) (tOrV (tOp (rEmp K true) (tCall (spToldPages K) [] E0 (tCons (tVar 0) (tCons (tVar 4) (tCons (tC (.int 9)) (tCons (tC (.int 9)) (tNil)))))) (tLst (tNil))) (tOp rNotN (tCall (spToldPage K) [] E0 (tCons (tVar 0) (tCons (tVar 4) (tCons (tC (.int 9)) (tCons (tC (.int 9)) (tNil)))))) (tC .non)))) (by rfl) nd (pi_list (pv 2))
          (blkOk_by (own := [("_law_thing", 4)]) (N := N_others_right) (sc := defScope s_others_right) (by decide +kernel)) (fun _ _ _ _ _ => pg_name (i := 4) nd rfl (Or.inl rfl)) (fun _ _ _ _ _ => pts_nil)
          (fun _ _ _ _ _ => pe_or (pe_cmpR (op_neE hu2) (pe_call G_twos (hr.mono (by decide)) rfl g_twos F_twos.kp b_twos .nil pass0 (pa_cons (pv 0) (pa_cons (pv 4) (pa_cons (pe_int) (pa_cons (pe_int) (pa_nil)))))) (pe_lst (pa_nil)) (nomark _)) (pe_or (pe_cmpR (op_neE hu2) (pe_call G_told_pages (hr.mono (by decide)) rfl g_told_pages F_told_pages.kp b_told_pages .nil pass0 (pa_cons (pv 0) (pa_cons (pv 4) (pa_cons (pe_int) (pa_cons (pe_int) (pa_nil)))))) (pe_lst (pa_nil)) (nomark _)) (pe_one (pe_cmpR op_notN (pe_call G_told_page (hr.mono (by decide)) rfl g_told_page F_told_page.kp b_told_page .nil pass0 (pa_cons (pv 0) (pa_cons (pv 4) (pa_cons (pe_int) (pa_cons (pe_int) (pa_nil)))))) (pe_non) (nomark _)))))) (pa_nil)))))))), ?_⟩
    refine ⟨_, rfl, a, xs, 0, .ref p, rfl, rfl, SqL.of ha, atI_nat (j := 0) z1, ?_⟩
    obtain ⟨G0, hG0⟩ : ∃ G, G = H := ⟨_, rfl⟩
    rw [← hG0] at z2 ha ⊢
    have s0 : Same H G0 := by rw [hG0]; exact Same.refl _
    clear hG0
    intro d hd
    have s1 := Same.updf (o := .dK []) hd
    have e1 : upd G0 d (.dK []) d = some (.dK []) := upd_same
    generalize upd G0 d (.dK []) = G1 at s1 e1 ⊢
    refine ⟨Nat.zero_le _, fun T hT => ?_⟩
    have s2 := Same.updf (o := .tup []) hT
    have e2 : upd G1 T (.tup []) T = some (.tup []) := upd_same
    generalize upd G1 T (.tup []) = G2 at s2 e2 ⊢
    refine ⟨Nat.zero_le _, fun L0 h0 => ?_⟩
    have s3 := Same.updf (o := .lst []) h0
    have e3 : upd G2 L0 (.lst []) L0 = some (.lst []) := upd_same
    generalize upd G2 L0 (.lst []) = G3 at s3 e3 ⊢
    have z3 := s3 _ _ (s2 _ _ (s1 _ _ z2))
    refine ⟨_, rfl, p, _, rfl, .inl ⟨SqL.of z3, fun T2 h2 => ?_⟩⟩
    have s4 := Same.updf (o := .tup (numsV r)) h2
    have e4 : upd G3 T2 (.tup (numsV r)) T2 = some (.tup (numsV r)) := upd_same
    generalize upd G3 T2 (.tup (numsV r)) = G4 at s4 e4 ⊢
    have z4 := s4 _ _ z3
    refine ⟨_, rfl, _, rfl, _, rfl, p, _, rfl, SqL.of z4, fun S hS => ?_⟩
    have s5 := Same.updf (o := .lst (cutV (numsV r) none (some (-1)))) hS
    have e5 : upd G4 S (.lst (cutV (numsV r) none (some (-1)))) S = some (.lst (cutV (numsV r) none (some (-1)))) := upd_same
    generalize upd G4 S (.lst (cutV (numsV r) none (some (-1)))) = G5 at s5 e5 ⊢
    have z5 := s5 _ _ z4
    refine ⟨_, rfl, (by show 1 ≤ sizeLine; omega), fun L1 h1 => ?_⟩
    have s6 := Same.updf (o := .lst [.int 0]) h1
    have e6 : upd G5 L1 (.lst [.int 0]) L1 = some (.lst [.int 0]) := upd_same
    generalize upd G5 L1 (.lst [.int 0]) = G6 at s6 e6 ⊢
    have z6 := s6 _ _ z5
    refine ⟨p, L1, _, _, rfl, rfl, z6, e6, (by rw [numsV_len]; show r.length + 1 ≤ sizeLine; omega), fun C hC => ?_⟩
    have s7 := Same.updf (o := .lst (numsV r ++ [.int 0])) hC
    have e7 : upd G6 C (.lst (numsV r ++ [.int 0])) C = some (.lst (numsV r ++ [.int 0])) := upd_same
    generalize upd G6 C (.lst (numsV r ++ [.int 0])) = G7 at s7 e7 ⊢
    have z7 := s7 _ _ z6
    refine ⟨_, rfl, (by show 1 ≤ sizeLine; omega), fun W hW => ?_⟩
    have s8 := Same.updf (o := .lst [.ref p]) hW
    have e8 : upd G7 W (.lst [.ref p]) W = some (.lst [.ref p]) := upd_same
    generalize upd G7 W (.lst [.ref p]) = G8 at s8 e8 ⊢
    have z8 := s8 _ _ z7
    refine ⟨_, rfl, p, rfl, ⟨_, SqL.of z8⟩, fun X hX => ?_⟩
    refine lc_sel (n := r.length) (by have := walk_list (K := K) (a := p) (xs := numsV r); rw [numsV_len] at this; exact this) (fun i => some (.str (Str.ofString (toString ((r.getD i 0 : Nat) : Int))))) (by omega) hX (fun G s => SqL.of (s _ _ z8)) ?_ ?_
    · rintro i v G2 G3 Qy Qn hi s2' ⟨rfl, hv⟩ ky kn
      obtain ⟨hi2, rfl⟩ := numsV_at hv
      have := sg0 _ (List.getElem_mem hi2)
      refine ⟨rfl, _, rfl, _, rfl, ?_, ky _ _ (Same.refl _) ?_⟩
      · have : ((r[i] : Int)).natAbs < 2 ^ 1920 := by
          have h1 : ((r[i] : Int)).natAbs ≤ 100 := by omega
          exact Nat.lt_of_le_of_lt h1 (by decide)
        by_cases z : ((r[i] : Int)).natAbs = 0
        · rw [z]
          decide
        · exact (Nat.log2_lt z).mpr this
      · rw [List.getD_eq_getElem?_getD, List.getElem?_eq_getElem hi2]
        rfl
    intro G9 s9 hX9
    have z9 := s9 _ _ z8
    generalize hxs : ((List.range r.length).filterMap fun i => some (V.str (Str.ofString (toString ((r.getD i 0 : Nat) : Int))))) = tx at hX9
    have htx : tx.length = r.length ∧ ∀ x ∈ tx, ∃ z, x = V.str z := by
      rw [← hxs, List.filterMap_eq_map']
      refine ⟨by rw [List.length_map, List.length_range], fun x hx => ?_⟩
      obtain ⟨i, _, rfl⟩ := List.mem_map.mp hx
      exact ⟨_, rfl⟩
    clear hxs
    refine ⟨_, rfl, (by show 1 ≤ sizeLine; omega), fun L2' h2' => ?_⟩
    have s10 := Same.updf (o := .lst [.int (-1)]) h2'
    have e10 : upd G9 L2' (.lst [.int (-1)]) L2' = some (.lst [.int (-1)]) := upd_same
    generalize upd G9 L2' (.lst [.int (-1)]) = G10 at s10 e10 ⊢
    have z10 := s10 _ _ z9
    refine ⟨_, rfl, p, _, rfl, .inl (SqL.of z10), L2', _, _, rfl, rfl, e10, by rw [numsV_len]; omega, by rw [numsV_len]; omega, by rw [numsV_len]; show 1 * ((r.length : Nat) : Int).toNat ≤ sizeLine; omega, fun Y hY => ?_⟩
    rw [numsV_len, flat_rep, show ((r.length : Nat) : Int).toNat = r.length by omega]
    have s11 := Same.updf (o := .lst (List.replicate r.length (.int (-1)))) hY
    have e11 : upd G10 Y (.lst (List.replicate r.length (.int (-1)))) Y = some (.lst (List.replicate r.length (.int (-1)))) := upd_same
    generalize upd G10 Y (.lst (List.replicate r.length (.int (-1)))) = G11 at s11 e11 ⊢
    have z11 := s11 _ _ z10
    refine ⟨(by show 1 ≤ sizeLine; omega), fun L3 h3 => ?_⟩
    have s12 := Same.updf (o := .lst [.bl true]) h3
    have e12 : upd G11 L3 (.lst [.bl true]) L3 = some (.lst [.bl true]) := upd_same
    generalize upd G11 L3 (.lst [.bl true]) = G12 at s12 e12 ⊢
    have z12 := s12 _ _ z11
    refine ⟨_, rfl, p, _, rfl, .inl (SqL.of z12), L3, _, _, rfl, rfl, e12, by rw [numsV_len]; omega, by rw [numsV_len]; omega, by rw [numsV_len]; show 1 * ((r.length : Nat) : Int).toNat ≤ sizeLine; omega, fun Z hZ => ?_⟩
    rw [numsV_len, flat_rep, show ((r.length : Nat) : Int).toNat = r.length by omega]
    have s13 := Same.updf (o := .lst (List.replicate r.length (.bl true))) hZ
    have e13 : upd G12 Z (.lst (List.replicate r.length (.bl true))) Z = some (.lst (List.replicate r.length (.bl true))) := upd_same
    generalize upd G12 Z (.lst (List.replicate r.length (.bl true))) = G13 at s13 e13 ⊢
    have z13 := s13 _ _ z12
    refine ⟨(by show 15 ≤ sizeLine; omega), fun TH hTH => ?_⟩
    have s14 := Same.updf (o := .lst [.non, .int 0, .bl true, .str (Str.ofString ""), .str (Str.ofString "none"), .ref d, .ref T, .ref L0, .ref T2, .ref S, .ref C, .ref W, .ref X, .ref Y, .ref Z]) hTH
    have e14 : upd G13 TH (.lst [.non, .int 0, .bl true, .str (Str.ofString ""), .str (Str.ofString "none"), .ref d, .ref T, .ref L0, .ref T2, .ref S, .ref C, .ref W, .ref X, .ref Y, .ref Z]) TH = some (.lst [.non, .int 0, .bl true, .str (Str.ofString ""), .str (Str.ofString "none"), .ref d, .ref T, .ref L0, .ref T2, .ref S, .ref C, .ref W, .ref X, .ref Y, .ref Z]) := upd_same
    generalize upd G13 TH (.lst [.non, .int 0, .bl true, .str (Str.ofString ""), .str (Str.ofString "none"), .ref d, .ref T, .ref L0, .ref T2, .ref S, .ref C, .ref W, .ref X, .ref Y, .ref Z]) = G14 at s14 e14 ⊢
    have t13 := s14
    have t12 := s13.trans t13
    have t11 := s12.trans t12
    have t10 := s11.trans t11
    have t9 := s10.trans t10
    have t8 := s9.trans t9
    have t7 := s8.trans t8
    have t6 := s7.trans t7
    have t5 := s6.trans t6
    have t4 := s5.trans t5
    have t3 := s4.trans t4
    have t2 := s3.trans t3
    have t1 := s2.trans t2
    have t0 := s1.trans t1
    have s0' := s0.trans t0
    clear hd hT h0 h2 hS h1 hC hW hX h2' hY h3 hZ hTH s1 s2 s3 s4 s5 s6 s7 s8 s9 s10 s11 s12 s13 s14
    have zz := t13 _ _ z13
    have elt : ∀ (Z : Addr) (vs : List V), G14 Z = some (.lst vs) → vs.length = m → (∀ v ∈ vs, v ≠ .non ∧ CntV K G14 v false) → Odd K G14 m (.ref Z) := fun Z vs h l hv => .inr ⟨Z, vs, rfl, h, by omega, .inr ⟨List.replicate vs.length false, by rw [List.length_replicate], by rw [l]; exact List.mem_replicate.mpr ⟨by omega, rfl⟩, fun i x b h1 h2 => by
      have hb : b = false := List.eq_of_mem_replicate (List.mem_of_getElem? h2)
      rw [hb]
      exact .inr (hv x (List.mem_of_getElem? h1))⟩⟩
    have odd : ∀ v ∈ ([.non, .int 0, .bl true, .str (Str.ofString ""), .str (Str.ofString "none"), .ref d, .ref T, .ref L0, .ref T2, .ref S, .ref C, .ref W, .ref X, .ref Y, .ref Z] : List V), Odd K G14 m v := by
      intro v hv
      simp only [List.mem_cons, List.not_mem_nil, or_false] at hv
      rcases hv with rfl | rfl | rfl | rfl | rfl | rfl | rfl | rfl | rfl | rfl | rfl | rfl | rfl | rfl | rfl
      · exact .inl ⟨_, .base .non, by decide +kernel⟩
      · exact .inl ⟨_, .base (.int _), by decide +kernel⟩
      · exact .inl ⟨_, .base (.bl _), by decide +kernel⟩
      · exact .inl ⟨_, .base (.str _), by decide +kernel⟩
      · exact .inl ⟨_, .base (.str _), by decide +kernel⟩
      · exact .inl ⟨_, .base (.dK (t1 _ _ e1)), by decide +kernel⟩
      · exact .inl ⟨_, .base (.tup (t2 _ _ e2)), by decide +kernel⟩
      · exact .inr ⟨L0, _, rfl, t3 _ _ e3, by show 0 ≤ 1000; omega, .inl (by show 0 ≠ m; omega)⟩
      · exact .inl ⟨_, .base (.tup (t4 _ _ e4)), by decide +kernel⟩
      · have lc : (cutV (numsV r) none (some (-1))).length = r.length - 1 := cut_last r (by omega)
        exact .inr ⟨S, _, rfl, t5 _ _ e5, by omega, .inl (by omega)⟩
      · exact .inr ⟨C, _, rfl, t7 _ _ e7, by rw [List.length_append, numsV_len]; show r.length + 1 ≤ 1000; omega, .inl (by rw [List.length_append, numsV_len]; show r.length + 1 ≠ m; omega)⟩
      · by_cases hm : m = 1
        · exact elt W _ (t8 _ _ e8) (by rw [hm]; rfl) (fun v hv => by
            rw [List.mem_singleton.mp hv]
            exact ⟨fun z => (by cases z), CntV.lst zz⟩)
        · exact .inr ⟨W, _, rfl, t8 _ _ e8, (by show 1 ≤ 1000; omega), .inl (by show 1 ≠ m; omega)⟩
      · exact elt X _ (t9 _ _ hX9) (by omega) (fun v hv => by
          obtain ⟨z, rfl⟩ := htx.2 v hv
          exact ⟨fun z => (by cases z), CntV.str z⟩)
      · exact elt Y _ (t11 _ _ e11) (by rw [List.length_replicate]; exact l0) (fun v hv => by
          rw [List.eq_of_mem_replicate hv]
          exact ⟨fun z => (by cases z), CntV.int (-1)⟩)
      · exact elt Z _ (t13 _ _ e13) (by rw [List.length_replicate]; exact l0) (fun v hv => by
          rw [List.eq_of_mem_replicate hv]
          exact ⟨fun z => (by cases z), CntV.bl true⟩)
    clear elt t1 t2 t3 t4 t5 t6 t7 t8 t9 t10 t11 t12 t13 e1 e2 e3 e4 e5 e6 e7 e8 e10 e11 e12 e13 z2 z3 z4 z5 z6 z7 z8 z9 z10 z11 z12 z13 zz hX9 htx tx
    refine ⟨_, rfl, TH, rfl, ⟨_, SqL.of e14⟩, fun D hD => ?_⟩
    have hc14 := hc.same s0'
    refine lc_sel (n := 15) (walk_list (K := K) (a := TH) (xs := [.non, .int 0, .bl true, .str (Str.ofString ""), .str (Str.ofString "none"), .ref d, .ref T, .ref L0, .ref T2, .ref S, .ref C, .ref W, .ref X, .ref Y, .ref Z])) (fun _ => some (.bl false)) (by decide) hD (fun G s => SqL.of (s _ _ e14)) ?_ ?_
    · rintro i v G2 G3 Qy Qn hi sH ⟨rfl, hv⟩ ky kn
      have ho := (odd v (List.mem_of_getElem? hv)).up sH
      have hcG := hc14.same sH
      refine ⟨rfl, _, rfl, _, rfl, a, c, m, v, none, 9, 9, rfl, hcG, g.toGood, .odd ho, fun D1 G4 s4 n4 hP4 => ⟨(by show 0 ≤ sizeLine; omega), fun b hb => ?_⟩⟩
      rw [twosR_none] at hP4
      obtain ⟨ys, hy, py⟩ := hP4
      obtain rfl : ys = [] := by
        cases py
        rfl
      have sb := Same.updf (o := .lst []) hb
      refine ⟨D1, b, [], rfl, rfl, SqL.of (sb _ _ hy), SqL.of upd_same, ?_⟩
      refine ⟨false, rfl, iteF ?_⟩
      refine ⟨_, rfl, _, rfl, a, c, m, v, none, 9, 9, rfl, (hcG.same s4).same sb, g.toGood, .odd ((ho.up s4).up sb), fun q G5 s5 n5 e5 => ⟨(by show 0 ≤ sizeLine; omega), fun b2 hb2 => ?_⟩⟩
      rw [twosR_none, toldL_nil] at e5
      have sb2 := Same.updf (o := .lst []) hb2
      refine ⟨q, b2, [], rfl, rfl, SqL.of (sb2 _ _ e5), SqL.of upd_same, false, rfl, iteF ?_⟩
      have s25 := (s4.trans sb).trans (s5.trans sb2)
      refine ⟨_, rfl, _, rfl, a, c, m, v, none, 9, 9, rfl, hcG.same s25, g.toGood, .odd (ho.up s25), fun G6 s6 => ?_⟩
      rw [twosR_none, toldL_nil]
      refine ⟨rfl, ?_⟩
      exact ky _ _ (s25.trans s6) rfl
    · intro G2 s2 hR
      refine ⟨D, List.replicate 15 false, rfl, SqL.of hR, false, rfl, ?_⟩
      exact k _ (s0'.trans s2)
end
end K06
set_option Elab.async false
set_option linter.all false
set_option maxRecDepth 100000
set_option maxHeartbeats 8000000
/-! The law. -/
namespace K06
open PySem PySem.Spec PyProof.Rows L2 KB
def spLaw (K : PySem.W.Frag) : Sp := fun vs H Q _ => ∃ (a : Addr) (ns : List Int), vs = [.ref a] ∧ SqL K H a (ns.map V.int) ∧ ∀ H', Q (.bl true) H'
theorem mergeS {J R : Hp → Addr → Prop} {goal : Prop} (a : (∀ G q, J G q → R G q) → goal) (b : ∀ G q, J G q → R G q) : goal := a b
def codeD (c : List (List Nat)) : PyData := .list (c.map fun r => .list (numsD r))
theorem tr_code {H : Hp} {a : Addr} {c : List (List Nat)} (h : CodeAt H a c) (l : c.length ≤ 1000) (l2 : ∀ r ∈ c, r.length ≤ 1000) : Tr H 2 (.ref a) (codeD c) := by
  obtain ⟨xs, h1, h2⟩ := h
  refine Tr.lst h1 (by rw [List.length_map, h2.length]) (by rw [List.length_map]; exact l) fun i u e e1 e2 => ?_
  obtain ⟨r, e3, T, rfl, hT⟩ := paired_get2 h2 e1
  rw [List.getElem?_map, e3] at e2
  cases e2
  exact tr_nums hT (l2 r (List.mem_of_getElem? e3))
theorem Drawn.l1000 {c : List (List Nat)} {m : Nat} (g : Drawn c m) : c.length ≤ 1000 ∧ ∀ r ∈ c, r.length ≤ 1000 := by
  have h1 := g.five
  have h2 := g.seven
  exact ⟨by omega, fun r hr => by have := g.len r hr; omega⟩
section
variable {P : Program} {w : World} {K : PySem.W.Frag} {mg : Str → Option Value} {base : Heap}
abbrev s_law : Stmt := top 55
abbrev N_law : List Str := ["_law_script", "_law_purse_here", "_law_turn", "_law_code", "_law_other", "_law_kept", "_law_is_changed", "_law_is_unread", "_law_lists", "_law_value", "_law_page"]
theorem sc_law : FnScope N_law ["_law_script"] (defScope s_law) := ⟨rfl, rfl, rfl, by decide +kernel, rfl, by decide +kernel, by decide +kernel⟩
theorem ok_law {f : Addr} {fd : FuncData} (F : FnP K "law" s_law f fd) (Z : FreeS mg)
    {f_purses : Addr} {d_purses : FuncData} (g_purses : mg "_law_purses" = some (.ref f_purses)) (F_purses : FnP K "_law_purses" s_purses f_purses d_purses) (G_purses : FnOk P w K mg base CX0 2 f_purses d_purses ["_law_script", "_law_few"] (spPurses K))
    {f_same : Addr} {d_same : FuncData} (g_same : mg "_law_same" = some (.ref f_same)) (F_same : FnP K "_law_same" s_same f_same d_same) (GA_same : ∀ n : Nat, FnOk P w K mg base CX0 (n + 1) f_same d_same ["_law_thing"] (spSame n))
    {f_drawn_code : Addr} {d_drawn_code : FuncData} (g_drawn_code : mg "_law_drawn_code" = some (.ref f_drawn_code)) (F_drawn_code : FnP K "_law_drawn_code" s_drawn_code f_drawn_code d_drawn_code) (G_drawn_code : FnOk P w K mg base CX0 5 f_drawn_code d_drawn_code ["_law_purse_here"] spDrawnC)
    {f_exact : Addr} {d_exact : FuncData} (g_exact : mg "_law_exact" = some (.ref f_exact)) (F_exact : FnP K "_law_exact" s_exact f_exact d_exact) (GA_exact : ∀ n : Nat, FnOk P w K mg base CX0 (n + 1) f_exact d_exact ["_law_mine", "_law_theirs"] (spExact n))
    {f_all_lists : Addr} {d_all_lists : FuncData} (g_all_lists : mg "_law_all_lists" = some (.ref f_all_lists)) (F_all_lists : FnP K "_law_all_lists" s_all_lists f_all_lists d_all_lists) (G_all_lists : FnOk P w K mg base CX0 1 f_all_lists d_all_lists ["_law_code", "_law_is_changed", "_law_is_unread"] spAllL)
    {f_pictures_right : Addr} {d_pictures_right : FuncData} (g_pictures_right : mg "_law_pictures_right" = some (.ref f_pictures_right)) (F_pictures_right : FnP K "_law_pictures_right" s_pictures_right f_pictures_right d_pictures_right) (G_pictures_right : FnOk P w K mg base CX0 10 f_pictures_right d_pictures_right ["_law_purse_here", "_law_code", "_law_other"] (spPicsR K))
    {f_cells_right : Addr} {d_cells_right : FuncData} (g_cells_right : mg "_law_cells_right" = some (.ref f_cells_right)) (F_cells_right : FnP K "_law_cells_right" s_cells_right f_cells_right d_cells_right) (G_cells_right : FnOk P w K mg base CX0 7 f_cells_right d_cells_right ["_law_purse_here", "_law_code"] (spCellsR K))
    {f_others_right : Addr} {d_others_right : FuncData} (g_others_right : mg "_law_others_right" = some (.ref f_others_right)) (F_others_right : FnP K "_law_others_right" s_others_right f_others_right d_others_right) (G_others_right : FnOk P w K mg base CX0 9 f_others_right d_others_right ["_law_code"] (spOthersR K))
    {f_shuffled : Addr} {d_shuffled : FuncData} (g_shuffled : mg "_law_shuffled" = some (.ref f_shuffled)) (F_shuffled : FnP K "_law_shuffled" s_shuffled f_shuffled d_shuffled) (G_shuffled : FnOk P w K mg base CX0 3 f_shuffled d_shuffled ["_law_purse_here", "_law_some"] (spShuffled K))
    {f_list_right : Addr} {d_list_right : FuncData} (g_list_right : mg "_law_list_right" = some (.ref f_list_right)) (F_list_right : FnP K "_law_list_right" s_list_right f_list_right d_list_right) (G_list_right : FnOk P w K mg base CX0 9 f_list_right d_list_right ["_law_code", "_law_value", "_law_changed", "_law_unread"] (spListR K))
    {f_told : Addr} {d_told : FuncData} (g_told : mg "_law_told" = some (.ref f_told)) (F_told : FnP K "_law_told" s_told f_told d_told) (G_told : FnOk P w K mg base CX0 1 f_told d_told ["_law_pairs", "_law_many"] spLTold)
    {f_told_pages : Addr} {d_told_pages : FuncData} (g_told_pages : mg "told_pages" = some (.ref f_told_pages)) (F_told_pages : FnP K "told_pages" s_told_pages f_told_pages d_told_pages) (G_told_pages : FnOk P w K mg base CX0 7 f_told_pages d_told_pages ["code", "value", "changed", "unread"] (spToldPages K))
    {f_l_twos : Addr} {d_l_twos : FuncData} (g_l_twos : mg "_law_twos" = some (.ref f_l_twos)) (F_l_twos : FnP K "_law_twos" s_l_twos f_l_twos d_l_twos) (G_l_twos : FnOk P w K mg base CX0 2 f_l_twos d_l_twos ["_law_code", "_law_value", "_law_changed", "_law_unread"] (spLTwos K)) :
    FnOk P w K mg base CX0 11 f fd ["_law_script"] (spLaw K) := by
  have b_purses : Binds K d_purses ["_law_script", "_law_few"] [] := F_purses.bindsN fun _ _ _ _ _ _ us hl => match us, hl with | [_, _], _ => rfl
  have b_same : Binds K d_same ["_law_thing"] [] := F_same.bindsN fun _ _ _ _ _ _ us hl => match us, hl with | [_], _ => rfl
  have b_drawn_code : Binds K d_drawn_code ["_law_purse_here"] [] := F_drawn_code.bindsN fun _ _ _ _ _ _ us hl => match us, hl with | [_], _ => rfl
  have b_exact : Binds K d_exact ["_law_mine", "_law_theirs"] [] := F_exact.bindsN fun _ _ _ _ _ _ us hl => match us, hl with | [_, _], _ => rfl
  have b_all_lists : Binds K d_all_lists ["_law_code", "_law_is_changed", "_law_is_unread"] [] := F_all_lists.bindsN fun _ _ _ _ _ _ us hl => match us, hl with | [_, _, _], _ => rfl
  have b_pictures_right : Binds K d_pictures_right ["_law_purse_here", "_law_code", "_law_other"] [] := F_pictures_right.bindsN fun _ _ _ _ _ _ us hl => match us, hl with | [_, _, _], _ => rfl
  have b_cells_right : Binds K d_cells_right ["_law_purse_here", "_law_code"] [] := F_cells_right.bindsN fun _ _ _ _ _ _ us hl => match us, hl with | [_, _], _ => rfl
  have b_others_right : Binds K d_others_right ["_law_code"] [] := F_others_right.bindsN fun _ _ _ _ _ _ us hl => match us, hl with | [_], _ => rfl
  have b_shuffled : Binds K d_shuffled ["_law_purse_here", "_law_some"] [] := F_shuffled.bindsN fun _ _ _ _ _ _ us hl => match us, hl with | [_, _], _ => rfl
  have b_list_right : Binds K d_list_right ["_law_code", "_law_value", "_law_changed", "_law_unread"] [] := F_list_right.bindsN fun _ _ _ _ _ _ us hl => match us, hl with | [_, _, _, _], _ => rfl
  have b_told : Binds K d_told ["_law_pairs", "_law_many"] [] := F_told.bindsN fun _ _ _ _ _ _ us hl => match us, hl with | [_, _], _ => rfl
  have b_told_pages : Binds K d_told_pages ["code", "value", "changed", "unread"] [] := F_told_pages.bindsN fun _ _ _ _ _ _ us hl => match us, hl with | [_, _, _, _], _ => rfl
  have b_l_twos : Binds K d_l_twos ["_law_code", "_law_value", "_law_changed", "_law_unread"] [] := F_l_twos.bindsN fun _ _ _ _ _ _ us hl => match us, hl with | [_, _, _, _], _ => rfl
  refine F.ok sc_law (fun vs H Q E h => ?_) (fun cdv A outer s H vs Q E hr h => ?_)
  · obtain ⟨a, ns, rfl, _⟩ := h
    rfl
  · obtain ⟨a, ns, rfl, hS, k⟩ := h
    have sl : (100000 : Nat) ≤ sizeLine := by decide
    have nd := sc_law.nd
    refine ⟨_, PSs.nox (pss_cons (ps_for PassesOwn.never rfl (pi_list (pe_call G_purses (hr.mono (by decide)) rfl g_purses F_purses.kp b_purses .nil pass0 (pa_cons (pv 0) (pa_cons (pe_int) (pa_nil))))) (pg_name (i := 1) nd rfl (Or.inl rfl))
        (pss_one (ps_for PassesOwn.never rfl (pi_range1 (by rfl) Z.range (pa_cons (pe_int) (pa_nil))) (pg_name (i := 2) nd rfl (Or.inl rfl))
        (pss_cons (ps_par (i := 3) (j := 4) rfl nd rfl rfl (by decide) rfl rfl (pa_cons (pe_call G_drawn_code (hr.mono (by decide)) rfl g_drawn_code F_drawn_code.kp b_drawn_code .nil pass0 (pa_cons (pv 1) (pa_nil))) (pa_cons (pe_call G_drawn_code (hr.mono (by decide)) rfl g_drawn_code F_drawn_code.kp b_drawn_code .nil pass0 (pa_cons (pv 1) (pa_nil))) (pa_nil))) rfl)
      (pss_cons (ps_set (i := 5) nd rfl (Or.inl rfl) (pe_call (GA_same 5) (hr.mono (by decide)) rfl g_same F_same.kp b_same .nil pass0 (pa_cons (pe_lst (pa_cons (pv 3) (pa_cons (pv 4) (pa_nil)))) (pa_nil))))
      (pss_cons (ps_for PassesOwn.never rfl (pi_tup (pe_tup (pa_cons (pe_tup (pa_cons (pe_int) (pa_cons (pe_int) (pa_nil)))) (pa_cons (pe_tup (pa_cons (pe_int) (pa_cons (pe_int) (pa_nil)))) (pa_cons (pe_tup (pa_cons (pe_int) (pa_cons (pe_int) (pa_nil)))) (pa_nil)))))) (pg_tup rfl (pgs_cons (pg_name (i := 6) nd rfl (Or.inl rfl)) (pgs_cons (pg_name (i := 7) nd rfl (Or.inl rfl)) (pgs_nil))))
        (pss_cons (ps_set (i := 8) nd rfl (Or.inl rfl) (pe_ifExp (pt_cmpR op_lt (pe_callB call_len_seq (by rfl) Z.len (by decide +kernel) (pa_cons (pe_ix ix_list (pv 3) (pe_int) (fun _ _ => rfl)) (pa_nil))) (pe_int) (nomark _)) (pe_call G_all_lists (hr.mono (by decide)) rfl g_all_lists F_all_lists.kp b_all_lists .nil pass0 (pa_cons (pv 3) (pa_cons (pv 6) (pa_cons (pv 7) (pa_nil))))) (pe_lst (pa_nil))))
      (pss_one (ps_for PassesOwn.never rfl (pi_list (pe_ifExp (pt_cmpR op_lt (pe_callB call_len_seq (by rfl) Z.len (by decide +kernel) (pa_cons (pv 8) (pa_nil))) (pe_int) (nomark _)) (pv 8) (pe_slice sl_list (pe_call G_shuffled (hr.mono (by decide)) rfl g_shuffled F_shuffled.kp b_shuffled .nil pass0 (pa_cons (pv 1) (pa_cons (pv 8) (pa_nil)))) (po_none) (po_some (pe_int))))) (pg_name (i := 9) nd rfl (Or.inl rfl))
        (pss_one (ps_if (pt_not (pt_val (pe_call G_list_right (hr.mono (by decide)) rfl g_list_right F_list_right.kp b_list_right .nil pass0 (pa_cons (pv 3) (pa_cons (pv 9) (pa_cons (pv 6) (pa_cons (pv 7) (pa_nil)))))))) (pss_one (ps_ret (pe_bl))) (pss_nil)))))))
      (pss_cons (ps_if (PW.pt (pw_or (pt_not (pt_val (pe_call G_pictures_right (hr.mono (by decide)) rfl g_pictures_right F_pictures_right.kp b_pictures_right .nil pass0 (pa_cons (pv 1) (pa_cons (pv 3) (pa_cons (pv 4) (pa_nil))))))) (pw_or (pt_not (pt_val (pe_call G_cells_right (hr.mono (by decide)) rfl g_cells_right F_cells_right.kp b_cells_right .nil pass0 (pa_cons (pv 1) (pa_cons (pv 3) (pa_nil)))))) (pw_or1 (pt_not (pt_val (pe_call G_others_right (hr.mono (by decide)) rfl g_others_right F_others_right.kp b_others_right .nil pass0 (pa_cons (pv 3) (pa_nil))))))))) (pss_one (ps_ret (pe_bl))) (pss_nil))
      (pss_cons (ps_for PassesOwn.never rfl (pi_range1 (by rfl) Z.range (pa_cons (pe_callB call_len_seq (by rfl) Z.len (by decide +kernel) (pa_cons (pv 3) (pa_nil))) (pa_nil))) (pg_name (i := 10) nd rfl (Or.inl rfl))
        (pss_one (ps_if (pt_not (pt_val (pe_call (GA_exact 5) (hr.mono (by decide)) rfl g_exact F_exact.kp b_exact .nil pass0 (pa_cons (pe_call G_told (hr.mono (by decide)) rfl g_told F_told.kp b_told .nil pass0 (pa_cons (pe_call G_l_twos (hr.mono (by decide)) rfl g_l_twos F_l_twos.kp b_l_twos .nil pass0 (pa_cons (pv 3) (pa_cons (pe_ix ix_list (pv 3) (pv 10) (fun _ _ => rfl)) (pa_cons (pe_int) (pa_cons (pe_int) (pa_nil)))))) (pa_cons (pe_callB call_len_seq (by rfl) Z.len (by decide +kernel) (pa_cons (pv 3) (pa_nil))) (pa_nil)))) (pa_cons (pe_call G_told_pages (hr.mono (by decide)) rfl g_told_pages F_told_pages.kp b_told_pages .nil pass0 (pa_cons (pv 3) (pa_cons (pe_callTy call_list_of (by rfl) Z.tlist (by decide +kernel) (pa_cons (pe_ix ix_list (pv 3) (pv 10) (fun _ _ => rfl)) (pa_nil))) (pa_cons (pe_int) (pa_cons (pe_int) (pa_nil)))))) (pa_nil)))))) (pss_one (ps_ret (pe_bl))) (pss_nil))))
      (pss_one (ps_if (pt_not (pt_val (pe_call (GA_exact 5) (hr.mono (by decide)) rfl g_exact F_exact.kp b_exact .nil pass0 (pa_cons (pe_lst (pa_cons (pv 3) (pa_cons (pv 4) (pa_nil)))) (pa_cons (pv 5) (pa_nil)))))) (pss_one (ps_ret (pe_bl))) (pss_nil)))))))))))
      (pss_one (ps_ret (pe_bl)))), ?_⟩
    refine ⟨_, rfl, a, ns, rfl, hS, fun q pu H1 s1 npu nq nne hq P1 => ?_⟩
    have nq' : q ≠ pu := fun z => nne z.symm
    refine ⟨q, rfl, ⟨_, SqL.of hq⟩, ?_⟩
    refine for_it (walk_list (K := K) (a := q) (xs := [V.ref pu])) (fun i σ G => Purse G pu (100000 * i) ∧ G q = some (.lst [.ref pu]) ∧ ∃ v1 v2 v3 v4 v5 v6 v7 v8 v9 v10, σ = [some (.ref a), v1, v2, v3, v4, v5, v6, v7, v8, v9, v10])
      ⟨P1, hq, none, none, none, none, none, none, none, none, none, none, rfl⟩ (fun i σ G _ hh => SqL.of hh.2.1) ?_ ?_
    · rintro i x σ G G' hi ⟨PG, hqG, v1, v2, v3, v4, v5, v6, v7, v8, v9, v10, rfl⟩ ⟨rfl, hv⟩
      obtain rfl : i = 0 := by
        have : i < 1 := hi
        omega
      cases hv
      refine ⟨_, rfl, by decide, by decide, ?_⟩
      refine for_range (lo := 0) (n := 2) (fun t σ G => Purse G pu (20000 * t) ∧ G q = some (.lst [.ref pu]) ∧ ∃ v2 v3 v4 v5 v6 v7 v8 v9 v10, σ = [some (.ref a), some (.ref pu), v2, v3, v4, v5, v6, v7, v8, v9, v10])
        ⟨PG, hqG, v2, v3, v4, v5, v6, v7, v8, v9, v10, rfl⟩ ?_ ?_
      · rintro t σ G ht ⟨PG, hqG, v2, v3, v4, v5, v6, v7, v8, v9, v10, rfl⟩
        refine ⟨_, rfl, pu, _, rfl, PG, by omega, fun qa c1 m1 G1 b1 P1 na hc1 g1 => ?_⟩
        refine ⟨_, rfl, pu, _, rfl, P1, by omega, fun qb c2 m2 G2 b2 P2 nb hc2 g2 => ⟨_, _, rfl, ?_⟩⟩
        have npa : qa ≠ pu := fresh_ne PG na
        have npb : qb ≠ pu := fresh_ne P1 nb
        have hc1 := hc1.same (off_but b2)
        have hqG2 := b2 _ _ nq' (b1 _ _ nq' hqG)
        clear b1 b2 P1 PG na nb hqG
        refine ⟨_, rfl, _, rfl, (by show 2 ≤ sizeLine; omega), fun L hL => ?_⟩
        have sL := Same.updf (o := .lst [.ref qa, .ref qb]) hL
        have eL : upd G2 L (.lst [.ref qa, .ref qb]) L = some (.lst [.ref qa, .ref qb]) := upd_same
        generalize upd G2 L (.lst [.ref qa, .ref qb]) = G3 at sL eL ⊢
        have P3 := P2.same sL
        have hc1 := hc1.same (off_but (But.of sL))
        have hc2 := hc2.same (off_but (But.of sL))
        have hqG3 := sL _ _ hqG2
        clear sL hL P2 hqG2
        have trc : ∀ G, CodeAt G qa c1 → CodeAt G qb c2 → ∀ L, G L = some (.lst [.ref qa, .ref qb]) → Tr G 5 (.ref L) (.list [codeD c1, codeD c2]) := fun G h1 h2 L hL =>
          (Tr.lst (n := 2) (ds := [codeD c1, codeD c2]) hL rfl (show 2 ≤ 1000 by decide) (tr_cons (tr_code h1 g1.l1000.1 g1.l1000.2) (tr_cons (tr_code h2 g2.l1000.1 g2.l1000.2) tr_nil))).up.up
        refine ⟨.ref L, _, rfl, trc _ (hc1.same (off_le _ _)) (hc2.same (off_le _ _)) L eL, fun y G4 s4 ty => ?_⟩
        have ty4 : Tr (KB.off G4 pu) 5 y (.list [codeD c1, codeD c2]) := ty.same (fun b o e => by
          have n := nw_none e
          rw [KB.off_at (fresh_ne P3 n)]
          exact nw_le _ _ _ _ e)
        have P4 := P3.same s4
        have hc1 := hc1.same (off_but (But.of s4))
        have hc2 := hc2.same (off_but (But.of s4))
        have hqG4 := s4 _ _ hqG3
        clear ty s4 P3 hqG3 eL
        refine ⟨(by show 2 ≤ sizeLine; omega), fun t1 h1 => ⟨(by show 2 ≤ sizeLine; omega), fun t2 h2 => ⟨(by show 2 ≤ sizeLine; omega), fun t3 h3 => ⟨(by show 3 ≤ sizeLine; omega), fun TT hTT => ?_⟩⟩⟩⟩
        have x1 := Same.updf (o := .tup [.int 0, .int 0]) h1
        have f1 : upd G4 t1 (.tup [.int 0, .int 0]) t1 = some (.tup [.int 0, .int 0]) := upd_same
        generalize upd G4 t1 (.tup [.int 0, .int 0]) = G5 at x1 f1 h2 h3 hTT ⊢
        have x2 := Same.updf (o := .tup [.int 1, .int 0]) h2
        have f2 : upd G5 t2 (.tup [.int 1, .int 0]) t2 = some (.tup [.int 1, .int 0]) := upd_same
        generalize upd G5 t2 (.tup [.int 1, .int 0]) = G6 at x2 f2 h3 hTT ⊢
        have x3 := Same.updf (o := .tup [.int 0, .int 1]) h3
        have f3 : upd G6 t3 (.tup [.int 0, .int 1]) t3 = some (.tup [.int 0, .int 1]) := upd_same
        generalize upd G6 t3 (.tup [.int 0, .int 1]) = G7 at x3 f3 hTT ⊢
        have x4 := Same.updf (o := .tup [.ref t1, .ref t2, .ref t3]) hTT
        have f4 : upd G7 TT (.tup [.ref t1, .ref t2, .ref t3]) TT = some (.tup [.ref t1, .ref t2, .ref t3]) := upd_same
        generalize upd G7 TT (.tup [.ref t1, .ref t2, .ref t3]) = G8 at x4 f4 ⊢
        have sA := x1.trans (x2.trans (x3.trans x4))
        have P8 := P4.same sA
        have hc1 := hc1.same (off_but (But.of sA))
        have hc2 := hc2.same (off_but (But.of sA))
        have ty8 := ty4.same (off_but (But.of sA))
        have hqG8 := sA _ _ hqG4
        have f1 := x4 _ _ (x3 _ _ (x2 _ _ f1))
        have f2 := x4 _ _ (x3 _ _ f2)
        have f3 := x4 _ _ f3
        clear x1 x2 x3 x4 sA h1 h2 h3 hTT P4 ty4 hqG4
        have nt1 := tup_ne P8 f1
        have nt2 := tup_ne P8 f2
        have nt3 := tup_ne P8 f3
        have ntT := tup_ne P8 f4
        refine ⟨TT, rfl, ⟨_, SqT.of f4⟩, ?_⟩
        refine for_it (n := 3) (walk_tup (K := K) (a := TT) (xs := [.ref t1, .ref t2, .ref t3])) (fun i σ G => But pu G8 G ∧ Purse G pu (20000 * t + 400 + 3000 * i) ∧ ∃ v6 v7 v8 v9, σ = [some (.ref a), some (.ref pu), some (.int (0 + (t : Int))), some (.ref qa), some (.ref qb), some y, v6, v7, v8, v9, v10])
          ⟨But.refl _ _, P8.mono (by omega), v6, v7, v8, v9, rfl⟩ (fun i σ G _ hh => SqT.of (hh.1 _ _ ntT f4)) ?_ ?_
        · rintro i x σ G G' hi ⟨bG, PG, v6, v7, v8, v9, rfl⟩ ⟨rfl, hv⟩
          obtain ⟨tx, ch, un, rfl, hch, hun, ftx⟩ : ∃ (tx : Addr) (ch un : Nat), x = .ref tx ∧ ch ≤ 1 ∧ un ≤ 1 ∧ G' tx = some (.tup [.int (ch : Int), .int (un : Int)]) := by
            rcases i with _ | _ | _ | i
            · cases hv
              exact ⟨t1, 0, 0, rfl, by decide, by decide, bG _ _ nt1 f1⟩
            · cases hv
              exact ⟨t2, 1, 0, rfl, by decide, by decide, bG _ _ nt2 f2⟩
            · cases hv
              exact ⟨t3, 0, 1, rfl, by decide, by decide, bG _ _ nt3 f3⟩
            · omega
          refine ⟨tx, _, rfl, SqT.of ftx, rfl, _, _, rfl, _, _, rfl, rfl, ?_⟩
          have hcG := hc1.same (off_but bG)
          obtain ⟨xs, ha0, lx, hx⟩ := hcG.at
          have ha := (off_some ha0).2
          have c2 := g1.two
          have c5 := g1.five
          obtain ⟨p0, z1, z2⟩ := hx 0 (by omega)
          have l0 := g1.len _ (List.getElem_mem (show 0 < c1.length by omega))
          refine ⟨_, rfl, qa, xs, 0, .ref p0, rfl, rfl, SqL.of ha, atI_nat (j := 0) z1, p0, _, rfl, .inl (SqL.of (off_some z2).2), _, _, rfl, rfl, _, rfl, ?_⟩
          apply mergeS (J := fun G q => But pu G8 G ∧ Purse G pu (20000 * t + 400 + 3000 * i) ∧ q ≠ pu ∧ ∃ ys, G q = some (.lst ys) ∧ ys.length ≤ 2401 ∧ ∀ y ∈ ys, RowAt m1 (KB.off G pu) y)
          · intro rest
            by_cases m5 : m1 < 5
            · refine itB (c := true) (decide_eq_true (by rw [numsV_len, l0]; omega)) (fun _ => ?_) (fun z => by cases z)
              refine ⟨_, rfl, _, rfl, _, rfl, qa, c1, m1, ch, un, rfl, hcG.same (off_le _ _), g1, by omega, hch, hun, fun q2 ys Gn sn nn hn ln tn => rest Gn q2 ⟨bG.trans (But.of sn), PG.same sn, fresh_ne PG nn, ys, hn, ?_, fun y hy => ?_⟩⟩
              · exact Nat.le_trans ln (Nat.le_trans (Nat.pow_le_pow_right (by decide) (show m1 ≤ 4 by omega)) (by decide))
              · refine (tn y hy).same fun b o e => ?_
                have n := nw_none e
                rw [KB.off_at (fresh_ne PG n)]
                exact nw_le _ _ _ _ e
            · refine itB (c := false) (decide_eq_false (by rw [numsV_len, l0]; omega)) (fun z => by cases z) (fun _ => ?_)
              refine ⟨(by show 0 ≤ sizeLine; omega), fun q2 hq2 => ?_⟩
              exact rest _ q2 ⟨bG.trans (But.of (Same.updf hq2)), PG.same (Same.updf hq2), fresh_ne PG hq2, [], upd_same, Nat.zero_le _, fun y hy => by cases hy⟩
          clear hx z1 z2 ha0 ha lx hcG PG bG ftx
          rintro G9 q2 ⟨b9, P9, nq2, ys, hq2, ly, ty⟩
          refine ⟨_, rfl, q2, _, rfl, .inl (SqL.of hq2), _, _, rfl, rfl, _, rfl, ?_⟩
          apply mergeS (J := fun G q => But pu G8 G ∧ Purse G pu (20000 * t + 400 + 3000 * (i + 1)) ∧ q ≠ pu ∧ ∃ ys, G q = some (.lst ys) ∧ ∀ y ∈ ys, RowAt m1 (KB.off G pu) y)
          · intro rest
            rcases Nat.lt_or_ge 89 ys.length with h90 | h90
            · refine itB (c := false) (decide_eq_false (by omega)) (fun z => by cases z) (fun _ => ?_)
              refine ⟨_, rfl, _, rfl, pu, q2, _, ys, rfl, P9, by omega, nq2, hq2, by omega, fun q3 L' G10 b10 P10 n10 h10 p10 => ?_⟩
              refine ⟨_, rfl, q3, _, rfl, SqL.of h10, fun q4 h4 => ?_⟩
              have s4 := Same.updf (o := .lst (cutV L' none (some 90))) h4
              have e4 : upd G10 q4 (.lst (cutV L' none (some 90))) q4 = some (.lst (cutV L' none (some 90))) := upd_same
              generalize upd G10 q4 (.lst (cutV L' none (some 90))) = G11 at s4 e4 ⊢
              refine rest G11 q4 ⟨(b9.trans b10).trans (But.of s4), (P10.same s4).mono (by omega), fresh_ne P10 h4, _, e4, fun y hy => ?_⟩
              have my : y ∈ ys := p10.mem_iff.mp (List.mem_of_mem_take (by rw [show cutV L' none (some 90) = L'.take 90 from cut_n L' 90] at hy; exact hy))
              exact ((ty y my).same (off_but b10)).same (off_but (But.of s4))
            · refine itB (c := true) (decide_eq_true (by omega)) (fun _ => ?_) (fun z => by cases z)
              exact ⟨_, rfl, rest G9 q2 ⟨b9, P9.mono (by omega), nq2, ys, hq2, ty⟩⟩
          clear ty ly hq2 nq2 P9 b9 ys
          rintro G10 q3 ⟨b10, P10, nq3, zs, hq3, tz⟩
          refine ⟨q3, rfl, ⟨_, SqL.of hq3⟩, ?_⟩
          have hcG := (hc1.same (off_but b10)).same (off_le _ _)
          refine for_it (walk_list (K := K) (a := q3) (xs := zs)) (fun j σ G => Same G10 G ∧ ∃ v9, σ = [some (.ref a), some (.ref pu), some (.int (0 + (t : Int))), some (.ref qa), some (.ref qb), some y, some (.int (ch : Int)), some (.int (un : Int)), some (.ref q2), v9, v10])
            ⟨Same.refl _, v9, rfl⟩ (fun j σ G _ hh => SqL.of (hh.1 _ _ hq3)) ?_ ?_
          · rintro j x σ G Gx hj ⟨sG, v9, rfl⟩ ⟨rfl, hv⟩
            obtain ⟨T, os, rfl, hT, lo⟩ := tz x (List.mem_of_getElem? hv)
            exact ⟨_, rfl, _, rfl, _, rfl, _, rfl, qa, T, c1, m1, os, ch, un, rfl, hcG.same sG, g1.toGood, sG _ _ (off_some hT).2, lo, fun G2 s2 => ⟨_, rfl, iteF ⟨sG.trans s2, _, rfl⟩⟩⟩
          · rintro σ G ⟨sG, v9, rfl⟩
            exact ⟨b10.trans (But.of sG), P10.same sG, _, _, _, _, rfl⟩
        · rintro σ G ⟨bG, PG, v6, v7, v8, v9, rfl⟩
          have hc1 := hc1.same (off_but bG)
          have hc2 := hc2.same (off_but bG)
          have tyG := ty8.same (off_but bG)
          have hqG := bG _ _ nq' hqG8
          clear bG f1 f2 f3 f4 ty8 hqG8 P8
          refine ⟨_, rfl, _, rfl, _, rfl, pu, qa, qb, c1, c2, m1, m2, _, rfl, PG, by omega, hc1, g1, hc2, g2, fun Ga ba Pa => ⟨_, rfl, iteF ?_⟩⟩
          have hc1 := hc1.same (off_but ba)
          have hc2 := hc2.same (off_but ba)
          have tyG := tyG.same (off_but ba)
          have hqG := ba _ _ nq' hqG
          clear ba PG
          refine ⟨_, rfl, _, rfl, pu, qa, c1, m1, _, rfl, Pa, by omega, hc1, g1, fun Gb bb Pb => ⟨_, rfl, iteF ?_⟩⟩
          have hc1 := hc1.same (off_but bb)
          have hc2 := hc2.same (off_but bb)
          have tyG := tyG.same (off_but bb)
          have hqG := bb _ _ nq' hqG
          clear bb Pa
          refine ⟨_, rfl, qa, c1, m1, rfl, hc1.same (off_le _ _), g1, fun Gc sc => ⟨_, rfl, iteF ?_⟩⟩
          have hc1 := hc1.same (off_but (But.of sc))
          have hc2 := hc2.same (off_but (But.of sc))
          have tyG := tyG.same (off_but (But.of sc))
          have hqG := sc _ _ hqG
          have Pc := Pb.same sc
          clear sc Pb
          have hcH := hc1.same (off_le _ _)
          obtain ⟨xs, ha, lx, hx⟩ := hcH.at
          have c2' := g1.two
          have c5 := g1.five
          have m7 := g1.seven
          refine ⟨_, rfl, qa, _, rfl, .inl (SqL.of ha), _, rfl, by omega, by omega, ?_⟩
          rw [show ((xs.length : Nat) : Int).toNat = c1.length by omega]
          refine for_range (lo := 0) (n := c1.length) (fun i σ G => Same Gc G ∧ ∃ v10, σ = [some (.ref a), some (.ref pu), some (.int (0 + (t : Int))), some (.ref qa), some (.ref qb), some y, v6, v7, v8, v9, v10])
            ⟨Same.refl _, v10, rfl⟩ ?_ ?_
          · rintro i σ G hi ⟨sG, v10, rfl⟩
            obtain ⟨p, f1, f2⟩ := hx i hi
            have lr := g1.len _ (List.getElem_mem hi)
            have f2' : Gc p = some (.lst ((c1[i].map some).map oV)) := by rw [← nums_oV]; exact f2
            have lo : (c1[i].map some).length = m1 := by rw [List.length_map, lr]
            have ei : (0 + (i : Int)) = ((i : Nat) : Int) := by omega
            refine ⟨_, rfl, _, rfl, _, rfl, qa, xs, (0 + (i : Int)), .ref p, rfl, rfl, SqL.of (sG _ _ ha), by rw [ei]; exact atI_nat f1, ?_⟩
            refine ⟨qa, p, c1, m1, c1[i].map some, 0, 0, rfl, hcH.same sG, g1.toGood, sG _ _ f2', lo, fun D1 H1 s1 n1 hP1 => ?_⟩
            have sG1 := sG.trans s1
            have lp := twosR_len g1.toGood (some (c1[i].map some)) 0 0
            refine ⟨_, rfl, qa, _, rfl, .inl (SqL.of (sG1 _ _ ha)), D1, _, xs.length, rfl, hP1, by omega, by omega, fun q1 H2 s2 n2 e2 => ?_⟩
            have sG2 := sG1.trans s2
            rw [lx] at e2
            refine ⟨_, rfl, _, rfl, _, rfl, qa, xs, (0 + (i : Int)), .ref p, rfl, rfl, SqL.of (sG2 _ _ ha), by rw [ei]; exact atI_nat f1, p, _, rfl, .inl (SqL.of (sG2 _ _ f2')), fun hd hh => ?_⟩
            have sh := Same.updf (o := .lst ((c1[i].map some).map oV)) hh
            refine ⟨qa, c1, m1, .ref hd, some (c1[i].map some), 0, 0, rfl, (hcH.same sG2).same sh, g1.toGood, .pic upd_same lo, fun q2 H3 s3 n3 e3 => ?_⟩
            have hlt := toldL_len c1.length (twosR c1 (some (c1[i].map some)) 0 0)
            refine ⟨.ref q1, .ref q2, .list (numsD (toldL c1.length (twosR c1 (some (c1[i].map some)) 0 0))), rfl, (tr_nums (s3 _ _ (sh _ _ e2)) (by omega)).up.up.up.up, (tr_nums e3 (by omega)).up.up.up.up, fun H4 s4 => ⟨_, rfl, iteF ?_⟩⟩
            exact ⟨sG2.trans (sh.trans (s3.trans s4)), _, rfl⟩
          · rintro σ G ⟨sG, v10, rfl⟩
            refine ⟨_, rfl, _, rfl, (by show 2 ≤ sizeLine; omega), fun L2' hL2 => ?_⟩
            have sL := Same.updf (o := .lst [.ref qa, .ref qb]) hL2
            have sGL := sG.trans sL
            refine ⟨_, rfl, .ref L2', y, _, rfl, trc _ ((hc1.same (off_le _ _)).same sGL) ((hc2.same (off_le _ _)).same sGL) L2' upd_same, (tyG.same (off_le _ _)).same sGL, fun H4 s4 => ⟨_, rfl, iteF ?_⟩⟩
            have sF := sGL.trans s4
            exact ⟨(Pc.same sF).mono (by omega), sF _ _ hqG, _, _, _, _, _, _, _, _, _, rfl⟩
      · rintro σ G ⟨PG, hqG, v2, v3, v4, v5, v6, v7, v8, v9, v10, rfl⟩
        exact ⟨PG.mono (by omega), hqG, _, _, _, _, _, _, _, _, _, _, rfl⟩
    · rintro σ G ⟨PG, hqG, v1, v2, v3, v4, v5, v6, v7, v8, v9, v10, rfl⟩
      exact k _
end
end K06
set_option Elab.async false
set_option linter.all false
set_option maxRecDepth 100000
set_option maxHeartbeats 16000000
/-! The end. -/
namespace K06
open PySem PySem.Spec PyProof.Rows L2 KB
section
variable {P : Program} {w : World} {K : PySem.W.Frag} {h : Heap} {mg : Str → Option Value} {base : Heap}
theorem facM (c : He.SaysD fa fn K) {f : He.Fa} (hf : f ∈ fa) : f.ok K = true := by
  have c1 := (He.ba (show ((fa.all fun f => f.ok K) && fn.all fun d => d.ok K) = true from congrArg (fun z : He.AlD => z.1) c)).1
  exact List.all_eq_true.mp c1 f hf
theorem facts {f : Addr} (X : K.In h) (G : h.Ns mainGlobals mg) (hfa : mg ("law" : Str) = some (.ref f)) (c : He.SaysD fa fn K) (ex : exB K = true) :
    ∃ fd : FuncData, (∀ (s : Shared) (v : Value), BindsTo s fd ⟨[v], []⟩ [("_law_script", v)]) ∧ ∀ base : Heap, K.In base → base.Ns mainGlobals mg → FnOk P w K mg base CX0 11 f fd ["_law_script"] (spLaw K) := by
  obtain ⟨d_is_whole_number, F_is_whole_number⟩ := c.def_ 0 (d := dT 6 "is_whole_number") rfl
  obtain ⟨d_is_count, F_is_count⟩ := c.def_ 1 (d := dT 7 "is_count") rfl
  obtain ⟨d_is_count_below, F_is_count_below⟩ := c.def_ 2 (d := dT 8 "is_count_below") rfl
  obtain ⟨d_is_tuple_of, F_is_tuple_of⟩ := c.def_ 3 (d := dT 9 "is_tuple_of") rfl
  obtain ⟨d_need_count, F_need_count⟩ := c.def_ 4 (d := dT 11 "need_count") rfl
  obtain ⟨d_need_changed_and_unread, F_need_changed_and_unread⟩ := c.def_ 5 (d := dT 12 "need_changed_and_unread") rfl
  obtain ⟨d_is_code, F_is_code⟩ := c.def_ 6 (d := dT 14 "is_code") rfl
  obtain ⟨d_is_row_of_signs, F_is_row_of_signs⟩ := c.def_ 7 (d := dT 15 "is_row_of_signs") rfl
  obtain ⟨d_need_code, F_need_code⟩ := c.def_ 8 (d := dT 16 "need_code") rfl
  obtain ⟨d_need_position, F_need_position⟩ := c.def_ 9 (d := dT 17 "need_position") rfl
  obtain ⟨d_shows_two, F_shows_two⟩ := c.def_ 10 (d := dT 18 "shows_two") rfl
  obtain ⟨d_all_twos, F_all_twos⟩ := c.def_ 11 (d := dT 19 "all_twos") rfl
  obtain ⟨d_is_picture, F_is_picture⟩ := c.def_ 12 (d := dT 20 "is_picture") rfl
  obtain ⟨d_twos, F_twos⟩ := c.def_ 13 (d := dT 21 "twos") rfl
  obtain ⟨d_told_pages, F_told_pages⟩ := c.def_ 14 (d := dT 22 "told_pages") rfl
  obtain ⟨d_in_all, F_in_all⟩ := c.def_ 15 (d := dT 23 "in_all") rfl
  obtain ⟨d_told_page, F_told_page⟩ := c.def_ 16 (d := dT 24 "told_page") rfl
  obtain ⟨d_unlike_cells_of_three, F_unlike_cells_of_three⟩ := c.def_ 17 (d := dT 25 "unlike_cells_of_three") rfl
  obtain ⟨d_parted_cells, F_parted_cells⟩ := c.def_ 18 (d := dT 26 "parted_cells") rfl
  obtain ⟨d_cells_unlike, F_cells_unlike⟩ := c.def_ 19 (d := dT 27 "cells_unlike") rfl
  obtain ⟨d_cells_parted, F_cells_parted⟩ := c.def_ 20 (d := dT 28 "cells_parted") rfl
  obtain ⟨d_need_two_positions, F_need_two_positions⟩ := c.def_ 21 (d := dT 29 "need_two_positions") rfl
  obtain ⟨d_purse, F_purse⟩ := c.def_ 22 (d := dT 31 "_law_purse") rfl
  obtain ⟨d_mixed, F_mixed⟩ := c.def_ 23 (d := dT 32 "_law_mixed") rfl
  obtain ⟨d_draw, F_draw⟩ := c.def_ 24 (d := dT 33 "_law_draw") rfl
  obtain ⟨d_purses, F_purses⟩ := c.def_ 25 (d := dT 34 "_law_purses") rfl
  obtain ⟨d_one_of, F_one_of⟩ := c.def_ 26 (d := dT 35 "_law_one_of") rfl
  obtain ⟨d_shuffled, F_shuffled⟩ := c.def_ 27 (d := dT 36 "_law_shuffled") rfl
  obtain ⟨d_same, F_same⟩ := c.def_ 28 (d := dT 37 "_law_same") rfl
  obtain ⟨d_exact, F_exact⟩ := c.def_ 29 (d := dT 38 "_law_exact") rfl
  obtain ⟨d_turned_cells, F_turned_cells⟩ := c.def_ 30 (d := dT 39 "_law_turned_cells") rfl
  obtain ⟨d_line_page, F_line_page⟩ := c.def_ 31 (d := dT 40 "_law_line_page") rfl
  obtain ⟨d_random_code, F_random_code⟩ := c.def_ 32 (d := dT 41 "_law_random_code") rfl
  obtain ⟨d_drawn_code, F_drawn_code⟩ := c.def_ 33 (d := dT 42 "_law_drawn_code") rfl
  obtain ⟨d_may_leave, F_may_leave⟩ := c.def_ 34 (d := dT 43 "_law_may_leave") rfl
  obtain ⟨d_l_twos, F_l_twos⟩ := c.def_ 35 (d := dT 44 "_law_twos") rfl
  obtain ⟨d_told, F_told⟩ := c.def_ 36 (d := dT 45 "_law_told") rfl
  obtain ⟨d_unlike, F_unlike⟩ := c.def_ 37 (d := dT 46 "_law_unlike") rfl
  obtain ⟨d_parted, F_parted⟩ := c.def_ 38 (d := dT 47 "_law_parted") rfl
  obtain ⟨d_triples, F_triples⟩ := c.def_ 39 (d := dT 48 "_law_triples") rfl
  obtain ⟨d_some_picture, F_some_picture⟩ := c.def_ 40 (d := dT 49 "_law_some_picture") rfl
  obtain ⟨d_all_lists, F_all_lists⟩ := c.def_ 41 (d := dT 50 "_law_all_lists") rfl
  obtain ⟨d_list_right, F_list_right⟩ := c.def_ 42 (d := dT 51 "_law_list_right") rfl
  obtain ⟨d_pictures_right, F_pictures_right⟩ := c.def_ 43 (d := dT 52 "_law_pictures_right") rfl
  obtain ⟨d_cells_right, F_cells_right⟩ := c.def_ 44 (d := dT 53 "_law_cells_right") rfl
  obtain ⟨d_others_right, F_others_right⟩ := c.def_ 45 (d := dT 54 "_law_others_right") rfl
  obtain ⟨d_law, F_law⟩ := c.def_ 46 (d := dT 55 "law") rfl
  have el : ∀ {α : Type} {l : List α} {i : Nat} {a : α}, l[i]? = some a → a ∈ l := fun h => List.mem_of_getElem? h
  have gl : ∀ {x : Str}, He.Fa.glo x ∈ fa0 → mg x = some (.ref (He.ga K x)) := fun {x} hx => He.glo_ok X G (facM c (List.mem_append_left _ hx))
  have fr : ∀ {x : Str}, He.Fa.free x ∈ fa1 → mg x = none := fun {x} hx => He.free_ok X G (facM c (List.mem_append_right _ (List.mem_append_left _ hx)))
  have f2 : ∀ {y : He.Fa}, y ∈ fa2 → y.ok K = true := fun {y} hx => facM c (List.mem_append_right _ (List.mem_append_right _ hx))
  have Z : FreeS mg := ⟨⟨fr (el (i := 0) rfl), fr (el (i := 1) rfl), fr (el (i := 2) rfl), fr (el (i := 3) rfl), fr (el (i := 4) rfl), fr (el (i := 5) rfl), fr (el (i := 6) rfl), fr (el (i := 7) rfl), fr (el (i := 8) rfl), fr (el (i := 9) rfl), fr (el (i := 10) rfl), fr (el (i := 11) rfl), fr (el (i := 12) rfl), fr (el (i := 13) rfl), fr (el (i := 14) rfl), fr (el (i := 15) rfl), fr (el (i := 16) rfl), fr (el (i := 17) rfl)⟩, fr (el (i := 18) rfl), fr (el (i := 19) rfl)⟩
  have g_is_whole_number := gl (x := "is_whole_number") (el (i := 0) rfl)
  have g_is_count := gl (x := "is_count") (el (i := 1) rfl)
  have g_is_count_below := gl (x := "is_count_below") (el (i := 2) rfl)
  have g_is_tuple_of := gl (x := "is_tuple_of") (el (i := 3) rfl)
  have g_need_count := gl (x := "need_count") (el (i := 4) rfl)
  have g_need_changed_and_unread := gl (x := "need_changed_and_unread") (el (i := 5) rfl)
  have g_is_code := gl (x := "is_code") (el (i := 6) rfl)
  have g_is_row_of_signs := gl (x := "is_row_of_signs") (el (i := 7) rfl)
  have g_need_code := gl (x := "need_code") (el (i := 8) rfl)
  have g_need_position := gl (x := "need_position") (el (i := 9) rfl)
  have g_shows_two := gl (x := "shows_two") (el (i := 10) rfl)
  have g_all_twos := gl (x := "all_twos") (el (i := 11) rfl)
  have g_is_picture := gl (x := "is_picture") (el (i := 12) rfl)
  have g_twos := gl (x := "twos") (el (i := 13) rfl)
  have g_told_pages := gl (x := "told_pages") (el (i := 14) rfl)
  have g_in_all := gl (x := "in_all") (el (i := 15) rfl)
  have g_told_page := gl (x := "told_page") (el (i := 16) rfl)
  have g_unlike_cells_of_three := gl (x := "unlike_cells_of_three") (el (i := 17) rfl)
  have g_parted_cells := gl (x := "parted_cells") (el (i := 18) rfl)
  have g_cells_unlike := gl (x := "cells_unlike") (el (i := 19) rfl)
  have g_cells_parted := gl (x := "cells_parted") (el (i := 20) rfl)
  have g_need_two_positions := gl (x := "need_two_positions") (el (i := 21) rfl)
  have g_purse := gl (x := "_law_purse") (el (i := 22) rfl)
  have g_mixed := gl (x := "_law_mixed") (el (i := 23) rfl)
  have g_draw := gl (x := "_law_draw") (el (i := 24) rfl)
  have g_purses := gl (x := "_law_purses") (el (i := 25) rfl)
  have g_one_of := gl (x := "_law_one_of") (el (i := 26) rfl)
  have g_shuffled := gl (x := "_law_shuffled") (el (i := 27) rfl)
  have g_same := gl (x := "_law_same") (el (i := 28) rfl)
  have g_exact := gl (x := "_law_exact") (el (i := 29) rfl)
  have g_turned_cells := gl (x := "_law_turned_cells") (el (i := 30) rfl)
  have g_line_page := gl (x := "_law_line_page") (el (i := 31) rfl)
  have g_random_code := gl (x := "_law_random_code") (el (i := 32) rfl)
  have g_drawn_code := gl (x := "_law_drawn_code") (el (i := 33) rfl)
  have g_may_leave := gl (x := "_law_may_leave") (el (i := 34) rfl)
  have g_l_twos := gl (x := "_law_twos") (el (i := 35) rfl)
  have g_told := gl (x := "_law_told") (el (i := 36) rfl)
  have g_unlike := gl (x := "_law_unlike") (el (i := 37) rfl)
  have g_parted := gl (x := "_law_parted") (el (i := 38) rfl)
  have g_triples := gl (x := "_law_triples") (el (i := 39) rfl)
  have g_some_picture := gl (x := "_law_some_picture") (el (i := 40) rfl)
  have g_all_lists := gl (x := "_law_all_lists") (el (i := 41) rfl)
  have g_list_right := gl (x := "_law_list_right") (el (i := 42) rfl)
  have g_pictures_right := gl (x := "_law_pictures_right") (el (i := 43) rfl)
  have g_cells_right := gl (x := "_law_cells_right") (el (i := 44) rfl)
  have g_others_right := gl (x := "_law_others_right") (el (i := 45) rfl)
  have g_law := gl (x := "law") (el (i := 46) rfl)
  have e12 := hfa.symm.trans g_law
  cases e12
  have bL := FunD.bindsA (ps := ["_law_script"]) F_law fun _ _ _ _ _ _ us hl => match us, hl with | [_], _ => rfl
  refine ⟨d_law, fun s v => bL s [v] rfl, fun base _ _ => ?_⟩
  have O_is_whole_number := ok_is_whole_number (P := P) (w := w) (base := base) F_is_whole_number Z  
  have O_is_count := ok_is_count (P := P) (w := w) (base := base) F_is_count Z g_is_whole_number F_is_whole_number O_is_whole_number 
  have O_is_count_below := ok_is_count_below (P := P) (w := w) (base := base) F_is_count_below Z g_is_count F_is_count O_is_count 
  have O_is_tuple_of := ok_is_tuple_of (P := P) (w := w) (base := base) F_is_tuple_of Z  
  have O_need_count := ok_need_count (P := P) (w := w) (base := base) F_need_count Z g_is_count F_is_count O_is_count 
  have O_need_changed_and_unread := ok_need_changed_and_unread (P := P) (w := w) (base := base) F_need_changed_and_unread Z g_need_count F_need_count O_need_count 
  have O_is_row_of_signs := ok_is_row_of_signs (P := P) (w := w) (base := base) F_is_row_of_signs Z g_is_count F_is_count O_is_count 
  have O_is_code := ok_is_code (P := P) (w := w) (base := base) F_is_code Z g_is_row_of_signs F_is_row_of_signs O_is_row_of_signs 
  have O_need_code := ok_need_code (P := P) (w := w) (base := base) F_need_code Z g_is_code F_is_code O_is_code 
  have O_need_position := ok_need_position (P := P) (w := w) (base := base) F_need_position Z g_is_count_below F_is_count_below O_is_count_below 
  have O_shows_two := ok_shows_two (P := P) (w := w) (base := base) F_shows_two Z g_is_count F_is_count O_is_count 
  have O_all_twos := ok_all_twos (P := P) (w := w) (base := base) F_all_twos Z  
  have O_is_picture := ok_is_picture (P := P) (w := w) (base := base) F_is_picture Z g_need_code F_need_code O_need_code g_need_position F_need_position O_need_position g_need_changed_and_unread F_need_changed_and_unread O_need_changed_and_unread g_shows_two F_shows_two O_shows_two 
  have O_twos := ok_twos (P := P) (w := w) (base := base) F_twos Z g_need_code F_need_code O_need_code g_need_changed_and_unread F_need_changed_and_unread O_need_changed_and_unread g_all_twos F_all_twos O_all_twos g_shows_two F_shows_two O_shows_two 
  have O_in_all := ok_in_all (P := P) (w := w) (base := base) F_in_all Z  
  have O_told_pages := ok_told_pages (P := P) (w := w) (base := base) F_told_pages Z g_twos F_twos O_twos g_in_all F_in_all O_in_all 
  have O_told_page := ok_told_page (P := P) (w := w) (base := base) F_told_page Z g_told_pages F_told_pages O_told_pages 
  have O_unlike_cells_of_three := ok_unlike_cells_of_three (P := P) (w := w) (base := base) F_unlike_cells_of_three Z  
  have O_parted_cells := ok_parted_cells (P := P) (w := w) (base := base) F_parted_cells Z  
  have O_cells_unlike := ok_cells_unlike (P := P) (w := w) (base := base) F_cells_unlike Z g_need_code F_need_code O_need_code g_need_position F_need_position O_need_position g_unlike_cells_of_three F_unlike_cells_of_three O_unlike_cells_of_three 
  have O_need_two_positions := ok_need_two_positions (P := P) (w := w) (base := base) F_need_two_positions Z g_is_tuple_of F_is_tuple_of O_is_tuple_of g_is_count_below F_is_count_below O_is_count_below 
  have O_cells_parted := ok_cells_parted (P := P) (w := w) (base := base) F_cells_parted Z g_need_code F_need_code O_need_code g_need_two_positions F_need_two_positions O_need_two_positions g_parted_cells F_parted_cells O_parted_cells 
  have O_purse := ok_purse (P := P) (w := w) (base := base) F_purse Z.toFree
  have O_draw := ok_draw (P := P) (w := w) (base := base) F_draw Z.toFree F_mixed g_mixed
  have O_drawI := drawI_eq ▸ O_draw
  have O_purse := ok_purse (P := P) (w := w) (base := base) F_purse Z.toFree
  have O_purses := ok_purses (P := P) (w := w) (base := base) F_purses Z.toFree O_purse F_purse g_purse
  have O_one_of := ok_one (P := P) (w := w) (base := base) F_one_of Z.toFree O_draw F_draw g_draw
  have O_shuffled := ok_shuffled (P := P) (w := w) (base := base) F_shuffled Z g_draw F_draw O_draw 
  have O_same := ok_same (P := P) (w := w) (base := base) F_same Z g_same
  have O_exact := ok_exact (P := P) (w := w) (base := base) F_exact Z g_exact
  have O_turned_cells := ok_turned_cells (P := P) (w := w) (base := base) F_turned_cells Z g_shuffled F_shuffled O_shuffled 
  have O_line_page := ok_line_page (P := P) (w := w) (base := base) F_line_page Z  
  have O_random_code := ok_random_code (P := P) (w := w) (base := base) F_random_code Z g_draw F_draw O_drawI 
  have O_drawn_code := ok_drawn_code (P := P) (w := w) (base := base) F_drawn_code Z g_draw F_draw O_drawI g_turned_cells F_turned_cells O_turned_cells g_random_code F_random_code O_random_code g_one_of F_one_of O_one_of g_shuffled F_shuffled O_shuffled g_line_page F_line_page O_line_page 
  have O_may_leave := ok_may_leave (P := P) (w := w) (base := base) F_may_leave Z  
  have O_l_twos := ok_l_twos (P := P) (w := w) (base := base) F_l_twos Z g_may_leave F_may_leave O_may_leave 
  have O_told := ok_told (P := P) (w := w) (base := base) F_told Z  
  have O_unlike := ok_unlike (P := P) (w := w) (base := base) F_unlike Z  
  have O_parted := ok_parted (P := P) (w := w) (base := base) F_parted Z  
  have O_triples := ok_triples (P := P) (w := w) (base := base) F_triples Z  
  have O_some_picture := ok_some_picture (P := P) (w := w) (base := base) F_some_picture Z g_draw F_draw O_drawI g_one_of F_one_of O_one_of 
  have O_all_lists := ok_all_lists (P := P) (w := w) (base := base) F_all_lists Z  
  have O_list_right := ok_list_right (P := P) (w := w) (base := base) F_list_right Z g_told F_told O_told g_told_page F_told_page O_told_page g_exact F_exact O_exact g_l_twos F_l_twos O_l_twos g_twos F_twos O_twos g_told_pages F_told_pages O_told_pages 
  have O_pictures_right := ok_pictures_right (P := P) (w := w) (base := base) F_pictures_right Z g_some_picture F_some_picture O_some_picture g_draw F_draw O_drawI g_may_leave F_may_leave O_may_leave g_list_right F_list_right O_list_right g_is_picture F_is_picture O_is_picture g_exact F_exact O_exact 
  have O_cells_right := ok_cells_right (P := P) (w := w) (base := base) F_cells_right Z g_triples F_triples O_triples g_shuffled F_shuffled O_shuffled g_parted F_parted O_parted g_exact F_exact O_exact g_cells_unlike F_cells_unlike O_cells_unlike g_unlike F_unlike O_unlike g_draw F_draw O_drawI g_cells_parted F_cells_parted O_cells_parted 
  have O_others_right := ok_others_right (P := P) (w := w) (base := base) F_others_right Z g_twos F_twos O_twos g_told_pages F_told_pages O_told_pages g_told_page F_told_page O_told_page 
  exact ok_law F_law Z g_purses F_purses O_purses g_same F_same O_same g_drawn_code F_drawn_code O_drawn_code g_exact F_exact O_exact g_all_lists F_all_lists O_all_lists g_pictures_right F_pictures_right O_pictures_right g_cells_right F_cells_right O_cells_right g_others_right F_others_right O_others_right g_shuffled F_shuffled O_shuffled g_list_right F_list_right O_list_right g_told F_told O_told g_told_pages F_told_pages O_told_pages g_l_twos F_l_twos O_l_twos 
end
end K06
open PySem PySem.W PySem.Calls PyProof.Rows
theorem PySem.Challenge.cw_weavestore_k06_whole_pictures_and_told_p_holds : PySem.Challenge.rw_weavestore_k06_whole_pictures_and_told_p.Holds := by
  w_on; o_law
  refine HandSHeadRun.head_any (r := OpenLaw.row PySem.Challenge.rw_weavestore_k06_whole_pictures_and_told_p) (q := view (OpenLaw.row PySem.Challenge.rw_weavestore_k06_whole_pictures_and_told_p).prog [55]) (H := K06.hk) (ob := K06.ob) (M := 20000) (loose := K06.names) (d := HandSHeadRun.topDef (OpenLaw.row PySem.Challenge.rw_weavestore_k06_whole_pictures_and_told_p).prog 55) (kwd := []) K06.ob_eq
    (by kernel_rfl) (fun s => by kernel_rfl) K06.run (by kernel_rfl) (by kernel_rfl) (by kernel_rfl) (by rfl) (by first | assumption | decide +kernel) (by decide +kernel) ⟨rfl, rfl, rfl, rfl, rfl, by decide +kernel⟩ ?hw ?hc
  case hw => w_witness2
  case hc =>
    refine L2.walk_ofE (l := PySem.Challenge.rw_weavestore_k06_whole_pictures_and_told_p) (n := 63) (k := 11) (x := "_law_script") (CX := L2.CX0) rfl (by decide) (by kernel_rfl) ⟨rfl, by decide, by decide⟩ ?F (fun _ _ _ _ h => h)
    intro w mg fa h Y G hmg0
    obtain ⟨K, KX, c, ex⟩ := Y
    have hmg : mg ("law" : PySem.Str) = some (.ref fa) := by
      have e : (HandSHeadRun.topDef (OpenLaw.row PySem.Challenge.rw_weavestore_k06_whole_pictures_and_told_p).prog 55).name = ("law" : PySem.Str) := by kernel_rfl
      rw [← e]
      exact hmg0
    obtain ⟨fd, hb, hF⟩ := K06.facts (P := (PySem.Challenge.rw_weavestore_k06_whole_pictures_and_told_p).prog) (w := w) KX G hmg c ex
    exact ⟨K, fd, K06.spLaw K, KX, hb, fun H a ns hl _ hS => ⟨a, ns, rfl, hS, fun _ => rfl⟩, hF⟩
