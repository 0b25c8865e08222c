import PyProof.Rows.All
import Wide.All
import OpenK.AllK
import Wide.FinOn
import KE.KStateDown
import KE.KIsAll
import HandS.Words
import HandS.Head0
import HandS.Head1
import HandS.Head2
import HandS.HeadHook1
import HandS.HeadHook2
import PySem.Challenge.RW_weavestore_k21_whole_right_stamps_and_th
import HandS.ForMost
import HandS.Wide
import HandS.WideBits
import HandS.Ends
import HandS.HeadEnd
import HandS.Exc
import HandS.Defaults
import HandS.Walk
import HandS.IsInst
import HandS.Style
import HandS.Zip
import HandS.Conv
import HandS.Deep
import HandS.SortKw
import PyProof.MinMaxWalk
import PyProof.WalkInts
import HandS.SetBool
import HandS.Strs
import HandS.DictComp
import PyProof.ListStr
import HandS.DictEq
import HandS.More
import HandS.Dict
import HandS.ListItems
import HandS.Iter
import PyProof.NeData
import KE.SortData
import HandS.Text
import HandS.Codes
import HandS.Finally
set_option Elab.async false
set_option linter.all false
set_option maxRecDepth 100000
set_option maxHeartbeats 0
/-! What is read of the heap that the module's top leaves, and the run of it. -/
namespace K21
open PySem PySem.Spec PyProof.Rows L2
def top (i : Nat) : Stmt := PySem.Challenge.pw_weavestore_k21_whole_right_stamps_and_th.main.body.getD i (.Pass ⟨0, 0, 0, 0⟩)
def exB (K : PySem.W.Frag) : Bool := true
def dT (i : Nat) (x : Str) : He.DefD := ⟨(x, none), x, x, defArgs (top i), defBody (top i), defScope (top i), [], []⟩
def fn0 : List He.DefD := [dT 9 "is_whole_number", dT 10 "is_count", dT 11 "is_tuple_of", dT 12 "ascends", dT 13 "are_ascending_counts", dT 14 "is_word", dT 16 "need_count", dT 18 "are_words", dT 19 "is_deed", dT 20 "are_deeds", dT 21 "need_deeds", dT 22 "pages_of", dT 23 "stamps_up_to", dT 24 "stamps_behind", dT 25 "stamps_read"]
def fn1 : List He.DefD := [dT 26 "numbers_by_pages", dT 27 "are_stamps", dT 28 "need_stamps", dT 29 "walked", dT 30 "wrong_reads", dT 31 "lacking", dT 32 "are_right", dT 33 "redone", dT 34 "why_wrong", dT 35 "is_why_wrong", dT 37 "_law_purse", dT 38 "_law_mixed", dT 39 "_law_draw", dT 40 "_law_purses", dT 41 "_law_one_of"]
def fn2 : List He.DefD := [dT 42 "_law_same", dT 43 "_law_exact", dT 44 "_law_word", dT 45 "_law_words", dT 46 "_law_lists", dT 47 "_law_speech", dT 48 "_law_log", dT 49 "_law_sheets", dT 50 "_law_of_pages", dT 51 "_law_marks_at", dT 52 "_law_marks", dT 53 "_law_was", dT 54 "_law_done_again", dT 55 "_law_leading", dT 56 "_law_too_new"]
def fn3 : List He.DefD := [dT 57 "_law_drawn_marks", dT 58 "_law_bent_pairs", dT 59 "_law_again_right", dT 60 "_law_told_marks", dT 61 "_law_long_log", dT 62 "law"]
def fn : List He.DefD := fn0 ++ (fn1 ++ (fn2 ++ (fn3)))
def gn0 : List Str := ["is_whole_number", "is_count", "is_tuple_of", "ascends", "are_ascending_counts", "is_word", "need_count", "are_words", "is_deed", "are_deeds", "need_deeds", "pages_of", "stamps_up_to", "stamps_behind", "stamps_read"]
def gn1 : List Str := ["numbers_by_pages", "are_stamps", "need_stamps", "walked", "wrong_reads", "lacking", "are_right", "redone", "why_wrong", "is_why_wrong", "_law_purse", "_law_mixed", "_law_draw", "_law_purses", "_law_one_of"]
def gn2 : List Str := ["_law_same", "_law_exact", "_law_word", "_law_words", "_law_lists", "_law_speech", "_law_log", "_law_sheets", "_law_of_pages", "_law_marks_at", "_law_marks", "_law_was", "_law_done_again", "_law_leading", "_law_too_new"]
def gn3 : List Str := ["_law_drawn_marks", "_law_bent_pairs", "_law_again_right", "_law_told_marks", "_law_long_log", "law"]
def gn : List Str := gn0 ++ (gn1 ++ (gn2 ++ (gn3)))
def fa0 : List He.Fa := gn.map He.Fa.glo
def fa1 : List He.Fa := [.free "sum", .free "int", .free "max", .free "min", .free "len", .free "range", .free "isinstance", .free "all", .free "any", .free "zip", .free "divmod", .free "reversed", .free "enumerate", .free "set", .free "list", .free "tuple", .free "dict", .free "bool", .free "str", .free "sorted"]
def fa2 : List He.Fa := [.str "LETTERS" "abcdefghijklmnopqrstuvwxyz", .int "MOST_LETTERS" 8]
def fa : List He.Fa := fa0 ++ (fa1 ++ fa2)
def names0 : List Str := ["StoreError", "InvalidDeed", "InvalidDeeds", "InvalidStamps", "InvalidCount", "LETTERS", "MOST_LETTERS", "is_whole_number", "is_count", "is_tuple_of", "ascends", "are_ascending_counts", "is_word", "need_count", "are_words"]
def names1 : List Str := ["is_deed", "are_deeds", "need_deeds", "pages_of", "stamps_up_to", "stamps_behind", "stamps_read", "numbers_by_pages", "are_stamps", "need_stamps", "walked", "wrong_reads", "lacking", "are_right", "redone"]
def names2 : List Str := ["why_wrong", "is_why_wrong", "_law_purse", "_law_mixed", "_law_draw", "_law_purses", "_law_one_of", "_law_same", "_law_exact", "_law_word", "_law_words", "_law_lists", "_law_speech", "_law_log", "_law_sheets"]
def names3 : List Str := ["_law_of_pages", "_law_marks_at", "_law_marks", "_law_was", "_law_done_again", "_law_leading", "_law_too_new", "_law_drawn_marks", "_law_bent_pairs", "_law_again_right", "_law_told_marks", "_law_long_log"]
def names : List Str := names0 ++ (names1 ++ (names2 ++ (names3)))
abbrev R : PySem.W.OpenRow := PySem.W.OpenLaw.row PySem.Challenge.rw_weavestore_k21_whole_right_stamps_and_th
abbrev qv : Program := PySem.W.view R.prog [62]
abbrev AlX : Type := He.AlD × Bool
def obX (K : PySem.W.Frag) : AlX := (He.obsD fa fn K, exB K)
/-- what an object of these names, one step on -/
def tgt (g : Addr → Option Obj) (a : Addr) : List Addr := match g a with
  | some o => (match o.data with
    | .cls cd => [cd.ns]
    | .func fd => He.refV fd.code ++ He.refV fd.defaults
    | .dict es _ => es.toList.flatMap fun e => He.refV e.val
    | _ => [])
  | none => []
def as1 (g : Addr → Option Obj) : List Addr := tgt g mainGlobals
def as2 (g : Addr → Option Obj) : List Addr := (as1 g).flatMap (tgt g)
def as3 (g : Addr → Option Obj) : List Addr := (as2 g).flatMap (tgt g)
def as4 (g : Addr → Option Obj) : List Addr := (as3 g).flatMap (tgt g)
def obG (g : Addr → Option Obj) : AlX := obX (He.frG g (sysModules :: mainGlobals :: (as1 g ++ (as2 g ++ (as3 g ++ as4 g)))))
def hk : PySem.W.Hook where
  α := AlX
  obs := fun s => obG s.heap.get?
  val := fun _ => (He.valD fn, true)
  says := fun _ h => ∃ K : PySem.W.Frag, K.In h ∧ He.SaysD fa fn K ∧ exB K = true
  of := fun _ _ e => ⟨_, He.frG_in, congrArg (fun z : AlX => z.1) e, congrArg (fun z : AlX => z.2) e⟩
  keeps := fun _ _ _ ⟨K, hK, c⟩ k => ⟨K, PySem.W.Frag.In.keeps hK k, c⟩
def ob (s : PySem.W.SharedT) : AlX := obG (HandSHeadRun.getT s)
theorem ob_eq (s : PySem.W.SharedT) : ob s = hk.obs s.abs := by
  have e : HandSHeadRun.getT s = s.abs.heap.get? := funext (HandSHeadRun.getT_eq s)
  show obG (HandSHeadRun.getT s) = obG s.abs.heap.get?
  rw [e]
theorem run (w : World) : HandSHeadRun.RunEq R qv hk ob 20000 names w := by
  intro os
  kernel_rfl
end K21
set_option Elab.async false
set_option linter.all false
set_option maxRecDepth 100000
set_option maxHeartbeats 4000000
/-! What does not speak of a law: purses, what is left as it was, walks. -/
namespace L2
open PySem PySem.Spec PyProof.Rows
theorem Same.updf {H : Hp} {p : Addr} {o : HO} (h : H p = none) : Same H (L2.upd H p o) := fun b o' e => by
  rw [upd_ne (ne_of_none e h)]
  exact e
/-- a comprehension whose turns change nothing that stands: what it gives at each turn, if anything -/
theorem lc_sel {J : It} {n : Nat} {G : Hp → Prop} {Y : Nat → Hp → V → Hp → Prop} (w : Walk J n G Y) {g : TG} {tt : TT} {te : TE} {vs : List Nat} {σ : St} {H1 : Hp} {D : Addr} {Qd : Hp → Prop} (f : Nat → Option V) (hn : n ≤ 100000) (hD : H1 D = none)
    (hG : ∀ H, Same H1 H → G H)
    (hs : ∀ i x H H' (Qy : V → Hp → Prop) (Qn : Hp → Prop), i < n → Same H1 H → Y i H x H' → (∀ y H4, Same H H4 → f i = some y → Qy y H4) → (∀ H4, Same H H4 → f i = none → Qn H4) →
      g x (wipe σ vs) H' fun σ2 H2 => wipe σ2 vs = wipe σ vs ∧ tt σ2 H2 fun b H3 => if b = true then te σ2 H3 Qy else Qn H3)
    (hd : ∀ H, Same H1 H → H D = some (.lst ((List.range n).filterMap f)) → Qd H) :
    ∃ W : Nat → Nat → Hp → Prop, (∃ m, W 0 m (upd H1 D (.lst []))) ∧ ∀ i m H, W i m H →
      (J.stop i H ∧ Qd H) ∨ (J.go i H ∧ ∃ Nx : Hp → Prop, (∀ H', Nx H' → ∃ m', m' < m ∧ W (i + 1) m' H') ∧ ∀ x H', J.yld i H x H' → g x (wipe σ vs) H' fun σ2 H2 => wipe σ2 vs = wipe σ vs ∧ tt σ2 H2 fun b H3 =>
        if b = true then te σ2 H3 fun y H4 => ∃ acc, H4 D = some (.lst acc) ∧ acc.length < sizeLine ∧ Nx (upd H4 D (.lst (acc ++ [y]))) else Nx H3) := by
  refine lc_it w (fun i H => Same H1 H ∧ H D = some (.lst ((List.range i).filterMap f))) ⟨Same.updf hD, upd_same⟩ (fun i H _ h => hG H h.1) (fun i x H H' hi hP hy => ?_) (fun H h => hd H h.1 h.2)
  refine hs i x H H' _ _ hi hP.1 hy (fun y H4 s4 e => ?_) (fun H4 s4 e => ?_)
  · refine ⟨_, s4 _ _ hP.2, ?_, fun b o eb => ?_, ?_⟩
    · have l1 : ((List.range i).filterMap f).length ≤ i := by
        have := List.length_filterMap_le f (List.range i)
        rw [List.length_range] at this
        exact this
      have l2 : (100000 : Nat) < sizeLine := by decide
      omega
    · rw [upd_ne (ne_of_none eb hD)]
      exact s4 _ _ (hP.1 _ _ eb)
    · rw [upd_same, List.range_succ, List.filterMap_append, List.filterMap_cons, e]
      rfl
  · refine ⟨hP.1.trans s4, ?_⟩
    rw [List.range_succ, List.filterMap_append, List.filterMap_cons, e, List.filterMap_nil, List.append_nil]
    exact s4 _ _ hP.2
/-- a pair's two names: the tuple is new -/
theorem pair_st {i j : Nat} {xs ys : Nat → Option V} {t : Nat} {σ : St} {H H' : Hp} {v : V} {Q : St → Hp → Prop} (y : YPair xs ys t H v H') {K : PySem.W.Frag}
    (k : ∀ x z, xs t = some x → ys t = some z → Same H H' → ∃ T, v = .ref T ∧ SqT K H' T [x, z] ∧ Q ((σ.set i (some x)).set j (some z)) H') :
    ∃ x z T, v = .ref T ∧ SqT K H' T [x, z] ∧ Q ((σ.set i (some x)).set j (some z)) H' := by
  obtain ⟨T, x, z, h1, h2, h3, h4, h5⟩ := y
  obtain ⟨T', e1, e2, e3⟩ := k x z h4 h5 (by rw [h3]; exact Same.updf h2)
  exact ⟨x, z, T', e1, e2, e3⟩
end L2
namespace KB
open PySem PySem.Spec PyProof.Rows L2
/-- built-in names that the module leaves free -/
structure Free (mg : Str → Option Value) : Prop where
  sum : mg "sum" = none
  int : mg "int" = none
  max : mg "max" = none
  min : mg "min" = none
  len : mg "len" = none
  range : mg "range" = none
  isi : mg "isinstance" = none
  all : mg "all" = none
  any : mg "any" = none
  zip : mg "zip" = none
  divmod : mg "divmod" = none
  reversed : mg "reversed" = none
  enumerate : mg "enumerate" = none
  tset : mg "set" = none
  tlist : mg "list" = none
  ttuple : mg "tuple" = none
  tdict : mg "dict" = none
  tbool : mg "bool" = none
theorem op_powL {X : Cx} : OpR X (binaryOp .Pow) (rI (fun i n => 0 ≤ n ∧ (Builtin.Int.intBits i : Int) * n ≤ 2 ^ 27) fun i j => .int (i ^ j.toNat)) :=
  opI fun _ _ _ _ _ _ _ hc q => pow_int hc.1 hc.2 q
/-- a purse: what is left of a great number, the seed, how often it was mixed, the place -/
structure Purse (H : Hp) (p : Addr) (N : Nat) : Prop where
  at_ : ∃ A B c i : Int, H p = some (.lst [.int A, .int B, .int c, .int i]) ∧ (0 ≤ B ∧ B < 2147483648) ∧ 0 ≤ A ∧ 0 ≤ c ∧ c ≤ (N : Int)
theorem Purse.mono {H : Hp} {p : Addr} {N M : Nat} (h : Purse H p N) (l : N ≤ M) : Purse H p M := by
  obtain ⟨A, B, c, i, e, hB, h1, h2, h3⟩ := h
  exact ⟨A, B, c, i, e, hB, h1, h2, by omega⟩
theorem Purse.same {H H' : Hp} {p : Addr} {N : Nat} (k : Same H H') (h : Purse H p N) : Purse H' p N := by
  obtain ⟨A, B, c, i, e, r⟩ := h
  exact ⟨A, B, c, i, k _ _ e, r⟩
/-- all but p stands as it did -/
def But (p : Addr) (H H' : Hp) : Prop := ∀ b o, b ≠ p → H b = some o → H' b = some o
theorem But.refl (p : Addr) (H : Hp) : But p H H := fun _ _ _ e => e
theorem But.trans {p : Addr} {H H1 H2 : Hp} (a : But p H H1) (b : But p H1 H2) : But p H H2 := fun x o n e => b x o n (a x o n e)
theorem But.of {p : Addr} {H H' : Hp} (k : Same H H') : But p H H' := fun b o _ e => k b o e
theorem But.upd {p : Addr} {H : Hp} {o : HO} : But p H (L2.upd H p o) := fun b o' n e => by
  rw [upd_ne n]
  exact e
theorem Same.upd {H : Hp} {p : Addr} {o : HO} (h : H p = none) : Same H (L2.upd H p o) := fun b o' e => by
  rw [upd_ne (ne_of_none e h)]
  exact e
theorem cut_map (ns : List Int) (lo hi : Option Int) : cutV (ns.map V.int) lo hi = ((ns.drop (HT.sIx (ns.map V.int).length 0 lo)).take (HT.sIx (ns.map V.int).length (ns.map V.int).length hi - HT.sIx (ns.map V.int).length 0 lo)).map V.int := by
  unfold cutV
  rw [List.map_take, List.map_drop]
def spPurse (K : PySem.W.Frag) : Sp := fun vs H Q _ => ∃ (a : Addr) (ns : List Int) (i : Int), vs = [.ref a, .int i] ∧ SqL K H a (ns.map V.int) ∧
  ∀ p H', Same H H' → H p = none → Purse H' p 0 → Q (.ref p) H'
/-- any rest there is -/
def spMixed : Sp := fun vs H Q _ => ∃ B c i : Int, vs = [.int B, .int c, .int i] ∧ (0 ≤ c ∧ c ≤ 2 ^ 60) ∧ ∀ r : Int, 0 ≤ r → r < 2147483587 → Q (.int r) H
/-- how often a draw of one of m mixes -/
def mixes (m : Int) : Nat := (1 + (Builtin.Int.intBits m : Int) / 28).toNat
def spDraw : Sp := fun vs H Q _ => ∃ (p : Addr) (m : Int) (N : Nat), vs = [.ref p, .int m] ∧ 1 ≤ m ∧ m.natAbs.log2 < 9000 ∧ Purse H p N ∧ N + mixes m ≤ 2 ^ 50 ∧ mixes m ≤ 2 ^ 50 ∧
  ∀ (r : Int) (H' : Hp), 0 ≤ r → r < m → But p H H' → Purse H' p (N + mixes m) → Q (.int r) H'
theorem mixes_one {m : Int} (h0 : 1 ≤ m) (h : m < 2 ^ 27) : mixes m = 1 := by
  have e : Builtin.Int.intBits m ≤ 27 := PyProof.Rows.intBits_le (by omega)
  unfold mixes
  omega
theorem log_small {m : Int} (h0 : 1 ≤ m) (h : m < 2 ^ 27) : m.natAbs.log2 < 9000 := by
  have e : m.natAbs < 2 ^ 27 := by omega
  have := PySem.Flt.log2_lt_of (by decide) e
  omega
theorem But.seq {K : PySem.W.Frag} {p a : Addr} {H H' : Hp} {xs : List V} (k : But p H H') (n : a ≠ p) (h : SqL K H a xs) : SqL K H' a xs := by
  rcases h with (h | ⟨o, h⟩) | h
  · exact .inl (.inl (k _ _ n h))
  · exact .inl (.inr ⟨o, k _ _ n h⟩)
  · exact .inr h
/-- purses(script, 1): the list of one purse -/
def spPurses (K : PySem.W.Frag) : Sp := fun vs H Q _ => ∃ (a : Addr) (ns : List Int), vs = [.ref a, .int 1] ∧ SqL K H a (ns.map V.int) ∧
  ∀ q p H', Same H H' → H p = none → H q = none → p ≠ q → H' q = some (.lst [.ref p]) → Purse H' p 0 → Q (.ref q) H'
def spOne (K : PySem.W.Frag) : Sp := fun vs H Q _ => ∃ (p q : Addr) (xs : List V) (N : Nat), vs = [.ref p, .ref q] ∧ q ≠ p ∧ SqL K H q xs ∧ 1 ≤ xs.length ∧ xs.length ≤ 1000000 ∧ Purse H p N ∧ N ≤ 2 ^ 40 ∧
  ∀ x H', x ∈ xs → But p H H' → Purse H' p (N + 1) → Q x H'

theorem none_back {H H' : Hp} {q : Addr} (k : Same H H') (h : H' q = none) : H q = none := by
  cases e : H q with
  | none => rfl
  | some o =>
    have := k _ _ e
    rw [h] at this
    cases this
theorem mixes_le {m : Int} (h0 : 1 ≤ m) (h : m < 2 ^ 62) : mixes m ≤ 3 := by
  have e : Builtin.Int.intBits m ≤ 62 := PyProof.Rows.intBits_le (by omega)
  unfold mixes
  omega
theorem via_nx {f b c : L2.St → Hp → Prop} {r : VK} {σ : L2.St} {H : Hp} (h : f σ H) : (Ends.mk f r b c).nx σ H := h
theorem via_seq {t u : TS} {D : Ends} {σ : L2.St} {H : Hp} (h : t { D with nx := u D } σ H) : tSeq t u D σ H := h
theorem via_asg {te : TE} {g : TG} {D : Ends} {σ : L2.St} {H : Hp} (h : te σ H fun x H1 => g x σ H1 D.nx) : tAsg te g D σ H := h
theorem fresh_ne {X : Hp} {pu b : Addr} {M : Nat} (h : Purse X pu M) (hb : X b = none) : b ≠ pu := fun e => by
  obtain ⟨A0, B, c, i, e2, _⟩ := h
  rw [e, e2] at hb
  cases hb
theorem But.none {pu b : Addr} {X Y : Hp} (k : But pu X Y) (ne : b ≠ pu) (h : Y b = none) : X b = none := by
  cases e : X b with
  | none => rfl
  | some o =>
    have := k _ _ ne e
    rw [h] at this
    cases this
theorem Purse.same' {H H' : Hp} {p : Addr} {N : Nat} (k : H' p = H p) (h : Purse H p N) : Purse H' p N := by
  obtain ⟨A, B, c, i, e, r⟩ := h
  exact ⟨A, B, c, i, k.trans e, r⟩

/-- a statement that is never come to -/
theorem ps_dead {X : Cx} {st : Stmt} : PS X st (fun _ _ _ => False) := ⟨fun _ _ _ _ _ _ h => h.elim⟩
end KB
set_option Elab.async false
set_option linter.all false
set_option maxRecDepth 100000
set_option maxHeartbeats 4000000
/-! Data on the tracked heap; what is counted; the greatest of a list that may be empty. -/
namespace L2
open PySem PySem.Spec PyProof.Rows
open RZ
theorem walk_zipT {K : PySem.W.Frag} {a b : Addr} {xs ys : List V} {n : Nat} (hn : n = min xs.length ys.length) : Walk (ItzT K a b) n (fun H => SqT K H a xs ∧ SqT K H b ys) (YPair (fun i => xs[i]?) (fun i => ys[i]?)) where
  goes := fun i _ hi q => ⟨xs, ys, xs[i]'(by omega), ys[i]'(by omega), q.1, q.2, List.getElem?_eq_getElem _, List.getElem?_eq_getElem _⟩
  stops := fun _ q => ⟨xs, ys, q.1, q.2, by omega⟩
  yields := fun i H v H' _ q y => by
    obtain ⟨T, x, z, e1, e2, e3, e4, e5⟩ := y
    exact ⟨T, x, z, e1, e2, e3, e4 _ q.1, e5 _ q.2⟩
section
variable {X : Cx}
/-- how often a datum stands in a list of data -/
def rCountD (K : PySem.W.Frag) : V → List V → Hp → VK → Prop := fun x zs H Q => ∃ (a : Addr) (y : V) (d : PyData) (ds : List PyData), x = V.ref a ∧ zs = [y] ∧ Dp K H (V.ref a) (.list ds) ∧ Dp K H y d ∧ SeqAt.shaped (.list ds) = true ∧ SeqAt.shaped d = true ∧
  Q (.int ((ds.countP fun z => PyData.eqv z d : Nat) : Int)) H
theorem mt_countD (hu : X.A.units + 65 < cLine) : MtR X "list.count" (rCountD X.K) := by
  intro pins s σ H x zs v us Q I rx rz h
  obtain ⟨a, y, d, ds, rfl, rfl, hL, hY, sL, sY, q⟩ := h
  obtain ⟨w, rfl, rw'⟩ := rz.one
  cases rx
  obtain ⟨bs, rY⟩ := Dp.reads I d y w hY rw'
  have cL : PyData.canLayAll0 ds = true := SeqAt.canLay_of_shaped sL
  cases hL with
  | lst hs hA =>
    obtain ⟨its, rv, ⟨⟨c0, d0, dat, sl0⟩, k0, hob, hcl, _, hda⟩, _⟩ := I.list hs
    dsimp only at hcl hda
    subst hcl hda
    obtain ⟨as, rA⟩ := Dp.readsAll I ds _ its hA rv
    have em : its.map (SeqAt.readOf s.heap) = ds := SeqAt.readsAll_map ds its as cL rA
    refine call_meets PySem.F.slot_list_count ⟨_, hob, rfl⟩ PySem.F.entry_list_count (PySem.F.args_list_count_2 _ _)
      (SeqAt.list_countAt a its.toArray k0 d0 sl0 w fun u => PyData.eqv (SeqAt.readOf s.heap u) d) ⟨hob, ?_, ?_⟩
    · exact SeqAt.items_eqAt (vs := its.toArray) (show ReadsAll s.heap its.toArray.toList ds as from rA) rY cL (SeqAt.canLay_of_shaped sY) (room_in_shaped sY hu)
    · refine ⟨.int (its.toArray.toList.countP fun u => PyData.eqv (SeqAt.readOf s.heap u) d : Nat), H, I.tok _, ⟨_, rfl⟩, ?_⟩
      have e : ((its.toArray.toList.countP fun u => PyData.eqv (SeqAt.readOf s.heap u) d : Nat) : Int) = ((ds.countP fun z => PyData.eqv z d : Nat) : Int) := by
        rw [← em, List.countP_map]
        rfl
      rw [e]
      exact q
end
end L2
namespace KB
open PySem PySem.Spec PyProof.Rows L2
/-- a value that is no object -/
inductive FlatD : V → PyData → Prop
  | non : FlatD .non .none
  | bl (b : Bool) : FlatD (.bl b) (.bool b)
  | int (i : Int) : FlatD (.int i) (.int i)
  | str (x : Str) : FlatD (.str x) (.str x)
/-- a value that stands for a datum: lists and tuples, each tracked, nested at most so deep -/
def Tr (H : Hp) : Nat → V → PyData → Prop
  | 0, x, d => FlatD x d
  | n + 1, x, d => FlatD x d ∨ ∃ (a : Addr) (xs : List V) (ds : List PyData), x = .ref a ∧ xs.length = ds.length ∧ ds.length ≤ 1000 ∧ ((H a = some (.lst xs) ∧ d = .list ds) ∨ (H a = some (.tup xs) ∧ d = .tuple ds)) ∧
      ∀ (i : Nat) (u : V) (e : PyData), xs[i]? = some u → ds[i]? = some e → Tr H n u e
theorem Tr.same {H H' : Hp} (k : Same H H') : ∀ {n : Nat} {x : V} {d : PyData}, Tr H n x d → Tr H' n x d
  | 0, _, _, h => h
  | n + 1, _, _, h => by
    rcases h with h | ⟨a, xs, ds, e1, e2, e3, e4, e5⟩
    · exact .inl h
    · exact .inr ⟨a, xs, ds, e1, e2, e3, e4.elim (fun z => .inl ⟨k _ _ z.1, z.2⟩) (fun z => .inr ⟨k _ _ z.1, z.2⟩), fun i u e h1 h2 => Tr.same k (e5 i u e h1 h2)⟩
theorem Tr.up {H : Hp} : ∀ {n : Nat} {x : V} {d : PyData}, Tr H n x d → Tr H (n + 1) x d
  | 0, _, _, h => .inl h
  | n + 1, _, _, h => by
    rcases h with h | ⟨a, xs, ds, e1, e2, e3, e4, e5⟩
    · exact .inl h
    · exact .inr ⟨a, xs, ds, e1, e2, e3, e4, fun i u e h1 h2 => Tr.up (e5 i u e h1 h2)⟩
theorem Tr.flat {H : Hp} {n : Nat} {x : V} {d : PyData} (h : FlatD x d) : Tr H n x d := by
  cases n with
  | zero => exact h
  | succ n => exact .inl h
theorem Tr.lst {H : Hp} {n : Nat} {a : Addr} {xs : List V} {ds : List PyData} (h : H a = some (.lst xs)) (l : xs.length = ds.length) (s : ds.length ≤ 1000) (k : ∀ (i : Nat) (u : V) (e : PyData), xs[i]? = some u → ds[i]? = some e → Tr H n u e) : Tr H (n + 1) (.ref a) (.list ds) :=
  .inr ⟨a, xs, ds, rfl, l, s, .inl ⟨h, rfl⟩, k⟩
theorem Tr.tup {H : Hp} {n : Nat} {a : Addr} {xs : List V} {ds : List PyData} (h : H a = some (.tup xs)) (l : xs.length = ds.length) (s : ds.length ≤ 1000) (k : ∀ (i : Nat) (u : V) (e : PyData), xs[i]? = some u → ds[i]? = some e → Tr H n u e) : Tr H (n + 1) (.ref a) (.tuple ds) :=
  .inr ⟨a, xs, ds, rfl, l, s, .inr ⟨h, rfl⟩, k⟩
/-- item by item -/
theorem tr_cons {H : Hp} {n : Nat} {x : V} {xs : List V} {d : PyData} {ds : List PyData} (h : Tr H n x d) (k : ∀ (i : Nat) (u : V) (e : PyData), xs[i]? = some u → ds[i]? = some e → Tr H n u e) : ∀ (i : Nat) (u : V) (e : PyData), (x :: xs)[i]? = some u → (d :: ds)[i]? = some e → Tr H n u e
  | 0, _, _, h1, h2 => by
    obtain rfl := Option.some.inj h1
    obtain rfl := Option.some.inj h2
    exact h
  | i + 1, u, e, h1, h2 => k i u e h1 h2
theorem tr_nil {H : Hp} {n : Nat} : ∀ (i : Nat) (u : V) (e : PyData), ([] : List V)[i]? = some u → ([] : List PyData)[i]? = some e → Tr H n u e := fun i u e h1 h2 => by simp at h1
theorem tr_snoc {H : Hp} {n : Nat} {x : V} {xs : List V} {d : PyData} {ds : List PyData} (l : xs.length = ds.length) (k : ∀ (i : Nat) (u : V) (e : PyData), xs[i]? = some u → ds[i]? = some e → Tr H n u e) (h : Tr H n x d) :
    ∀ (i : Nat) (u : V) (e : PyData), (xs ++ [x])[i]? = some u → (ds ++ [d])[i]? = some e → Tr H n u e := fun i u e h1 h2 => by
  by_cases hi : i < xs.length
  · rw [List.getElem?_append_left hi] at h1
    rw [List.getElem?_append_left (by omega)] at h2
    exact k i u e h1 h2
  · rw [List.getElem?_append_right (by omega)] at h1
    rw [List.getElem?_append_right (by omega)] at h2
    cases hj : i - xs.length with
    | zero =>
      rw [hj] at h1
      rw [show i - ds.length = 0 by omega] at h2
      obtain rfl := Option.some.inj h1
      obtain rfl := Option.some.inj h2
      exact h
    | succ j =>
      rw [hj] at h1
      simp at h1
theorem FlatD.dp {K : PySem.W.Frag} {H : Hp} {x : V} {d : PyData} (h : FlatD x d) : Dp K H x d := by
  cases h
  · exact .non
  · exact .bl _
  · exact .int _
  · exact .str _
theorem dpAll_of {K : PySem.W.Frag} {H : Hp} : ∀ {xs : List V} {ds : List PyData}, xs.length = ds.length → (∀ (i : Nat) (u : V) (e : PyData), xs[i]? = some u → ds[i]? = some e → Dp K H u e) → DpAll K H xs ds
  | [], [], _, _ => .nil
  | [], _ :: _, h, _ => by simp at h
  | _ :: _, [], h, _ => by simp at h
  | x :: xs, d :: ds, h, k => .cons (k 0 x d rfl rfl) (dpAll_of (by simpa using h) fun i u e h1 h2 => k (i + 1) u e h1 h2)
theorem Tr.dp {K : PySem.W.Frag} {H : Hp} : ∀ {n : Nat} {x : V} {d : PyData}, Tr H n x d → Dp K H x d
  | 0, _, _, h => FlatD.dp h
  | n + 1, _, _, h => by
    rcases h with h | ⟨a, xs, ds, rfl, e2, e3, e4, e5⟩
    · exact FlatD.dp h
    · rcases e4 with ⟨h, rfl⟩ | ⟨h, rfl⟩
      · exact .lst (SqL.of h) (dpAll_of e2 fun i u e h1 h2 => (e5 i u e h1 h2).dp)
      · exact .tup (SqT.of h) (dpAll_of e2 fun i u e h1 h2 => (e5 i u e h1 h2).dp)
/-- alike: both stand for one datum -/
def spExact (n : Nat) : Sp := fun vs H Q _ => ∃ (x y : V) (d : PyData), vs = [x, y] ∧ Tr H n x d ∧ Tr H n y d ∧ ∀ H', Same H H' → Q (.bl true) H'
theorem FlatD.ty {K : PySem.W.Frag} {H : Hp} {x : V} {d : PyData} (h : FlatD x d) : ∃ t, TyX K H x (.type t) ∧ kitB t "list" = some false ∧ kitB t "tuple" = some false ∧ kitB t "dict" = some false ∧ ∃ i b, kitB t "int" = some i ∧ kitB t "bool" = some b := by
  cases h with
  | non => exact ⟨"NoneType", .base .non, by decide +kernel, by decide +kernel, by decide +kernel, false, false, by decide +kernel, by decide +kernel⟩
  | bl b => exact ⟨"bool", .base (.bl b), by decide +kernel, by decide +kernel, by decide +kernel, true, true, by decide +kernel, by decide +kernel⟩
  | int i => exact ⟨"int", .base (.int i), by decide +kernel, by decide +kernel, by decide +kernel, true, false, by decide +kernel, by decide +kernel⟩
  | str z => exact ⟨"str", .base (.str z), by decide +kernel, by decide +kernel, by decide +kernel, false, false, by decide +kernel, by decide +kernel⟩
theorem FlatD.scal {x : V} {d : PyData} (h : FlatD x d) : scal x x = true := by
  cases h <;> rfl
theorem FlatD.eq {x y : V} {d : PyData} (h : FlatD x d) (h' : FlatD y d) : x = y := by
  cases h <;> cases h' <;> rfl
theorem FlatD.noL {x : V} {ds : List PyData} (h : FlatD x (.list ds)) : False := nomatch h
theorem FlatD.noT {x : V} {ds : List PyData} (h : FlatD x (.tuple ds)) : False := nomatch h
/-- all of a list that is true at each place -/
theorem all_bits {K : PySem.W.Frag} {n : Nat} {H : Hp} {D : Addr} (hR : H D = some (.lst ((List.range n).filterMap fun _ => some (V.bl true)))) : ∃ bs : List Bool, SqL K H D (bs.map V.bl) ∧ bs.all id = true := by
  refine ⟨List.replicate n true, ?_, ?_⟩
  · have e : ((List.range n).filterMap fun _ => some (V.bl true)) = (List.replicate n true).map V.bl := by
      rw [List.filterMap_eq_map', List.map_const', List.length_range, List.map_replicate]
    rw [e] at hR
    exact SqL.of hR
  · rw [List.all_eq_true]
    intro b hb
    exact (List.eq_of_mem_replicate hb)
end KB
set_option Elab.async false
set_option linter.all false
set_option maxRecDepth 100000
set_option maxHeartbeats 4000000
/-! max(xs, default=d), xs a list of ints. -/
namespace KB
open PySem PySem.Spec PyProof.Rows L2
def kwD (dv : Value) : List (Str × Value) := [(Str.ofString "default", dv)]
abbrev mxC (J S : Addr) (dv : Value) : Code := .builtin "max.loop" ⟨[.ref J, .none, .ref S], kwD dv⟩
section
variable {prog : Program} {w : World} {A : Around} {R : Result → Shared → Prop} {J S : Addr} {fq wq : List Addr} {N : Nat} {Iv : Nat → Value → Prop} {Sv : Nat → Heap → Prop} {dv : Value}
theorem mx_name : (toString "max" ++ toString ".loop" : String) = "max.loop" := by decide
/-- what is promised of the end -/
def MxEnd (R : Result → Shared → Prop) (S : Addr) (wq : List Addr) (G : Value → Prop) (s : Shared) : Prop :=
  ∀ (v : Value) (h' : Heap) (tk : Nat), G v → (∀ (b : Addr) (o : Obj), b ∉ wq → b ≠ S → s.heap.get? b = some o → h'.get? b = some o) → R (.ok (.ret v)) { s with heap := h', toks := tk }
theorem MxEnd.on {G : Value → Prop} {s : Shared} {h1 : Heap} {t1 : Nat} (m : MxEnd R S wq G s) (k : ∀ (b : Addr) (o : Obj), b ∉ wq → b ≠ S → s.heap.get? b = some o → h1.get? b = some o) : MxEnd R S wq G { s with heap := h1, toks := t1 } :=
  fun v h' tk g kk => m v h' tk g fun b o n1 n2 e => kk b o n1 n2 (k b o n1 n2 e)
theorem mx_turns (Wk : Walks prog w A.in1 J fq wq N Iv Sv) (bt : Nat → Nat → Bool) (C : CmpOf prog w A.in1 .Gt Iv bt) (nS : S ∉ fq) (d : Nat) : ∀ (i : Nat) (s : Shared) (u : Value) (cap : Nat), N = (i + 1) + d → Sv (i + 1) s.heap → Iv (argBest bt i) u →
    s.heap.get? S = some { cls := .type "list", dict := none, data := .seq #[u, u] cap, slots := #[] } → MxEnd R S wq (Iv (argBest bt (N - 1))) s → codeAny (model prog w) A (mxC J S dv) R s := by
  have nw : S ∉ wq := fun m => nS (Wk.sub _ m)
  induction d with
  | zero =>
    intro i s u cap hN hSt hI hS hE
    have eN : i + 1 = N := by omega
    refine codeAny_builtin PySem.F.entry_max_loop ?_
    rw [Around.under_plainId PySem.F.plain_max_loop _]
    show wpAny _ A.in1 (seqItems? (.ref S) >>= _) _ _ s
    refine wpAny_bind (wpAny_seqItems hS rfl ?_)
    show wpAny _ A.in1 (tryCatch (pyNext (.ref J)) _ >>= _) _ _ s
    refine wpAny_bind (wpAny_tryCatch (Wk.done s _ _ (by rw [← eN]; exact hSt) fun h1 t1 k1 => ?_))
    have hS1 := k1 S _ nw hS
    show wpAny _ A.in1 (updateSeq S (fun _ => #[]) >>= _) _ _ _
    refine wpAny_bind (wpAny_updateSeq hS1 rfl (wpAny_bind (wpAny_letGo (wpAny_pure ?_))))
    refine hE u _ t1 (by rw [← eN]; exact hI) fun b o n1 n2 e => ?_
    exact (Heap.get?_update_other _ _ (Ne.symm n2)).trans (k1 b o n1 e)
  | succ d ih =>
    intro i s u cap hN hSt hI hS hE
    have hi : i + 1 < N := by omega
    refine codeAny_builtin PySem.F.entry_max_loop ?_
    rw [Around.under_plainId PySem.F.plain_max_loop _]
    show wpAny _ A.in1 (seqItems? (.ref S) >>= _) _ _ s
    refine wpAny_bind (wpAny_seqItems hS rfl ?_)
    show wpAny _ A.in1 (tryCatch (pyNext (.ref J)) _ >>= _) _ _ s
    refine wpAny_bind (wpAny_tryCatch (Wk.item (i + 1) s _ _ hi hSt fun v h1 t1 hv hSt1 k1 => ?_))
    have hS1 := k1 S _ nw hS
    show wpAny _ A.in1 (tryCatch (holding [v, v] (richCompare .Gt v u >>= _)) _ >>= _) _ _ _
    refine wpAny_bind (wpAny_tryCatch (wpAny_holding (wpAny_bind (C (i + 1) (argBest bt i) v u _ _ _ hv hI ?_))))
    refine wpAny_bind (wpAny_holding (wpAny_truthy_bool (wpAny_bind (wpAny_letGo (wpAny_pure ?_)))))
    cases q : bt (i + 1) (argBest bt i) with
    | true =>
      have eB : argBest bt (i + 1) = i + 1 := by simp only [argBest, q, if_true]
      simp only [if_true]
      refine wpAny_bind (wpAny_updateSeq hS1 rfl (wpAny_bind (wpAny_letGo ?_)))
      rw [mx_name]
      refine wpAny_pure ⟨plainId_quiet PySem.F.plain_max_loop _, ih (i + 1) _ v _ (by omega) (Wk.frame _ _ _ hSt1 fun b hb o e => ?_) (by rw [eB]; exact hv) (Heap.get?_update_self _ hS1 rfl) (hE.on fun b o n1 n2 e => ?_)⟩
      · exact (Heap.get?_update_other _ _ (fun z : S = b => nS (z ▸ hb))).trans e
      · exact (Heap.get?_update_other _ _ (Ne.symm n2)).trans (k1 b o n1 e)
    | false =>
      have eB : argBest bt (i + 1) = argBest bt i := by simp only [argBest, q, Bool.false_eq_true, if_false]
      simp only [Bool.false_eq_true, if_false]
      refine wpAny_bind (wpAny_letGo ?_)
      rw [mx_name]
      exact wpAny_pure ⟨plainId_quiet PySem.F.plain_max_loop _, ih (i + 1) _ u cap (by omega) hSt1 (by rw [eB]; exact hI) hS1 (hE.on fun b o n1 n2 e => k1 b o n1 e)⟩
/-- from the first turn on -/
theorem mx_first (Wk : Walks prog w A.in1 J fq wq N Iv Sv) (bt : Nat → Nat → Bool) (C : CmpOf prog w A.in1 .Gt Iv bt) (nS : S ∉ fq) {s : Shared} {cap : Nat} (hSt : Sv 0 s.heap)
    (hS : s.heap.get? S = some { cls := .type "list", dict := none, data := .seq #[] cap, slots := #[] }) (h0 : N = 0 → MxEnd R S wq (fun v => v = dv) s) (h1 : 0 < N → MxEnd R S wq (Iv (argBest bt (N - 1))) s) : codeAny (model prog w) A (mxC J S dv) R s := by
  have nw : S ∉ wq := fun m => nS (Wk.sub _ m)
  refine codeAny_builtin PySem.F.entry_max_loop ?_
  rw [Around.under_plainId PySem.F.plain_max_loop _]
  show wpAny _ A.in1 (seqItems? (.ref S) >>= _) _ _ s
  refine wpAny_bind (wpAny_seqItems hS rfl ?_)
  show wpAny _ A.in1 (tryCatch (pyNext (.ref J)) _ >>= _) _ _ s
  rcases Nat.eq_zero_or_pos N with e | hN
  · refine wpAny_bind (wpAny_tryCatch (Wk.done s _ _ (by rw [e]; exact hSt) fun h' tk k' => ?_))
    show wpAny _ A.in1 (rule (toString "max" ++ toString ".default") >>= fun _ => ret dv) _ _ _
    refine wpAny_bind (wpAny_rule ?_)
    exact wpAny_pure (h0 e dv h' tk rfl fun b o n1 n2 ee => k' b o n1 ee)
  · refine wpAny_bind (wpAny_tryCatch (Wk.item 0 s _ _ hN hSt fun v h' tk hv hSt1 k' => ?_))
    have hS1 := k' S _ nw hS
    show wpAny _ A.in1 (updateSeq S (fun _ => #[v, v]) >>= _) _ _ _
    refine wpAny_bind (wpAny_updateSeq hS1 rfl ?_)
    rw [mx_name]
    refine wpAny_pure ⟨plainId_quiet PySem.F.plain_max_loop _, mx_turns Wk bt C nS (N - 1) 0 _ v _ (by omega) (Wk.frame _ _ _ hSt1 fun b hb o e => ?_) hv (Heap.get?_update_self _ hS1 rfl) ((h1 hN).on fun b o n1 n2 e => ?_)⟩
    · exact (Heap.get?_update_other _ _ (fun z : S = b => nS (z ▸ hb))).trans e
    · exact (Heap.get?_update_other _ _ (Ne.symm n2)).trans (k' b o n1 e)
end
section
variable {prog : Program} {w : World} {A : Around} {E : Value → Shared → Prop} {s : Shared} {l : Addr}
theorem mx_args (a v : Value) : argsOk "max" ⟨[a], kwD v⟩ := by unfold argsOk kwD; kernel_rfl
theorem max_dflt {xs : Array (Int × Tok)} {dv : Value} {Q : Value → Shared → Prop} (hh : A.handled = none) (hl : s.heap.IsList l (intItems xs))
    (k0 : xs.size = 0 → ∀ h' tk, (∀ b o, s.heap.get? b = some o → h'.get? b = some o) → Q dv { s with heap := h', toks := tk })
    (k1 : 0 < xs.size → ∀ v h' tk, (intItems xs)[argBest (fun i j => decide (numAt xs i > numAt xs j)) (xs.size - 1)]? = some v → (∀ b o, s.heap.get? b = some o → h'.get? b = some o) → Q v { s with heap := h', toks := tk }) :
    wpAny (model prog w) A (call (.builtin "max") [.ref l] (kwD dv)) Q E s := by
  have fin : wpAny (model prog w) A.in1 (Builtin.«max» ⟨[.ref l], kwD dv⟩) (fun z s' => match z with
      | .done f => (match (Except.ok f : Result) with | .ok (.ret v) => Q v s' | .ok _ => False | .error e => E e s')
      | .again c' => c'.quiet = true ∧ codeAny (model prog w) A c' (fun r s' => match r with | .ok (.ret v) => Q v s' | .ok _ => False | .error e => E e s') s') E s := by
    show wpAny _ A.in1 (Builtin.Builtins.bindParams "max" ["key", "default"] 0 ⟨[], kwD dv⟩ >>= _) _ _ s
    refine wpAny_bind (wpAny_of_eq (show Builtin.Builtins.bindParams "max" ["key", "default"] 0 ⟨[], kwD dv⟩ = pure [none, some dv] from rfl) ?_)
    refine wpAny_bind (wpAny_pure ?_)
    refine wpAny_bind (iter_intList hl fun s2 e hI hlt ne => ?_)
    subst e
    refine wpAny_bind (wpAny_newObj_type ?_)
    rw [mx_name]
    have nS : s.heap.objs.size + 1 ∉ [s.heap.objs.size, l] := fun m => by
      have hl' : l < s.heap.objs.size := by
        obtain ⟨_, e, _⟩ := hl
        exact Heap.lt_size e
      rcases List.mem_cons.mp m with e | m
      · exact absurd e (Nat.succ_ne_self _)
      · rw [List.mem_singleton] at m
        rw [← m] at hl'
        exact Nat.lt_irrefl _ (Nat.lt_of_succ_lt hl')
    have sz : (s.heap.push { cls := .type "list_iterator", data := .fields #[.ref l, .int 0 0] }).objs.size = s.heap.objs.size + 1 := Heap.size_push ..
    have Wk := Walks.list (prog := prog) (w := w) (A := A.in1) hh s.heap.objs.size l ne (intItems xs)
    have old : ∀ (b : Addr) (o : Obj), s.heap.get? b = some o → b ∉ [s.heap.objs.size] ∧ b ≠ s.heap.objs.size + 1 := fun b o e => by
      have := Heap.lt_size e
      refine ⟨fun m => ?_, Nat.ne_of_lt (Nat.lt_succ_of_lt this)⟩
      rw [List.mem_singleton] at m
      exact Nat.ne_of_lt this m
    refine wpAny_pure ⟨plainId_quiet PySem.F.plain_max_loop _, ?_⟩
    rw [sz]
    refine mx_first (S := s.heap.objs.size + 1) (dv := dv) Wk (fun i j => decide (numAt xs i > numAt xs j)) (CmpOf.ints_gt (numAt xs) fun _ _ => intItems_at) nS (Wk.frame _ _ _ hI fun b _ o e => Heap.get?_push_of_some _ e) (by rw [← sz]; exact Heap.get?_push_size _ rfl) (fun h0 v h' tk g k => ?_) (fun h1 v h' tk g k => ?_)
    · subst g
      exact k0 (by simpa [intItems] using h0) h' tk fun b o e => k b o (old b o e).1 (old b o e).2 (Heap.get?_push_of_some _ (Heap.get?_push_of_some _ e))
    · exact k1 (by simpa [intItems] using h1) v h' tk (by simpa [intItems] using g) fun b o e => k b o (old b o e).1 (old b o e).2 (Heap.get?_push_of_some _ (Heap.get?_push_of_some _ e))
  refine wpAny_call (codeAny_call_builtin PySem.F.plain_max PySem.F.entry_max ?_)
  simp only [checkBuiltinCall, PySem.F.kind_max]
  cases q : Manifest.signature? "max" with
  | none => exact wpAny_pure fin
  | some sig =>
    have ha := mx_args (.ref l) dv
    simp only [argsOk, q] at ha
    show wpAny _ A.in1 (Bind.checkArgs "max" sig ⟨[.ref l], kwD dv⟩) _ _ s
    rw [show Bind.checkArgs "max" sig ⟨[.ref l], kwD dv⟩ = pure () from ha]
    exact wpAny_pure fin
end
section
variable {X : Cx}
/-- max(xs, default=d) -/
def rMaxDf (K : PySem.W.Frag) : List V → List V → Hp → VK → Prop := fun vs zs H Q => ∃ (a : Addr) (ns : List Int) (d : Int), vs = [.ref a] ∧ zs = [.int d] ∧ SqL K H a (ns.map V.int) ∧ ∀ m : Int, (ns = [] → m = d) → (ns ≠ [] → m ∈ ns ∧ ∀ y ∈ ns, y ≤ m) → Q (.int m) H
theorem cr_maxDf (hc : X.calm = true) : CallRK X (.builtin "max") [Str.ofString "default"] (rMaxDf X.K) := by
  intro pins s σ H vs zs us ws Q I r rz h
  obtain ⟨a, ns, d, rfl, rfl, hs, q⟩ := h
  obtain ⟨dv, rfl, rd⟩ := rz.one
  obtain ⟨its, rv, hl, _⟩ := I.list hs
  rw [Vals.ref1 r]
  obtain ⟨xs, e⟩ := rv.ints.allInts.items
  have hn : numsOf (intItems xs).toList = ns := by
    rw [← e]
    exact rv.ints.numsOf
  rw [nums_intItems] at hn
  have hl' := hl.isList
  rw [e] at hl'
  have ln : ns.length = xs.size := by rw [← hn, List.length_map, Array.length_toList]
  refine max_dflt (I.ok.hd hc) hl' (fun h0 h' tk k => ?_) (fun h1 v h' tk hv k => ?_)
  · have e0 : ns = [] := List.eq_nil_of_length_eq_zero (by omega)
    exact ⟨.int d, H, I.kept k, rd, q d (fun _ => rfl) fun z => absurd e0 z⟩
  · obtain ⟨t, rfl⟩ := intItems_at hv
    obtain ⟨b1, b2⟩ := argBest_gt (numAt xs) (xs.size - 1)
    have ne : ns ≠ [] := fun z => by
      rw [z] at ln
      simp at ln
      omega
    refine ⟨.int _, H, I.kept k, ⟨_, rfl⟩, q _ (fun z => absurd z ne) fun _ => ⟨?_, fun y hy => ?_⟩⟩
    · rw [numAt_eq, hn]
      exact PySem.getD_mem (by omega)
    · obtain ⟨j, hj, rfl⟩ := mem_getD hy
      rw [← hn, ← numAt_eq]
      exact b2 j (by omega)
end
end KB
set_option Elab.async false
set_option linter.all false
set_option maxRecDepth 100000
set_option maxHeartbeats 4000000
/-! Set comprehensions of any members, of one clause or two: the loop of a clause once and for all. -/
namespace KB
open PySem PySem.Spec PyProof.Rows L2
/-- no error leaves -/
abbrev F0 : Value → Shared → Prop := fun _ _ => False
/-- the tests of a clause -/
abbrev tests (ifs : List Expr) (env : Env) : Sem Bool := forIn ifs true fun q r => if r = true then (do let b ← isTrue q env (eval q env); pure (ForInStep.yield b)) else pure (ForInStep.yield r)
/-- the loop c of a clause over it, the rest of a turn being B -/
structure Cl (P : Program) (w : World) (A : Around) (c : Code) (it : Value) (tg : Expr) (env : Env) (ifs : List Expr) (B : (Shared → Prop) → Shared → Prop) : Prop where
  quiet : c.quiet = true
  mono : ∀ (N N' : Shared → Prop) (s : Shared), (∀ s', N s' → N' s') → B N s → B N' s
  den : ∀ (Q : PySem.Fin → Shared → Prop) (E : Value → Shared → Prop) (s : Shared), wpAny (model P w) A (pyNext it) (fun r s1 => match r with
      | none => Q (.done .next) s1
      | some v => wpAny (model P w) A (letOwnedTupleGo tg it v) (fun _ s2 => wpAny (model P w) A (assign tg env v) (fun _ s3 => wpAny (model P w) A (tests ifs env) (fun b s4 =>
          if b = true then B (fun s5 => Q (.again c) s5) s4 else Q (.again c) s4) F0 s3) F0 s2) F0 s1) F0 s → wpAny (model P w) (A.under c) ((model P w).den c) Q E s
/-- what of the slots is known stays known, but for those of vs -/
def Kp (vs : List Nat) (σ σ' : L2.St) : Prop := σ'.length = σ.length ∧ ∀ (j : Nat) (v : V), (wipe σ vs)[j]? = some (some v) → σ'[j]? = some (some v)
theorem Kp.refl (vs : List Nat) (σ : L2.St) : Kp vs σ σ := ⟨rfl, fun _ _ e => (wipe_some e).1⟩
theorem Kp.wipe {vs vs1 : List Nat} (h : ∀ i ∈ vs1, i ∈ vs) (σ : L2.St) : Kp vs σ (wipe σ vs1) := ⟨wipe_length _ _, fun j v e => by
  obtain ⟨e1, e2⟩ := wipe_some e
  rw [wipe_out fun z => e2 (h j z)]
  exact e1⟩
/-- the turns of a clause; tb: the rest of a turn, by what has to hold behind it -/
def tCl (g : TG) (tt : TT) (tb : L2.St → Hp → (Hp → Prop) → Prop) (vs : List Nat) (σ : L2.St) (Z : Hp → Prop) (J : It) (H : Hp) : Prop :=
  ∃ W : Nat → Nat → Hp → Prop, (∃ m, W 0 m H) ∧ ∀ i m G, W i m G → (J.stop i G ∧ Z G) ∨ (J.go i G ∧ ∃ N : Hp → Prop, (∀ G', N G' → ∃ m', m' < m ∧ W (i + 1) m' G') ∧
    ∀ x G', J.yld i G x G' → g x (wipe σ vs) G' fun σ2 H2 => wipe σ2 vs = wipe σ vs ∧ tt σ2 H2 fun b H3 => if b = true then tb σ2 H3 N else N H3)
section
variable {X : Cx} {c : Code} {it : Addr} {tg : Expr} {ifs : List Expr} {B : (Shared → Prop) → Shared → Prop} {J : It} {fp : List Addr} {tn : Nat → Heap → Prop} {g : TG} {tt : TT}
  {tb : L2.St → Hp → (Hp → Prop) → Prop} {vs : List Nat} {pins : List (Addr × Obj)} {σ : L2.St} {H : Hp} {s : Shared} {Z : Hp → Prop} {R : Result → Shared → Prop}
theorem cl_run (hc : X.calm = true) (hx : X.xe = F0) (L : Cl X.prog X.w X.A c (.ref it) tg X.env ifs B) (T : Turn X.prog X.w X.K tg J fp it tn) (pg : PG X tg g) (pt : PTs X ifs tt)
    (pb : ∀ (pl : List (Addr × Obj)) (s1 : Shared) (τ : L2.St) (G : Hp) (N : Hp → Prop), Inv X pl τ G s1 → (∀ b ∈ pl, b ∈ pins ∨ b.1 ∈ fp) → tb τ G N → B (fun s2 => ∃ τ' G', Inv X pl τ' G' s2 ∧ Kp vs τ τ' ∧ N G') s1)
    (I : Inv X pins (wipe σ vs) H s) (fr : ∀ b ∈ fp, FpOk X pins H b) (t0 : tn 0 s.heap) (q : tCl g tt tb vs σ Z J H) (k : ∀ s' G, Inv X pins (wipe σ vs) G s' → (∀ b ∈ fp, G b = none) → Z G → R (.ok .next) s') :
    codeAny (model X.prog X.w) X.A c R s := by
  obtain ⟨W, ⟨m0, w0⟩, turn⟩ := q
  refine codeAny_loop L.quiet (fun n u => ∃ i G, Inv X pins (wipe σ vs) G u ∧ tn i u.heap ∧ (∀ b ∈ fp, G b = none) ∧ W i n G) ?_ m0 ⟨0, H, I, t0, fun b hb => (fr b hb).1, w0⟩
  rintro n s1 ⟨i, G, I1, t1, n1, w1⟩
  refine L.den _ _ _ ?_
  have ok1 : ∀ b ∈ fp, FpOk X pins G b := fun b hb => ⟨n1 b hb, (fr b hb).2⟩
  rcases turn i n G w1 with ⟨stp, z⟩ | ⟨go, N, hN, step⟩
  · refine thnF (T.done X rfl rfl rfl hc i pins s1 _ G F0 I1 ok1 t1 stp) fun r s2 ⟨er, I2⟩ => ?_
    subst er
    exact k _ _ I2 n1 z
  · refine thnF (T.item X rfl rfl rfl hc i pins s1 _ G F0 I1 ok1 t1 go) fun r s2 ⟨u, er, h2⟩ => ?_
    subst er
    refine thnF h2 fun _ s3 ⟨x, G3, I3, r3, y3, t3, n3⟩ => ?_
    have J3 := I3.pinned (fun b hb => ⟨n3 b hb, (fr b hb).2⟩) (T.obj _ _ t3)
    have a1 := pg.run _ s3 _ G3 x u _ J3 r3 (step x G3 y3)
    rw [hx] at a1
    refine thnF a1 fun _ s4 ⟨τ, G4, I4, ew, q4⟩ => ?_
    have a2 := pt.run _ s4 τ G4 _ I4 q4
    rw [hx] at a2
    refine thnF a2 fun ok s5 ⟨G5, I5, q5⟩ => ?_
    have fin : ∀ (τ' : L2.St) (G' : Hp) (s' : Shared), Inv X (pins ++ pinsAt fp s3.heap) τ' G' s' → Kp vs τ τ' → N G' → ∃ m, m < n ∧ ∃ i G, Inv X pins (wipe σ vs) G s' ∧ tn i s'.heap ∧ (∀ b ∈ fp, G b = none) ∧ W i m G := fun τ' G' s' I' kp nx => by
      obtain ⟨m', hm, w'⟩ := hN G' nx
      have at_ : ∀ b ∈ fp, ∀ o, s3.heap.get? b = some o → s'.heap.get? b = some o ∧ G' b = none := fun b hb o e => by
        have z := I'.pin (b, o) (List.mem_append_right _ (List.mem_append_right _ (mem_pinsAt hb e)))
        exact ⟨z.1, z.2.1⟩
      refine ⟨m', hm, i + 1, G', I'.unpinned.weak ?_ (fun j v e => kp.2 j v (by rw [ew]; exact e)), T.keep _ _ _ t3 fun b hb o e => (at_ b hb o e).1, fun b hb => ?_, w'⟩
      · rw [kp.1, ← wipe_length τ vs, ew]
      · obtain ⟨o, e, _⟩ := T.obj _ _ t3 b hb
        exact (at_ b hb o e).2
    cases ok with
    | false => exact ⟨rfl, fin _ _ _ I5 (Kp.refl _ _) q5⟩
    | true =>
      have mem : ∀ b ∈ pins ++ pinsAt fp s3.heap, b ∈ pins ∨ b.1 ∈ fp := fun b hb => by
        rcases List.mem_append.mp hb with z | z
        · exact .inl z
        · refine .inr ?_
          obtain ⟨a, ha, e⟩ := List.mem_filterMap.mp z
          obtain ⟨o, _, rfl⟩ := Option.map_eq_some_iff.mp e
          exact ha
      refine L.mono _ _ _ (fun s6 ⟨τ', G6, I6, kp, nx⟩ => ?_) (pb _ s5 τ G5 N I5 mem q5)
      exact ⟨rfl, fin _ _ _ I6 kp nx⟩
end
end KB
set_option Elab.async false
set_option linter.all false
set_option maxRecDepth 100000
set_option maxHeartbeats 4000000
namespace KB
open PySem PySem.Spec PyProof.Rows L2
abbrev sc1 (elt t0 i0 : Expr) (if0 : List Expr) (scope : Scope) (pos : Pos) : Expr := .SetComp elt [⟨t0, i0, if0, 0⟩] scope pos
abbrev sc2 (elt t0 i0 t1 i1 : Expr) (if0 if1 : List Expr) (scope : Scope) (pos : Pos) : Expr := .SetComp elt [⟨t0, i0, if0, 0⟩, ⟨t1, i1, if1, 0⟩] scope pos
section
variable {P : Program} {w : World} {A : Around} {env : Env} {elt t0 i0 t1 i1 : Expr} {if0 if1 : List Expr} {scope : Scope} {pos : Pos} {it acc : Value}
theorem turn1 : compTurn (sc1 elt t0 i0 if0 scope pos) 0 it acc env = (do
      standAt i0.pos
      match ← pyNext it with
      | none => pure (.done .next)
      | some u =>
        letOwnedTupleGo t0 it u
        assign t0 env u
        let mut b := true
        for q in if0 do
          if b then b ← isTrue q env (eval q env)
        if b then
          (do let y ← eval elt env; standAt elt.pos; let _ ← call (.builtin "set.add") [acc, y])
        again (.compLoop (sc1 elt t0 i0 if0 scope pos) 0 it acc env)) := by rfl
theorem turn2i : compTurn (sc2 elt t0 i0 t1 i1 if0 if1 scope pos) 1 it acc env = (do
      standAt i1.pos
      match ← pyNext it with
      | none => pure (.done .next)
      | some u =>
        letOwnedTupleGo t1 it u
        assign t1 env u
        let mut b := true
        for q in if1 do
          if b then b ← isTrue q env (eval q env)
        if b then
          (do let y ← eval elt env; standAt elt.pos; let _ ← call (.builtin "set.add") [acc, y])
        again (.compLoop (sc2 elt t0 i0 t1 i1 if0 if1 scope pos) 1 it acc env)) := by rfl
theorem turn2o : compTurn (sc2 elt t0 i0 t1 i1 if0 if1 scope pos) 0 it acc env = (do
      standAt i0.pos
      match ← pyNext it with
      | none => pure (.done .next)
      | some u =>
        letOwnedTupleGo t0 it u
        assign t0 env u
        let mut b := true
        for q in if0 do
          if b then b ← isTrue q env (eval q env)
        if b then
          let y ← eval i1 env
          standAt i1.pos
          let y ← foldedSetIterable i1 env y
          let _ ← runOwn (.compStart (sc2 elt t0 i0 t1 i1 if0 if1 scope pos) 1 (← holding [y] (pyIter y)) acc env) env
        again (.compLoop (sc2 elt t0 i0 t1 i1 if0 if1 scope pos) 0 it acc env)) := by rfl
/-- a member is made and put in -/
def bAdd (P : Program) (w : World) (A : Around) (elt : Expr) (env : Env) (acc : Value) : (Shared → Prop) → Shared → Prop := fun N s =>
  wpAny (model P w) A (eval elt env) (fun y s1 => wpAny (model P w) A (call (.builtin "set.add") [acc, y]) (fun _ s2 => N s2) F0 s1) F0 s
theorem noF {α : Type} {t : Sem α} {Q : α → Shared → Prop} {M : Model} {E : Value → Shared → Prop} {s : Shared} (h : wpAny M A t Q F0 s) : wpAny M A t Q E s := wpAny_mono h (fun _ _ x => x) fun _ _ z => z.elim
theorem bAdd_mono (N N' : Shared → Prop) (s : Shared) (h : ∀ s', N s' → N' s') (b : bAdd P w A elt env acc N s) : bAdd P w A elt env acc N' s :=
  wpAny_mono b (fun _ _ x => wpAny_mono x (fun _ s' z => h s' z) fun _ _ z => z) fun _ _ z => z
theorem cl_add1 : Cl P w A (.compLoop (sc1 elt t0 i0 if0 scope pos) 0 it acc env) it t0 env if0 (bAdd P w A elt env acc) := by
  refine ⟨rfl, bAdd_mono, fun Q E s h => ?_⟩
  show wpAny _ A ((compTurn (sc1 elt t0 i0 if0 scope pos) 0 it acc env).onRaise _) _ _ s
  refine wpAny_noted ?_
  rw [turn1]
  refine wpAny_bind (wpAny_standAt (wpAny_bind (noF (wpAny_mono h (fun r s1 h1 => ?_) fun _ _ z => z))))
  cases r with
  | none => exact wpAny_pure h1
  | some u =>
    refine wpAny_bind (noF (wpAny_mono h1 (fun _ s2 h2 => wpAny_bind (noF (wpAny_mono h2 (fun _ s3 h3 => wpAny_bind (noF (wpAny_mono h3 (fun b s4 h4 => ?_) fun _ _ z => z))) fun _ _ z => z))) fun _ _ z => z))
    cases b with
    | false => exact wpAny_pure h4
    | true => exact wpAny_bind (wpAny_bind (noF (wpAny_mono h4 (fun y s5 h5 => wpAny_bind (wpAny_standAt (wpAny_bind (noF (wpAny_mono h5 (fun _ s6 h6 => wpAny_pure (wpAny_pure h6)) fun _ _ z => z))))) fun _ _ z => z)))
theorem cl_add2 : Cl P w A (.compLoop (sc2 elt t0 i0 t1 i1 if0 if1 scope pos) 1 it acc env) it t1 env if1 (bAdd P w A elt env acc) := by
  refine ⟨rfl, bAdd_mono, fun Q E s h => ?_⟩
  show wpAny _ A ((compTurn (sc2 elt t0 i0 t1 i1 if0 if1 scope pos) 1 it acc env).onRaise _) _ _ s
  refine wpAny_noted ?_
  rw [turn2i]
  refine wpAny_bind (wpAny_standAt (wpAny_bind (noF (wpAny_mono h (fun r s1 h1 => ?_) fun _ _ z => z))))
  cases r with
  | none => exact wpAny_pure h1
  | some u =>
    refine wpAny_bind (noF (wpAny_mono h1 (fun _ s2 h2 => wpAny_bind (noF (wpAny_mono h2 (fun _ s3 h3 => wpAny_bind (noF (wpAny_mono h3 (fun b s4 h4 => ?_) fun _ _ z => z))) fun _ _ z => z))) fun _ _ z => z))
    cases b with
    | false => exact wpAny_pure h4
    | true => exact wpAny_bind (wpAny_bind (noF (wpAny_mono h4 (fun y s5 h5 => wpAny_bind (wpAny_standAt (wpAny_bind (noF (wpAny_mono h5 (fun _ s6 h6 => wpAny_pure (wpAny_pure h6)) fun _ _ z => z))))) fun _ _ z => z)))
/-- the second clause is run -/
def bIn (P : Program) (w : World) (A : Around) (e i1 : Expr) (env : Env) (acc : Value) : (Shared → Prop) → Shared → Prop := fun N s =>
  wpAny (model P w) A (eval i1 env) (fun y s1 => wpAny (model P w) A (pyIter y) (fun j s2 => codeAny (model P w) A (.compStart e 1 j acc env) (fun r s' => match r with
    | .ok _ => N s'
    | .error _ => False) s2) F0 s1) F0 s
theorem bIn_mono {e : Expr} (N N' : Shared → Prop) (s : Shared) (h : ∀ s', N s' → N' s') (b : bIn P w A e i1 env acc N s) : bIn P w A e i1 env acc N' s :=
  wpAny_mono b (fun _ _ x => wpAny_mono x (fun _ _ y => codeAny_mono y fun r s' z => match r, z with
    | .ok _, z => h s' z
    | .error _, z => z) fun _ _ z => z) fun _ _ z => z
theorem cl_in (hs : ∀ x, foldedSetIterable i1 env x = pure x) : Cl P w A (.compLoop (sc2 elt t0 i0 t1 i1 if0 if1 scope pos) 0 it acc env) it t0 env if0 (bIn P w A (sc2 elt t0 i0 t1 i1 if0 if1 scope pos) i1 env acc) := by
  refine ⟨rfl, bIn_mono, fun Q E s h => ?_⟩
  show wpAny _ A ((compTurn (sc2 elt t0 i0 t1 i1 if0 if1 scope pos) 0 it acc env).onRaise _) _ _ s
  refine wpAny_noted ?_
  rw [turn2o]
  refine wpAny_bind (wpAny_standAt (wpAny_bind (noF (wpAny_mono h (fun r s1 h1 => ?_) fun _ _ z => z))))
  cases r with
  | none => exact wpAny_pure h1
  | some u =>
    refine wpAny_bind (noF (wpAny_mono h1 (fun _ s2 h2 => wpAny_bind (noF (wpAny_mono h2 (fun _ s3 h3 => wpAny_bind (noF (wpAny_mono h3 (fun b s4 h4 => ?_) fun _ _ z => z))) fun _ _ z => z))) fun _ _ z => z))
    cases b with
    | false => exact wpAny_pure h4
    | true =>
      refine wpAny_bind (noF (wpAny_mono h4 (fun y s5 h5 => ?_) fun _ _ z => z))
      refine wpAny_bind (wpAny_standAt (wpAny_bind (wpAny_of_eq (hs y) (wpAny_bind (wpAny_holding (noF (wpAny_mono h5 (fun j s6 h6 => ?_) fun _ _ z => z)))))))
      refine wpAny_bind (wpAny_runOwn ?_)
      rw [Around.mark_none]
      refine codeAny_mono h6 fun r s7 z => ?_
      cases r with
      | ok f => first
        | exact wpAny_pure z
        | exact wpAny_bind (wpAny_pure (wpAny_pure z))
      | error e => exact z.elim
theorem start2 {R : Result → Shared → Prop} {s : Shared} (h0 : codeAny (model P w) A (.compLoop (sc2 elt t0 i0 t1 i1 if0 if1 scope pos) 1 it acc env) R s)
    (h : wpAny (model P w) A (pyIter it) (fun j s' => codeAny (model P w) A (.compLoop (sc2 elt t0 i0 t1 i1 if0 if1 scope pos) 1 j acc env) R s') F0 s) :
    codeAny (model P w) A (.compStart (sc2 elt t0 i0 t1 i1 if0 if1 scope pos) 1 it acc env) R s := by
  refine codeAny_of_tree ?_
  show wpAny _ _ ((compStart (sc2 elt t0 i0 t1 i1 if0 if1 scope pos) 1 it acc env).onRaise _) _ _ s
  refine wpAny_notedAt ?_
  unfold compStart
  show wpAny _ _ (ask >>= _) _ _ s
  refine wpAny_bind (wpAny_askSetting (wpAny_ite ?_))
  split
  · first
      | exact wpAny_bind (wpAny_pure (wpAny_pure ⟨rfl, h0⟩))
      | exact wpAny_pure ⟨rfl, h0⟩
  · refine wpAny_bind (wpAny_rule ?_)
    show wpAny _ _ (standAt i1.pos >>= _) _ _ s
    exact wpAny_bind (wpAny_standAt (wpAny_bind (noF (wpAny_mono h (fun j s' h' => wpAny_pure ⟨rfl, h'⟩) fun _ _ z => z))))
end
end KB
set_option Elab.async false
set_option linter.all false
set_option maxRecDepth 100000
set_option maxHeartbeats 4000000
namespace KB
open PySem PySem.Spec PyProof.Rows L2
/-- the set's methods: what add asks and does -/
abbrev AddR := V → List V → Hp → VK → Prop
/-- a member is made, and put into the set at D -/
def tAdd (r : AddR) (te : TE) (D : Addr) : L2.St → Hp → (Hp → Prop) → Prop := fun τ G N => te τ G fun y G1 => r (.ref D) [y] G1 fun _ G2 => N G2
/-- the second clause -/
def tInn (r : AddR) (wi1 : TI) (g1 : TG) (tt1 : TT) (te : TE) (vs1 : List Nat) (D : Addr) : L2.St → Hp → (Hp → Prop) → Prop := fun τ G N => wi1 τ G fun J1 G1 => tCl g1 tt1 (tAdd r te D) vs1 τ N J1 G1
/-- {elt for t0 in i0 if ..}, D the new set -/
def tSc1 (O0 : Addr → HO) (r : AddR) (wi : TI) (g : TG) (tt : TT) (te : TE) (vs : List Nat) : TE := fun σ H Q => wi σ H fun J H1 => ∀ D, H1 D = none → tCl g tt (tAdd r te D) vs σ (fun G => Q (.ref D) G) J (upd H1 D (O0 D))
/-- {elt for t0 in i0 if .. for t1 in i1 if ..} -/
def tSc2 (O0 : Addr → HO) (r : AddR) (wi : TI) (g : TG) (tt : TT) (wi1 : TI) (g1 : TG) (tt1 : TT) (te : TE) (vs vs1 : List Nat) : TE := fun σ H Q =>
  wi σ H fun J H1 => ∀ D, H1 D = none → tCl g tt (tInn r wi1 g1 tt1 te vs1 D) vs σ (fun G => Q (.ref D) G) J (upd H1 D (O0 D))
abbrev freshSet (w : World) : Obj := { cls := .type "set", dict := none, data := .set #[] 0 (.fresh 0 0 (!w.params.followText "set-order")) }
theorem ev_sc (elt : Expr) (gs : List Comprehension) (scope : Scope) (pos : Pos) (env : Env) : eval (.SetComp elt gs scope pos) env = comprehension (.SetComp elt gs scope pos) scope env (firstIterPos gs pos) (newSet (.type "set")) (firstAsync gs) (firstIter gs env) := rfl
section
variable {X : Cx} {O0 : Addr → HO} {r : AddR} {elt t0 i0 t1 i1 : Expr} {if0 if1 : List Expr} {scope : Scope} {own : List (Str × Nat)} {vs1 : List Nat} {pos : Pos} {wi wi1 : TI} {g g1 : TG} {tt tt1 : TT} {te : TE}
/-- what stands in the block, in its context -/
abbrev InBlk (X : Cx) (scope : Scope) (p : Cx → Prop) : Prop := ∀ (s : Shared) (H : Hp) (C : Addr) (cl : List (Str × Addr)) (fp : List Addr), p (X.blk s H scope (compEnvC scope cl C X.env) fp)
/-- put in: the rest of a turn -/
theorem add_ok {Y : Cx} {D : Addr} {vs : List Nat} (hx : Y.xe = F0) (he : PE Y elt te) (ha : MtR Y "set.add" r) (pl : List (Addr × Obj)) (s : Shared) (τ : L2.St) (G : Hp) (N : Hp → Prop) (I : Inv Y pl τ G s) (q : tAdd r te D τ G N) :
    bAdd Y.prog Y.w Y.A elt Y.env (.ref D) (fun s2 => ∃ τ' G', Inv Y pl τ' G' s2 ∧ Kp vs τ τ' ∧ N G') s := by
  have a1 := he.run pl s τ G _ I q
  rw [hx] at a1
  refine wpAny_mono a1 (fun u s1 ⟨y, G1, I1, r1, q1⟩ => ?_) fun _ _ z => z
  have a2 := ha pl s1 τ G1 (.ref D) [y] (.ref D) [u] _ I1 rfl (.cons r1 .nil) q1
  rw [hx] at a2
  exact wpAny_mono a2 (fun _ s2 ⟨z, G2, I2, r2, q2⟩ => ⟨τ, G2, I2, Kp.refl _ _, q2⟩) fun _ _ z => z
/-- the second clause: the rest of a turn of the first -/
theorem inn_ok {Y : Cx} {D : Addr} {vs : List Nat} (hc : Y.calm = true) (hx : Y.xe = F0) (hv : ∀ i ∈ vs1, i ∈ vs) (hi1 : PI Y t1 i1 wi1) (hg1 : PG Y t1 g1) (ht1 : PTs Y if1 tt1) (he : PE Y elt te) (ha : MtR Y "set.add" r)
    (pl : List (Addr × Obj)) (s : Shared) (τ : L2.St) (G : Hp) (N : Hp → Prop) (I : Inv Y pl τ G s) (q : tInn r wi1 g1 tt1 te vs1 D τ G N) :
    bIn Y.prog Y.w Y.A (sc2 elt t0 i0 t1 i1 if0 if1 scope pos) i1 Y.env (.ref D) (fun s2 => ∃ τ' G', Inv Y pl τ' G' s2 ∧ Kp vs τ τ' ∧ N G') s := by
  have a1 := hi1.run pl s τ G _ I q
  rw [hx] at a1
  refine wpAny_mono a1 (fun u s1 a2 => wpAny_mono a2 (fun j s2 h2 => ?_) fun _ _ z => z) fun _ _ z => z
  obtain ⟨it, fp, tn, J, G1, e, I1, T, st, fr, q1⟩ := h2
  subst e
  have run := cl_run (R := fun rr s' => match rr with
      | .ok _ => ∃ τ' G', Inv Y pl τ' G' s' ∧ Kp vs τ τ' ∧ N G'
      | .error _ => False) hc hx (cl_add2 (elt := elt) (t0 := t0) (i0 := i0) (i1 := i1) (if0 := if0) (scope := scope) (pos := pos) (acc := .ref D)) T hg1 ht1
    (fun pl' s' τ' G' N' I' _ q' => add_ok (vs := vs1) hx he ha pl' s' τ' G' N' I' q') (I1.weak (wipe_length _ _) fun i v e => (wipe_some e).1) fr st q1
    fun s' G' I' _ z => ⟨_, G', I', Kp.wipe hv τ, z⟩
  exact start2 run (T.self Y.A 0 _ _ _ st run)
/-- from the block's loop to the def's context -/
theorem blk_ok {e : Expr} (hcl : ∃ gs, e = .SetComp elt (⟨t0, i0, if0, 0⟩ :: gs) scope pos) (hN : X.N.Nodup) (hi : PI X t0 i0 wi) (ok : BlkOk X.N X.env.scope scope own)
    (new : ∀ (H : Hp) (h : Heap), ObjOk X.prog X.w H (h.push (freshSet X.w)) h.objs.size (O0 h.objs.size)) {tb : Addr → L2.St → Hp → (Hp → Prop) → Prop}
    (loop : ∀ (s : Shared) (H : Hp) (C : Addr) (cl : List (Str × Addr)) (fp : List Addr) (it : Addr) (tn : Nat → Heap → Prop) (J : It) (D : Addr) (σ : L2.St) (s1 : Shared) (Z : Hp → Prop) (R : Result → Shared → Prop),
      Inv (X.blk s H scope (compEnvC scope cl C X.env) fp) [] (wipe σ (own.map (·.2))) H s1 → Turn X.prog X.w X.K t0 J fp it tn → (∀ b ∈ fp, FpOk (X.blk s H scope (compEnvC scope cl C X.env) fp) [] H b) → tn 0 s1.heap → tCl g tt (tb D) (own.map (·.2)) σ Z J H →
      (∀ s' G, Inv (X.blk s H scope (compEnvC scope cl C X.env) fp) [] (wipe σ (own.map (·.2))) G s' → Z G → R (.ok .next) s') → codeAny (model X.prog X.w) X.A (.compLoop e 0 (.ref it) (.ref D) (compEnvC scope cl C X.env)) R s1)
    (hs : ∀ x, foldedSetIterable i0 X.env x = pure x) : PE X e (fun σ H Q => wi σ H fun J H1 => ∀ D, H1 D = none → tCl g tt (tb D) (own.map (·.2)) σ (fun G => Q (.ref D) G) J (upd H1 D (O0 D))) := by
  obtain ⟨gs, rfl⟩ := hcl
  refine ⟨fun pins s σ H Q I h => ?_⟩
  rw [ev_sc]
  have hfree : ∀ y ∈ scope.names, y.2 = .free → ∃ c, X.env.cells.lookup y.1 = some c := fun y hy e => I.ok.has _ (ok.free y hy e)
  refine wpAny_comprehension_free (use := none) rfl hs (closure_ok hfree) ok.kind (fun y hy e => by rw [ok.uniq y hy, e]) (thn (hi.run pins s σ H _ I h) fun xv s1 hx => thn hx fun itv s2 h2 => ?_)
  obtain ⟨it, fp, tn, J, H2, e, I2, T, st, fr, q⟩ := h2
  subst e
  refine PpSet.newSet_ok (newEnv_comp ?_)
  have hDn : H2 s2.heap.objs.size = none := I2.hok.fresh (Nat.le_refl _)
  have q0 := q _ hDn
  generalize hD : s2.heap.objs.size = D at hDn q0
  have I3 : Inv X pins σ (upd H2 D (O0 D)) { s2 with heap := s2.heap.push (freshSet X.w) } :=
    I2.laid (t' := s2.toks) (fun b o e => Heap.get?_push_of_some _ e) (Nat.le_of_eq hD) (hD ▸ new _ _)
  generalize h3 : ({ s2 with heap := s2.heap.push (freshSet X.w) } : Shared) = s3 at I3
  have e3 : s3.heap = s2.heap.push (freshSet X.w) := by rw [← h3]
  have lt : ∀ b ∈ fp, b < s2.heap.objs.size := fun b hb => by
    obtain ⟨o, e, _⟩ := T.obj _ _ st b hb
    exact Heap.lt_size e
  have fr3 : ∀ b ∈ fp, FpOk X pins (upd H2 D (O0 D)) b ∧ b < s3.heap.objs.size := fun b hb => by
    have l := lt b hb
    refine ⟨⟨?_, (fr b hb).2⟩, by rw [e3, Heap.size_push]; exact Nat.lt_succ_of_lt l⟩
    rw [upd_ne (by rw [← hD]; exact Nat.ne_of_lt l)]
    exact (fr b hb).1
  have st3 : tn 0 s3.heap := T.keep _ _ _ st fun b _ o e => by rw [e3]; exact Heap.get?_push_of_some _ e
  have I4 := block_start I3 ok hN fr3
  have st4 : tn 0 (pushCells (s3.heap.push { cls := .type "dict", data := .dict #[] }) scope.names) := T.keep _ _ _ st3 fun b _ o e => pushCells_keeps _ _ _ _ (Heap.get?_push_of_some _ e)
  have fr4 : ∀ b ∈ fp, FpOk (X.blk s3 (upd H2 D (O0 D)) scope (compEnvC scope (cellsFrom (s3.heap.objs.size + 1) scope.names (cloFrom X.env.cells scope.names [])) s3.heap.objs.size X.env) fp) [] (upd H2 D (O0 D)) b := fun b hb =>
    ⟨(fr3 b hb).1.1, (I4.ok.exf b hb).1, I4.ok.exfs b hb, .inl hb, fun x c e => (I4.ok.exf b hb).2 x c e, fun p hp => absurd (show p ∈ ([] : List (Addr × Obj)) ++ [] from hp) (by simp)⟩
  have run := loop s3 (upd H2 D (O0 D)) _ _ fp it tn J D σ _ _ (compPost (model X.prog X.w) X.A X.xe none (EP X pins σ Q) (.ref D) s3.heap.objs.size) I4 T fr4 st4 q0 fun s' G I' z => by
    have I7 : Inv X pins σ G s' := I3.call' (ch := fp) I'.os I'.base I'.hok I'.bare fun b hb => ⟨(fr3 b hb).1.2.2.2.1, (fr3 b hb).1.2.1, (fr3 b hb).1.2.2.2.2.1, (fr3 b hb).1.2.2.2.2.2⟩
    have nC : G s3.heap.objs.size = none := I'.free
    obtain ⟨m, hm, _⟩ := I'.loc
    obtain ⟨f0, f1, f2, f3, f4, f5⟩ := I3.fpOk (Nat.le_refl _) nC
    exact ⟨m, hm, fun h' sb => ⟨.ref D, G, I7.turned (t' := s'.toks) (fun b o hb e => (sb.2 b hb).trans e) f0 f1 f3 f4 f5, rfl, z⟩⟩
  have fin := PpSet.codeAny_compStart_set run (T.self X.A 0 _ _ _ st4 run)
  subst h3
  subst hD
  exact fin
end
end KB
set_option Elab.async false
set_option linter.all false
set_option maxRecDepth 100000
set_option maxHeartbeats 4000000
namespace KB
open PySem PySem.Spec PyProof.Rows L2
section
variable {X : Cx} {O0 : Addr → HO} {r : AddR} {elt t0 i0 t1 i1 : Expr} {if0 if1 : List Expr} {scope : Scope} {own : List (Str × Nat)} {vs1 : List Nat} {pos : Pos} {wi wi1 : TI} {g g1 : TG} {tt tt1 : TT} {te : TE}
theorem pe_sc1R (hc : X.calm = true) (hN : X.N.Nodup) (hi : PI X t0 i0 wi) (ok : BlkOk X.N X.env.scope scope own) (hg : ∀ (s : Shared) (H : Hp) (C : Addr) (cl : List (Str × Addr)) (fp : List Addr), PG (X.blk s H scope (compEnvC scope cl C X.env) fp) t0 g) (ht : ∀ (s : Shared) (H : Hp) (C : Addr) (cl : List (Str × Addr)) (fp : List Addr), PTs (X.blk s H scope (compEnvC scope cl C X.env) fp) if0 tt) (he : ∀ (s : Shared) (H : Hp) (C : Addr) (cl : List (Str × Addr)) (fp : List Addr), PE (X.blk s H scope (compEnvC scope cl C X.env) fp) elt te)
    (new : ∀ (H : Hp) (h : Heap), ObjOk X.prog X.w H (h.push (freshSet X.w)) h.objs.size (O0 h.objs.size)) (ha : ∀ (s : Shared) (H : Hp) (C : Addr) (cl : List (Str × Addr)) (fp : List Addr), MtR (X.blk s H scope (compEnvC scope cl C X.env) fp) "set.add" r) (hs : ∀ x, foldedSetIterable i0 X.env x = pure x := by intro _; rfl) :
    PE X (sc1 elt t0 i0 if0 scope pos) (tSc1 O0 r wi g tt te (own.map (·.2))) :=
  blk_ok (tb := fun D => tAdd r te D) ⟨_, rfl⟩ hN hi ok new (fun s H C cl fp it tn J D σ s1 Z R I T fr st q k =>
    cl_run (X := X.blk s H scope (compEnvC scope cl C X.env) fp) hc rfl (cl_add1 (elt := elt) (i0 := i0) (scope := scope) (pos := pos) (acc := .ref D)) T (hg s H C cl fp) (ht s H C cl fp)
      (fun pl s' τ G N I' _ q' => add_ok (Y := X.blk s H scope (compEnvC scope cl C X.env) fp) rfl (he s H C cl fp) (ha s H C cl fp) pl s' τ G N I' q') I fr st q fun s' G I' _ z => k s' G I' z) hs
theorem pe_sc2R (hc : X.calm = true) (hN : X.N.Nodup) (hi : PI X t0 i0 wi) (ok : BlkOk X.N X.env.scope scope own) (hv : ∀ i ∈ vs1, i ∈ own.map (·.2)) (hg : ∀ (s : Shared) (H : Hp) (C : Addr) (cl : List (Str × Addr)) (fp : List Addr), PG (X.blk s H scope (compEnvC scope cl C X.env) fp) t0 g) (ht : ∀ (s : Shared) (H : Hp) (C : Addr) (cl : List (Str × Addr)) (fp : List Addr), PTs (X.blk s H scope (compEnvC scope cl C X.env) fp) if0 tt)
    (hi1 : ∀ (s : Shared) (H : Hp) (C : Addr) (cl : List (Str × Addr)) (fp : List Addr), PI (X.blk s H scope (compEnvC scope cl C X.env) fp) t1 i1 wi1) (hg1 : ∀ (s : Shared) (H : Hp) (C : Addr) (cl : List (Str × Addr)) (fp : List Addr), PG (X.blk s H scope (compEnvC scope cl C X.env) fp) t1 g1) (ht1 : ∀ (s : Shared) (H : Hp) (C : Addr) (cl : List (Str × Addr)) (fp : List Addr), PTs (X.blk s H scope (compEnvC scope cl C X.env) fp) if1 tt1) (he : ∀ (s : Shared) (H : Hp) (C : Addr) (cl : List (Str × Addr)) (fp : List Addr), PE (X.blk s H scope (compEnvC scope cl C X.env) fp) elt te)
    (new : ∀ (H : Hp) (h : Heap), ObjOk X.prog X.w H (h.push (freshSet X.w)) h.objs.size (O0 h.objs.size)) (ha : ∀ (s : Shared) (H : Hp) (C : Addr) (cl : List (Str × Addr)) (fp : List Addr), MtR (X.blk s H scope (compEnvC scope cl C X.env) fp) "set.add" r) (hs : ∀ x, foldedSetIterable i0 X.env x = pure x := by intro _; rfl) (hs1 : ∀ env x, foldedSetIterable i1 env x = pure x := by intro _ _; rfl) :
    PE X (sc2 elt t0 i0 t1 i1 if0 if1 scope pos) (tSc2 O0 r wi g tt wi1 g1 tt1 te (own.map (·.2)) vs1) :=
  blk_ok (tb := fun D => tInn r wi1 g1 tt1 te vs1 D) ⟨_, rfl⟩ hN hi ok new (fun s H C cl fp it tn J D σ s1 Z R I T fr st q k =>
    cl_run (X := X.blk s H scope (compEnvC scope cl C X.env) fp) hc rfl (cl_in (elt := elt) (t0 := t0) (i0 := i0) (t1 := t1) (if0 := if0) (if1 := if1) (scope := scope) (pos := pos) (acc := .ref D) (hs1 _)) T (hg s H C cl fp) (ht s H C cl fp)
      (fun pl s' τ G N I' _ q' => inn_ok (Y := X.blk s H scope (compEnvC scope cl C X.env) fp) hc rfl hv (hi1 s H C cl fp) (hg1 s H C cl fp) (ht1 s H C cl fp) (he s H C cl fp) (ha s H C cl fp) pl s' τ G N I' q') I fr st q fun s' G I' _ z => k s' G I' z) hs
/-- of ints -/
theorem pe_sc1I (hc : X.calm = true) (hN : X.N.Nodup) (hi : PI X t0 i0 wi) (ok : BlkOk X.N X.env.scope scope own) (hg : ∀ (s : Shared) (H : Hp) (C : Addr) (cl : List (Str × Addr)) (fp : List Addr), PG (X.blk s H scope (compEnvC scope cl C X.env) fp) t0 g) (ht : ∀ (s : Shared) (H : Hp) (C : Addr) (cl : List (Str × Addr)) (fp : List Addr), PTs (X.blk s H scope (compEnvC scope cl C X.env) fp) if0 tt) (he : ∀ (s : Shared) (H : Hp) (C : Addr) (cl : List (Str × Addr)) (fp : List Addr), PE (X.blk s H scope (compEnvC scope cl C X.env) fp) elt te) (hs : ∀ x, foldedSetIterable i0 X.env x = pure x := by intro _; rfl) :
    PE X (sc1 elt t0 i0 if0 scope pos) (tSc1 (fun D => SetO X.w D (fun _ => false) 0) (rSAdd X.w) wi g tt te (own.map (·.2))) :=
  pe_sc1R hc hN hi ok hg ht he (fun _ _ => setO_new (setR_fresh X.w)) (fun _ _ _ _ _ => mt_sadd) hs
theorem pe_sc2I (hc : X.calm = true) (hN : X.N.Nodup) (hi : PI X t0 i0 wi) (ok : BlkOk X.N X.env.scope scope own) (hv : ∀ i ∈ vs1, i ∈ own.map (·.2)) (hg : ∀ (s : Shared) (H : Hp) (C : Addr) (cl : List (Str × Addr)) (fp : List Addr), PG (X.blk s H scope (compEnvC scope cl C X.env) fp) t0 g) (ht : ∀ (s : Shared) (H : Hp) (C : Addr) (cl : List (Str × Addr)) (fp : List Addr), PTs (X.blk s H scope (compEnvC scope cl C X.env) fp) if0 tt)
    (hi1 : ∀ (s : Shared) (H : Hp) (C : Addr) (cl : List (Str × Addr)) (fp : List Addr), PI (X.blk s H scope (compEnvC scope cl C X.env) fp) t1 i1 wi1) (hg1 : ∀ (s : Shared) (H : Hp) (C : Addr) (cl : List (Str × Addr)) (fp : List Addr), PG (X.blk s H scope (compEnvC scope cl C X.env) fp) t1 g1) (ht1 : ∀ (s : Shared) (H : Hp) (C : Addr) (cl : List (Str × Addr)) (fp : List Addr), PTs (X.blk s H scope (compEnvC scope cl C X.env) fp) if1 tt1) (he : ∀ (s : Shared) (H : Hp) (C : Addr) (cl : List (Str × Addr)) (fp : List Addr), PE (X.blk s H scope (compEnvC scope cl C X.env) fp) elt te)
    (hs : ∀ x, foldedSetIterable i0 X.env x = pure x := by intro _; rfl) (hs1 : ∀ env x, foldedSetIterable i1 env x = pure x := by intro _ _; rfl) :
    PE X (sc2 elt t0 i0 t1 i1 if0 if1 scope pos) (tSc2 (fun D => SetO X.w D (fun _ => false) 0) (rSAdd X.w) wi g tt wi1 g1 tt1 te (own.map (·.2)) vs1) :=
  pe_sc2R hc hN hi ok hv hg ht hi1 hg1 ht1 he (fun _ _ => setO_new (setR_fresh X.w)) (fun _ _ _ _ _ => mt_sadd) hs hs1
end
/-- a clause over what a Walk tells: I holds ahead of each turn -/
theorem cl_walk {J : It} {n : Nat} {G0 : Hp → Prop} {Y : Nat → Hp → V → Hp → Prop} {g : TG} {tt : TT} {tb : L2.St → Hp → (Hp → Prop) → Prop} {vs : List Nat} {σ : L2.St} {Z : Hp → Prop} {H : Hp} (w : Walk J n G0 Y) (I : Nat → Hp → Prop) (h0 : I 0 H) (hp : ∀ i G, i ≤ n → I i G → G0 G)
    (turn : ∀ (i : Nat) (x : V) (G G' : Hp), i < n → I i G → Y i G x G' → g x (wipe σ vs) G' fun σ2 H2 => wipe σ2 vs = wipe σ vs ∧ tt σ2 H2 fun b H3 => if b = true then tb σ2 H3 (I (i + 1)) else I (i + 1) H3) (fin : ∀ G, I n G → Z G) :
    tCl g tt tb vs σ Z J H := by
  refine ⟨fun i m G => m = n - i ∧ i ≤ n ∧ I i G, ⟨n, by simp, Nat.zero_le _, h0⟩, ?_⟩
  rintro i m G ⟨rfl, hi, z⟩
  by_cases lt : i < n
  · exact .inr ⟨w.goes i G lt (hp i G hi z), I (i + 1), fun G' z' => ⟨n - (i + 1), by omega, rfl, lt, z'⟩, fun x G' y => turn i x G G' lt z (w.yields i G x G' lt (hp i G hi z) y)⟩
  · obtain rfl : i = n := by omega
    exact .inl ⟨w.stops G (hp i G hi z), fin G z⟩
end KB
set_option Elab.async false
set_option linter.all false
set_option maxRecDepth 100000
set_option maxHeartbeats 4000000
/-! y = {k: v for ..}, y a local name. -/
namespace KB
open PySem PySem.Spec PyProof.Rows L2
theorem ps_setDc {X : Cx} {i : Nat} {y : Str} {py : Pos} {kx vx tg iter : Expr} {ifs : List Expr} {scope : Scope} {own : List (Str × Nat)} {pos spos : Pos} {wi : TI} {g : TG} {tt : TT} {tk tv : TE}
    (hc : X.calm = true) (hN : X.N.Nodup) (hy : X.N[i]? = some y) (hl : X.env.scope.names.lookup y = some .local) (sw : swapsWith (.DictComp kx vx [⟨tg, iter, ifs, 0⟩] scope pos) (some (.Name y py)) spos.line X.env = pure true)
    (hi : PI X tg iter wi) (ok : BlkOk X.N X.env.scope scope own)
    (hg : ∀ (s : Shared) (H : Hp) (C : Addr) (cl : List (Str × Addr)) (fp : List Addr), PG (X.blk s H scope (compEnvC scope cl C X.env) fp) tg g) (ht : ∀ (s : Shared) (H : Hp) (C : Addr) (cl : List (Str × Addr)) (fp : List Addr), PTs (X.blk s H scope (compEnvC scope cl C X.env) fp) ifs tt)
    (hk : ∀ (s : Shared) (H : Hp) (C : Addr) (cl : List (Str × Addr)) (fp : List Addr), PE (X.blk s H scope (compEnvC scope cl C X.env) fp) kx tk) (hv : ∀ (s : Shared) (H : Hp) (C : Addr) (cl : List (Str × Addr)) (fp : List Addr), PE (X.blk s H scope (compEnvC scope cl C X.env) fp) vx tv)
    (hs : ∀ x, foldedSetIterable iter X.env x = pure x := by intro _; rfl) : PS X (.Assign [.Name y py] (.DictComp kx vx [⟨tg, iter, ifs, 0⟩] scope pos) spos) (tAsg (tDc wi g tt tk tv (own.map (·.2))) (gName i)) := by
  refine ⟨fun pins s σ H D I h => ?_⟩
  rw [exec_Assign_Name_used _ _ _ _ sw]
  refine wpAny_bind (wpAny_standAt (wpAny_bind ?_))
  have h' : tDc wi g tt tk tv (own.map (·.2)) σ H (fun x G => gName i x σ G D.nx) := h
  have run := dc_core (use := some (assign (.Name y py) X.env)) (pos := pos) (pos' := firstIterPos [⟨tg, iter, ifs, 0⟩] pos) (Qf := fun _ s' => SP X pins D .next s') hc hN I hi ok hg ht hk hv hs h' fun L C s' m G J q hn f => by
    show wpAny _ _ (assign (.Name y py) X.env (.ref L)) _ _ _
    refine wpAny_assign_Name (store_ok2 (v := V.ref L) J hN hy (.inl hl) rfl (fun s2 J2 ⟨a, sb, ha⟩ => ?_) (.inr hl))
    obtain ⟨f0, f1, f2, f3, f4, f5⟩ := f
    have ne : C ≠ a := by
      rcases ha with z | z
      · rw [z]
        exact f1
      · exact fun e => f4 y a z e.symm
    exact ⟨m, hn.sameBut sb ne, fun h3 sb3 => ⟨_, G, J2.turned (t' := s2.toks) (fun b o hb e => (sb3.2 b hb).trans e) f0 f1 f3 f4 f5, q⟩⟩
  refine wpAny_bind (thn run fun _ s' hq => ?_)
  exact wpAny_pure (wpAny_pure hq)
end KB
set_option Elab.async false
set_option linter.all false
namespace KB
open PySem PySem.Spec PyProof.Rows L2
/-- all but what stands at D -/
def off (H : Hp) (D : Addr) : Hp := fun b => if b = D then none else H b
theorem off_at {H : Hp} {D b : Addr} (n : b ≠ D) : off H D b = H b := if_neg n
theorem off_same {H H' : Hp} (D : Addr) (k : Same H H') : Same (off H D) (off H' D) := fun b o e => by
  by_cases n : b = D
  · unfold off at e
    rw [if_pos n] at e
    cases e
  · rw [off_at n] at e ⊢
    exact k _ _ e
theorem off_le (H : Hp) (D : Addr) : Same (off H D) H := fun b o e => by
  by_cases n : b = D
  · unfold off at e
    rw [if_pos n] at e
    cases e
  · rw [off_at n] at e
    exact e
theorem off_upd (H : Hp) (D : Addr) (o : HO) : off (upd H D o) D = off H D := by
  funext b
  unfold off
  by_cases n : b = D
  · rw [if_pos n, if_pos n]
  · rw [if_neg n, if_neg n, upd_ne n]
theorem off_in {H G : Hp} {D : Addr} (k : Same H G) (n : H D = none) : Same H (off G D) := fun b o e => by
  rw [off_at (ne_of_none e n)]
  exact k b o e
end KB
set_option Elab.async false
set_option linter.all false
set_option maxRecDepth 100000
set_option maxHeartbeats 4000000
/-! list(x) of a text: its signs, one by one. -/
namespace KB
open PySem PySem.Spec PyProof.Rows L2
def signsV (z : Str) : List V := z.cps.toList.map fun c => V.str ⟨#[c]⟩
def rListS : List V → Hp → VK → Prop := fun xs H Q => ∃ z : Str, xs = [.str z] ∧ z.length ≤ sizeLine ∧ ∀ q, H q = none → Q (.ref q) (upd H q (.lst (signsV z)))
theorem cr_listS {X : Cx} (hc : X.calm = true) : CallR X (.type "list") rListS := by
  intro pins s σ H xs us Q I r h
  obtain ⟨z, rfl, hz, q⟩ := h
  obtain ⟨u, rfl, t, rfl⟩ := vals1 r
  refine call_list_str (I.ok.hd hc) z t (hn := hz) fun h' tk acc' c' hkeep hS hacc => ?_
  refine ⟨.ref s.heap.objs.size, upd H s.heap.objs.size (.lst (signsV z)), I.laid hkeep (Nat.le_refl _) (show ObjOk X.prog X.w _ _ _ (.lst (signsV z)) from ⟨?_, acc'.toList, c', ?_, ?_⟩), rfl, q _ (I.hok.fresh (Nat.le_refl _))⟩
  · show (signsV z).length ≤ _
    unfold signsV
    rw [List.length_map, Array.length_toList]
    exact hz
  · refine vals_of_at (by unfold signsV; rw [List.length_map, Array.length_toList, Array.length_toList, hacc.1]) fun j x w h1 h2 => ?_
    obtain ⟨c, t2, hc2, rfl⟩ := hacc.2 j w (by rw [← Array.getElem?_toList]; exact h2)
    unfold signsV at h1
    rw [List.getElem?_map, Array.getElem?_toList, hc2] at h1
    cases h1
    exact ⟨t2, rfl⟩
  · rw [Array.toArray_toList]; exact hS
end KB
set_option Elab.async false
set_option linter.all false
set_option maxRecDepth 100000
set_option maxHeartbeats 4000000
/-! x in l, l a list of dictionaries from keys to ints, x such a one. -/
namespace PySem.SeqAt
open AutoSeq1 (wpAny_loadPart')
open MeetsSeq MeetsSeq2 MeetsSeq3 SeqRoads2
section
variable {prog : Program} {w : World}
theorem kim_loop (l : Addr) (items : Array Value) (n : Nat) (dd : Option Addr) (sl : Array (Option Value)) (x : Value) (e : Nat → Bool) (k : Nat) :
    ∀ i : Nat, items.size - i = k → MeetsIn prog w (Builtin.«list.__contains__.loop» ⟨[.ref l, x, rawInt i], []⟩)
      (fun A R s => s.heap.get? l = some { cls := .type "list", dict := dd, data := .seq items n, slots := sl } ∧ (∀ j (h : j < items.size), EqP prog w A.in1 s items[j] x (e j)) ∧ R (.ok (.ret (.bool (((List.range items.size).drop i).any e)))) s) := by
  induction k with
  | zero =>
    intro i hk A R s h
    obtain ⟨hp, g, d, tk, os⟩ := s; obtain ⟨hl, he, h⟩ := h
    wp_walk using wpAny_loadPart' hl
    have hi : items[((i : Nat) : Int).toNat]? = none := by simp; omega
    have hd : (List.range items.size).drop i = [] := by simp; omega
    rw [hd] at h
    rw [hi]
    wp_walk
    exact h
  | succ k ih =>
    intro i hk A R s h
    obtain ⟨hp, g, d, tk, os⟩ := s; obtain ⟨hl, he, h⟩ := h
    wp_walk using wpAny_loadPart' hl
    have hlt : i < items.size := by omega
    have hi : items[((i : Nat) : Int).toNat]? = some items[i] := by simp [hlt]
    have hd : (List.range items.size).drop i = i :: (List.range items.size).drop (i + 1) := by simp [List.drop_eq_getElem_cons, hlt]
    rw [hd, List.any_cons] at h
    rw [hi]
    refine wpAny_bind (he i hlt _ _ ?_)
    cases hb : e i with
    | true =>
      rw [hb] at h
      wp_walk
      exact h
    | false =>
      rw [hb] at h
      have hc : ((i : Int) + 1) = ((i + 1 : Nat) : Int) := by push_cast; rfl
      wp_walk
      rw [hc]
      exact ⟨plainId_quiet plain_contains_loop _, codeAny_builtin entry_contains_loop (by
        rw [Around.under_plainId plain_contains_loop _]
        exact ih (i + 1) (by omega) A R _ ⟨hl, he, by simpa using h⟩)⟩
theorem kim_contains (l : Addr) (items : Array Value) (n : Nat) (dd : Option Addr) (sl : Array (Option Value)) (x : Value) (e : Nat → Bool) :
    MeetsIn prog w (Builtin.«list.__contains__» ⟨[.ref l, x], []⟩)
      (fun A R s => s.heap.get? l = some { cls := .type "list", dict := dd, data := .seq items n, slots := sl } ∧ (∀ j (h : j < items.size), EqP prog w A.in1 s items[j] x (e j)) ∧ R (.ok (.ret (.bool ((List.range items.size).any e)))) s) := by
  intro A R s h
  obtain ⟨hp, g, d, tk, os⟩ := s; obtain ⟨hl, he, h⟩ := h
  wp_walk using wpAny_loadPart' hl
  exact ⟨plainId_quiet plain_contains_loop _, codeAny_builtin entry_contains_loop (by
    rw [Around.under_plainId plain_contains_loop _]
    exact kim_loop l items n dd sl x e _ 0 rfl A R _ ⟨hl, he, by simpa using h⟩)⟩
theorem kim_in {A : Around} {E : Value → Shared → Prop} {s : Shared} {l : Addr} {items : Array Value} {x : Value} {Q : Value → Shared → Prop} (e : Nat → Bool) (hl : s.heap.IsList l items) (he : ∀ j (h : j < items.size), EqP prog w A.in1 s items[j] x (e j))
    (h : Q (.bool ((List.range items.size).any e)) s) : wpAny (model prog w) A (compareOp .In x (.ref l)) Q E s := by
  obtain ⟨⟨cls, dd, data, sl⟩, ho, hc, n, hd⟩ := id hl
  simp only at hc hd
  subst hc hd
  have hT : s.TypeIs (.ref l) "list" := ⟨_, ho, rfl⟩
  show wpAny _ A (do return .bool (← contains (.ref l) x)) Q E s
  refine wpAny_bind (wpAny_contains_slot hT F.slot_list_contains (wpAny_mono (call_meetsIn F.slot_list_contains hT F.entry_list_contains (F.args_list_contains_2 _ _) (kim_contains l items n dd sl x e) ⟨ho, he, (show wants (fun v s' => ∃ b, v = .bool b ∧ Q (.bool b) s') E _ s from ⟨_, rfl, h⟩)⟩) (fun v s' hv => ?_) fun _ _ e => e))
  obtain ⟨b, rfl, hq⟩ := hv
  exact wpAny_truthy_bool (wpAny_pure hq)
theorem kim_notIn {A : Around} {E : Value → Shared → Prop} {s : Shared} {l : Addr} {items : Array Value} {x : Value} {Q : Value → Shared → Prop} (e : Nat → Bool) (hl : s.heap.IsList l items) (he : ∀ j (h : j < items.size), EqP prog w A.in1 s items[j] x (e j))
    (h : Q (.bool (!(List.range items.size).any e)) s) : wpAny (model prog w) A (compareOp .NotIn x (.ref l)) Q E s := by
  obtain ⟨⟨cls, dd, data, sl⟩, ho, hc, n, hd⟩ := id hl
  simp only at hc hd
  subst hc hd
  have hT : s.TypeIs (.ref l) "list" := ⟨_, ho, rfl⟩
  show wpAny _ A (do return .bool (!(← contains (.ref l) x))) Q E s
  refine wpAny_bind (wpAny_contains_slot hT F.slot_list_contains (wpAny_mono (call_meetsIn F.slot_list_contains hT F.entry_list_contains (F.args_list_contains_2 _ _) (kim_contains l items n dd sl x e) ⟨ho, he, (show wants (fun v s' => ∃ b, v = .bool b ∧ Q (.bool (!b)) s') E _ s from ⟨_, rfl, h⟩)⟩) (fun v s' hv => ?_) fun _ _ e => e))
  obtain ⟨b, rfl, hq⟩ := hv
  exact wpAny_truthy_bool (wpAny_pure hq)
end
end PySem.SeqAt
namespace L2
open PySem PySem.Spec PyProof.Rows
theorem kim_hits {A : Around} {s : Shared} {kvs : List (Key × V)} {vb : List (Key × Value)} (rb : KV kvs vb) {ks : List (Key × V)} {va : List (Key × Value)} (ra : KV ks va) {P : Program} {w : World} :
    (∀ p ∈ ks, ∃ i j : Int, p.2 = .int i ∧ valV kvs p.1 = some (.int j)) → PySem.W.KeqHitsP P w A s vb va (ks.all fun p => decide (valV kvs p.1 = some p.2)) := by
  unfold KV at ra
  induction ra with
  | nil => intro _; exact .nil
  | @cons p q ps qs h t ih =>
    intro hp
    obtain ⟨h1, h2⟩ := h
    obtain ⟨i, j, e1, e2⟩ := hp p List.mem_cons_self
    have rr : RelO (some (V.int j)) (valueAt vb p.1) := by rw [← e2]; exact rb.val p.1
    obtain ⟨y, hy, ry⟩ := rr.some_of
    obtain ⟨k, v⟩ := q
    have h1' : p.1 = k := h1
    rw [h1'] at hy
    rw [List.all_cons]
    have h2' : RelV p.2 v := h2
    rw [e1] at h2'
    obtain ⟨t1, rfl⟩ := h2'
    obtain ⟨t2, rfl⟩ := ry
    have eb : decide (valV kvs p.1 = some p.2) = (i == j) := by
      rw [e1, e2, Bool.eq_iff_iff]
      simp
      exact eq_comm
    rw [eb]
    exact .hit hy ((MeetsSeq.EqGives.int i j t1 t2).at A s).eqP (ih fun p' hm => hp p' (List.mem_cons_of_mem _ hm))
/-- e i: whether the i-th of xs is equal to the dictionary ls -/
def EqMs (H : Hp) (a : Addr) (ls : List (Key × V)) (xs : List V) (e : Nat → Bool) : Prop :=
  ∀ (i : Nat) (v : V), xs[i]? = some v → ∃ (c : Addr) (ks : List (Key × V)), v = .ref c ∧ c ≠ a ∧ H c = some (.dK ks) ∧ ks.length = ls.length ∧ (∀ p ∈ ks, ∃ i j : Int, p.2 = .int i ∧ valV ls p.1 = some (.int j)) ∧ e i = ks.all fun p => decide (valV ls p.1 = some p.2)
section
variable {X : Cx} {pins : List (Addr × Obj)} {σ : St} {H : Hp} {s : Shared}
theorem kim_eqs (I : Inv X pins σ H s) {A : Around} (hu : A.units < cLine) {a : Addr} {ls : List (Key × V)} {xs : List V} {its : List Value} (ea : H a = some (.dK ls)) (hx : Vals xs its) {e : Nat → Bool} (h : EqMs H a ls xs e) :
    ∀ j (hj : j < its.toArray.size), SeqAt.EqP X.prog X.w A s its.toArray[j] (.ref a) (e j) := by
  intro j hj
  have lj : j < its.length := by simpa using hj
  have lx : j < xs.length := by
    have := hx.length
    omega
  obtain ⟨c, ks, ev, ne, ec, len, hp, eb⟩ := h j _ (List.getElem?_eq_getElem lx)
  obtain ⟨u0, eu, rj⟩ := hx.get (List.getElem?_eq_getElem lx)
  rw [List.getElem?_eq_getElem lj] at eu
  cases eu
  rw [ev] at rj
  have rj' : its[j] = Value.ref c := rj
  have e0 : its.toArray[j] = Value.ref c := by simpa using rj'
  rw [e0]
  obtain ⟨_, ya, va, ra, da⟩ := (show ObjOk X.prog X.w H s.heap a (.dK ls) from I.hok a _ ea)
  obtain ⟨_, yc, vc, rc, dc⟩ := (show ObjOk X.prog X.w H s.heap c (.dK ks) from I.hok c _ ec)
  have hl : vc.length = va.length := by rw [← ra.length, ← rc.length]; exact len
  refine SeqAt.eqP_refs ne fun E Q q => PySem.W.rcP_dicts (knd := mixKind X.prog X.w) (r := e j) yc ya dc da hu (fun _ => by rw [eb]; exact kim_hits ra rc hp) E Q ?_
  rw [show (vc.length == va.length) = true by simpa using hl, Bool.true_and]
  exact q
def rInM (K : PySem.W.Frag) (neg : Bool) : R2 := fun x y H Q => ∃ (a L : Addr) (ls : List (Key × V)) (xs : List V) (e : Nat → Bool), x = .ref a ∧ y = .ref L ∧ H a = some (.dK ls) ∧ SqL K H L xs ∧ EqMs H a ls xs e ∧ Q (.bl (((List.range xs.length).any e) != neg)) H
theorem op_notInM (hu : X.A.units + 1 < cLine) : OpR X (compareOp .NotIn) (rInM X.K true) := by
  intro pins s σ H x y v u Q I rx ry h
  obtain ⟨a, L, ls, xs, e, rfl, rfl, ea, hs, he, q⟩ := h
  obtain rfl : v = Value.ref a := rx
  obtain rfl : u = Value.ref L := ry
  obtain ⟨its, rv, ho, hlen⟩ := I.list hs
  obtain ⟨⟨cls, dd, data, sls⟩, n, ho, hc, hdn, hdt⟩ := ho
  have hL : s.heap.IsList L its.toArray := ⟨_, ho, hc, n, hdt⟩
  refine SeqAt.kim_notIn e hL (kim_eqs I (show X.A.in1.units < cLine from hu) ea rv he) ⟨.bl _, H, I, rfl, ?_⟩
  have l := rv.length
  have es : its.toArray.size = xs.length := by simp [l]
  rw [es]
  have z : ∀ b : Bool, (b != true) = !b := by decide
  rw [z] at q
  exact q
theorem op_inM (hu : X.A.units + 1 < cLine) : OpR X (compareOp .In) (rInM X.K false) := by
  intro pins s σ H x y v u Q I rx ry h
  obtain ⟨a, L, ls, xs, e, rfl, rfl, ea, hs, he, q⟩ := h
  obtain rfl : v = Value.ref a := rx
  obtain rfl : u = Value.ref L := ry
  obtain ⟨its, rv, ho, hlen⟩ := I.list hs
  obtain ⟨⟨cls, dd, data, sls⟩, n, ho, hc, hdn, hdt⟩ := ho
  have hL : s.heap.IsList L its.toArray := ⟨_, ho, hc, n, hdt⟩
  refine SeqAt.kim_in e hL (kim_eqs I (show X.A.in1.units < cLine from hu) ea rv he) ⟨.bl _, H, I, rfl, ?_⟩
  have l := rv.length
  have es : its.toArray.size = xs.length := by simp [l]
  rw [es]
  have z : ∀ b : Bool, (b != false) = b := by decide
  rw [z] at q
  exact q
end
end L2
set_option Elab.async false
set_option linter.all false
set_option maxRecDepth 100000
set_option maxHeartbeats 4000000
/-! Comprehensions whose items are new objects: a relation for each turn. -/
namespace L2
open PySem PySem.Spec PyProof.Rows KB
theorem paired_snoc {α β : Type} {F : α → β → Prop} : ∀ {xs : List α} {ys : List β} {x : α} {y : β}, Paired F xs ys → F x y → Paired F (xs ++ [x]) (ys ++ [y])
  | _, _, _, _, .nil, h => .cons h .nil
  | _, _, _, _, .cons r t, h => .cons r (paired_snoc t h)
theorem paired_mono {α β : Type} {F G : α → β → Prop} : ∀ {xs : List α} {ys : List β}, (∀ x y, F x y → G x y) → Paired F xs ys → Paired G xs ys
  | _, _, _, .nil => .nil
  | _, _, k, .cons r t => .cons (k _ _ r) (paired_mono k t)
theorem off_upd_le {H : Hp} {D : Addr} {o : HO} : Same (off H D) (upd H D o) := fun b u e => by
  by_cases n : b = D
  · unfold off at e
    rw [if_pos n] at e
    cases e
  · rw [off_at n] at e
    rw [upd_ne n]
    exact e
/-- turn i gives, if c i, an item y with R i y; what stood stays -/
theorem lc_rel {J : It} {n : Nat} {G : Hp → Prop} {Y : Nat → Hp → V → Hp → Prop} (w : Walk J n G Y) {g : TG} {tt : TT} {te : TE} {vs : List Nat} {σ : St} {H1 : Hp} {D : Addr} {Qd : Hp → Prop} (c : Nat → Bool) (R : Nat → V → Hp → Prop)
    (hR : ∀ i y H H', Same H H' → R i y H → R i y H') (hn : n ≤ 100000) (hD : H1 D = none) (hG : ∀ H, Same H1 H → G H)
    (hs : ∀ i x H H' (Qy : V → Hp → Prop) (Qn : Hp → Prop), i < n → Same H1 H → (∃ acc, H D = some (.lst acc)) → Y i H x H' → (∀ y H4, c i = true → Same H H4 → R i y (off H4 D) → Qy y H4) → (∀ H4, c i = false → Same H H4 → Qn H4) →
      g x (wipe σ vs) H' fun σ2 H2 => wipe σ2 vs = wipe σ vs ∧ tt σ2 H2 fun b H3 => if b = true then te σ2 H3 Qy else Qn H3)
    (hd : ∀ H ys, Same H1 H → H D = some (.lst ys) → Paired (fun i y => R i y (off H D)) ((List.range n).filter c) ys → Qd H) :
    ∃ W : Nat → Nat → Hp → Prop, (∃ m, W 0 m (upd H1 D (.lst []))) ∧ ∀ i m H, W i m H →
      (J.stop i H ∧ Qd H) ∨ (J.go i H ∧ ∃ Nx : Hp → Prop, (∀ H', Nx H' → ∃ m', m' < m ∧ W (i + 1) m' H') ∧ ∀ x H', J.yld i H x H' → g x (wipe σ vs) H' fun σ2 H2 => wipe σ2 vs = wipe σ vs ∧ tt σ2 H2 fun b H3 =>
        if b = true then te σ2 H3 fun y H4 => ∃ acc, H4 D = some (.lst acc) ∧ acc.length < sizeLine ∧ Nx (upd H4 D (.lst (acc ++ [y]))) else Nx H3) := by
  refine lc_it w (fun i H => Same H1 H ∧ ∃ ys, H D = some (.lst ys) ∧ ys.length ≤ i ∧ Paired (fun i y => R i y (off H D)) ((List.range i).filter c) ys) ⟨Same.updf hD, [], upd_same, Nat.le_refl _, .nil⟩ (fun i H _ h => hG H h.1) (fun i x H H' hi hP hy => ?_) (fun H h => ?_)
  · obtain ⟨s1, ys, hD', ly, py⟩ := hP
    refine hs i x H H' _ _ hi s1 ⟨ys, hD'⟩ hy (fun y H4 e s4 r => ?_) (fun H4 e s4 => ?_)
    · have l2 : (100000 : Nat) < sizeLine := by decide
      refine ⟨ys, s4 _ _ hD', by omega, fun b o eb => ?_, ys ++ [y], upd_same, by rw [List.length_append]; exact Nat.succ_le_succ ly, ?_⟩
      · rw [upd_ne (ne_of_none eb hD)]
        exact s4 _ _ (s1 _ _ eb)
      · rw [List.range_succ, List.filter_append, List.filter_cons, if_pos e, List.filter_nil, off_upd]
        exact paired_snoc (paired_mono (fun i y h => hR i y _ _ (off_same D s4) h) py) r
    · refine ⟨s1.trans s4, ys, s4 _ _ hD', by omega, ?_⟩
      rw [List.range_succ, List.filter_append, List.filter_cons, if_neg (by rw [e]; exact Bool.false_ne_true), List.filter_nil, List.append_nil]
      exact paired_mono (fun i y h => hR i y _ _ (off_same D s4) h) py
  · obtain ⟨s1, ys, hD', ly, py⟩ := h
    exact hd H ys s1 hD' py
/-- pairs on the heap, taken for a dictionary's -/
theorem pairs_addr {K : PySem.W.Frag} {H : Hp} : ∀ {is : List Nat} {ys : List V} {f : Nat → Key × V}, Paired (fun i y => ∃ T, y = .ref T ∧ H T = some (.tup [kV (f i).1, (f i).2])) is ys →
    ∃ ps : List Addr, ys = ps.map V.ref ∧ Paired (fun p kv => SqT K H p [kV kv.1, kv.2]) ps (is.map f)
  | _, _, _, .nil => ⟨[], rfl, .nil⟩
  | _, _, _, .cons r t => by
    obtain ⟨T, rfl, h⟩ := r
    obtain ⟨ps, rfl, p⟩ := pairs_addr t
    exact ⟨T :: ps, rfl, .cons (SqT.of h) p⟩
end L2
namespace KB
open PySem PySem.Spec PyProof.Rows L2
def rDictP (K : PySem.W.Frag) : List V → Hp → VK → Prop := fun xs H Q => ∃ (a : Addr) (ps : List Addr) (kvs : List (Key × V)), xs = [.ref a] ∧ SqL K H a (ps.map V.ref) ∧ Paired (fun p kv => SqT K H p [kV kv.1, kv.2]) ps kvs ∧
    ∀ p, H p = none → Q (.ref p) (upd H p (.dK (mergeK [] kvs)))
theorem call_dictPR {X : Cx} (hc : X.calm = true) : CallR X (.type "dict") (rDictP X.K) := call_dictP hc
def rDictD : List V → Hp → VK → Prop := fun xs H Q => ∃ (a : Addr) (kvs : List (Key × V)), xs = [V.ref a] ∧ Rd H a (.dK kvs) ∧ ∀ p, H p = none → Q (.ref p) (upd H p (.dK kvs))
theorem call_dictDR {X : Cx} : CallR X (.type "dict") rDictD := call_dictD
end KB
namespace KB
open PySem PySem.Spec PyProof.Rows L2
def rSortDI : List V → Hp → VK → Prop := fun xs H Q => ∃ (a : Addr) (kvs : List (Key × V)) (ks : List Int), xs = [V.ref a] ∧ Rd H a (.dK kvs) ∧ kvs.map (·.1) = ks.map Sum.inl ∧ ks.length < 64 ∧
    ∀ (ys : List Int) (p : Addr), ys.Perm ks → ys.Pairwise (· ≤ ·) → H p = none → Q (.ref p) (upd H p (.lst (ys.map V.int)))
theorem cr_sortedDI {X : Cx} (hc : X.calm = true) : CallR X (.builtin "sorted") rSortDI := call_sortedDI hc
end KB
set_option Elab.async false
set_option linter.all false
set_option maxRecDepth 100000
set_option maxHeartbeats 4000000
/-! A new object that is gone over at once: it is held from then on. -/
namespace L2
open PySem PySem.Spec PyProof.Rows
def tLk (t : TE) : TE := fun σ H Q => t σ H fun x H1 => ∃ d u, x = .ref d ∧ H1 d = some u ∧ Mut (some u) ∧ ∀ od, Q x (upd H1 d (.frz od u))
theorem pe_lk {X : Cx} {e : Expr} {t : TE} (h : PE X e t) : PE X e (tLk t) := by
  refine ⟨fun pins s σ H Q I hw => ?_⟩
  refine thn (h.run pins s σ H _ I hw) fun v s1 ⟨x, H1, I1, r, q⟩ => ?_
  obtain ⟨d, u, ex, hd, mu, q⟩ := q
  subst ex
  obtain ⟨od, I2⟩ := I1.lock hd mu
  exact ⟨_, _, I2, r, q od⟩
end L2
set_option Elab.async false
set_option linter.all false
set_option maxRecDepth 100000
set_option maxHeartbeats 4000000
/-! xs == [] and xs != [], whatever xs holds. -/
namespace L2
open PySem PySem.Spec PyProof.Rows
section
variable {X : Cx}
def rEmp (K : PySem.W.Frag) (neg : Bool) : R2 := fun x y H Q => ∃ (a b : Addr) (xs : List V), x = .ref a ∧ y = .ref b ∧ SqL K H a xs ∧ SqL K H b [] ∧ Q (.bl (xs.isEmpty != neg)) H
theorem op_eqE (hu : X.A.units < cLine) : OpR X (compareOp .Eq) (rEmp X.K false) := by
  intro pins s σ H x y v u Q I rx ry h
  obtain ⟨a, b, xs, rfl, rfl, ha, hb, q⟩ := h
  obtain rfl : v = Value.ref a := rx
  obtain rfl : u = Value.ref b := ry
  obtain ⟨its, rv, ⟨oa, na, hoa, hca, _, hda⟩, _⟩ := I.list ha
  obtain ⟨its2, rv2, ⟨ob, nb, hob, hcb, _, hdb⟩, _⟩ := I.list hb
  cases rv2
  have hA : s.heap.IsList a its.toArray := ⟨oa, hoa, hca, na, hda⟩
  have hB : s.heap.IsList b #[] := ⟨ob, hob, hcb, nb, hdb⟩
  have z : ∀ c : Bool, (c != false) = c := by decide
  rw [z] at q
  cases rv with
  | nil => exact SeqAt.RcAt.lists (e := fun _ => true) hA hB rfl hu (fun j h1 h2 => absurd h2 (Nat.not_lt_zero _)) X.prog X.w _ _ ⟨.bl _, H, I, rfl, q⟩
  | cons r t => exact SeqAt.RcAt.lists_lengths hA hB (by simp) hu X.prog X.w _ _ ⟨.bl _, H, I, rfl, q⟩
theorem op_neE (hu : X.A.units < cLine) : OpR X (compareOp .NotEq) (rEmp X.K true) := by
  intro pins s σ H x y v u Q I rx ry h
  obtain ⟨a, b, xs, rfl, rfl, ha, hb, q⟩ := h
  obtain rfl : v = Value.ref a := rx
  obtain rfl : u = Value.ref b := ry
  obtain ⟨its, rv, ⟨oa, na, hoa, hca, _, hda⟩, _⟩ := I.list ha
  obtain ⟨its2, rv2, ⟨ob, nb, hob, hcb, _, hdb⟩, _⟩ := I.list hb
  cases rv2
  have hA : s.heap.IsList a its.toArray := ⟨oa, hoa, hca, na, hda⟩
  have hB : s.heap.IsList b #[] := ⟨ob, hob, hcb, nb, hdb⟩
  have z : ∀ c : Bool, (c != true) = !c := by decide
  rw [z] at q
  cases rv with
  | nil => exact SeqAt.RcNeAt.lists (e := fun _ => true) hA hB rfl hu (fun j h1 h2 => absurd h2 (Nat.not_lt_zero _)) X.prog X.w _ _ ⟨.bl _, H, I, rfl, q⟩
  | cons r t => exact SeqAt.RcNeAt.lists_lengths hA hB (by simp) hu X.prog X.w _ _ ⟨.bl _, H, I, rfl, q⟩
end
end L2
set_option Elab.async false
set_option linter.all false
set_option maxRecDepth 100000
set_option maxHeartbeats 4000000
/-! sorted(xs) of tracked data of one shape: tuples, rows, texts. -/
namespace KB
open PySem PySem.Spec PyProof.Rows L2
theorem eachOf {xs : List V} {us : List Value} (h : Vals xs us) : PySem.W.EachIs (fun (u : Value) (x : V) => RelV x u) us xs := by
  induction h with
  | nil => exact .nil
  | cons r _ ih => exact .cons r ih
theorem valsOf {xs : List V} {us : List Value} (h : PySem.W.EachIs (fun (u : Value) (x : V) => RelV x u) us xs) : Vals xs us := by
  induction h with
  | nil => exact .nil
  | cons r _ ih => exact .cons r ih
theorem eachMem {α β : Type} {R S : α → β → Prop} {as : List α} {bs : List β} (h : PySem.W.EachIs R as bs) (k : ∀ a b, b ∈ bs → R a b → S a b) : PySem.W.EachIs S as bs := by
  induction h with
  | nil => exact .nil
  | cons r _ ih => exact .cons (k _ _ List.mem_cons_self r) (ih fun a b m => k a b (List.mem_cons_of_mem _ m))
def rSortedD (K : PySem.W.Frag) : List V → Hp → VK → Prop := fun vs H Q => ∃ (a : Addr) (xs : List V) (k : V → PyData), vs = [.ref a] ∧ SqL K H a xs ∧ (∀ x ∈ xs, Dp K H x (k x)) ∧ PySem.W.AllAlike (xs.map k) ∧ PySem.W.Sortable (xs.map k) ∧ (∀ x ∈ xs, (k x).depth ≤ 40) ∧
  ∀ p, H p = none → Q (.ref p) (upd H p (.lst (xs.mergeSort (PySem.W.dataLe false k))))
theorem cr_sortedD {X : Cx} (hu : X.A.units + 64 < cLine) : CallR X (.builtin "sorted") (rSortedD X.K) := by
  intro pins s σ H vs us Q I r h
  obtain ⟨a, xs, k, rfl, hs, hk, ha, hb, hd, q⟩ := h
  obtain rfl := Vals.ref1 r
  obtain ⟨its, rv, hl, hz⟩ := I.list hs
  have e1 := eachOf rv
  refine PySem.W.sorted_data (vs := its) (bs := xs) (enc := k) (R := fun u x => RelV x u) hl.isList e1 (eachMem e1 fun u x m r => Dp.reads I (k x) x u (hk x m) r) ha hb hz (fun x m => ?_) fun out len eo => ?_
  · have := hd x m
    omega
  · obtain ⟨ep, he⟩ := PyProof.Rows.sortedAll_at s.heap its out.toArray
    have z : (xs.mergeSort (PySem.W.dataLe false k)).length ≤ sizeLine := by
      rw [List.length_mergeSort]
      exact hz
    exact ⟨.ref _, upd H (s.heap.objs.size + 1) (.lst (xs.mergeSort (PySem.W.dataLe false k))), I.laid (t' := s.toks) (fun _ _ => PyProof.Rows.sortedAll_old) (Nat.le_succ _) ⟨z, out, ep, valsOf eo, he⟩, rfl, q _ (I.hok.fresh (Nat.le_succ _))⟩
end KB
set_option Elab.async false
set_option linter.all false
set_option maxRecDepth 100000
set_option maxHeartbeats 4000000
/-! sorted(xs), xs new tuples of as many ints each. -/
namespace KB
open PySem PySem.Spec PyProof.Rows L2
theorem zip_paired {α β : Type} {F : α → β → Prop} : ∀ {xs : List α} {ys : List β}, Paired F xs ys → (∀ p ∈ xs.zip ys, F p.1 p.2) ∧ (xs.zip ys).map Prod.fst = xs ∧ (xs.zip ys).map Prod.snd = ys
  | _, _, .nil => ⟨fun p h => (nomatch h), rfl, rfl⟩
  | _, _, .cons r t => by
    obtain ⟨h1, h2, h3⟩ := zip_paired t
    refine ⟨fun p h => ?_, ?_, ?_⟩
    · rw [List.zip_cons_cons] at h
      rcases List.mem_cons.mp h with rfl | h
      · exact r
      · exact h1 p h
    · rw [List.zip_cons_cons, List.map_cons, h2]
    · rw [List.zip_cons_cons, List.map_cons, h3]
theorem paired_zip {α β : Type} {F : α → β → Prop} : ∀ {ps : List (α × β)}, (∀ p ∈ ps, F p.1 p.2) → Paired F (ps.map Prod.fst) (ps.map Prod.snd)
  | [], _ => .nil
  | p :: ps, h => .cons (h p List.mem_cons_self) (paired_zip fun q hq => h q (List.mem_cons_of_mem _ hq))
theorem paired_sort {α β : Type} {F : α → β → Prop} {le : β → β → Bool} {le' : α → α → Bool} (h : ∀ a x b y, F a x → F b y → le' a b = le x y) {xs : List α} {ys : List β} (p : Paired F xs ys) : Paired F (xs.mergeSort le') (ys.mergeSort le) := by
  obtain ⟨h1, h2, h3⟩ := zip_paired p
  have e1 : ((xs.zip ys).mergeSort fun p q => le p.2 q.2).map Prod.fst = xs.mergeSort le' := by
    rw [List.map_mergeSort (s := le') (fun a ha b hb => (h _ _ _ _ (h1 a ha) (h1 b hb)).symm), h2]
  have e2 : ((xs.zip ys).mergeSort fun p q => le p.2 q.2).map Prod.snd = ys.mergeSort le := by
    rw [List.map_mergeSort (s := le) (fun a _ b _ => rfl), h3]
  rw [← e1, ← e2]
  exact paired_zip fun q hq => h1 q ((List.mergeSort_perm _ _).mem_iff.mp hq)
theorem paired_get2 {α β : Type} {F : α → β → Prop} : ∀ {xs : List α} {ys : List β}, Paired F xs ys → ∀ {i : Nat} {y : β}, ys[i]? = some y → ∃ x, xs[i]? = some x ∧ F x y
  | _, _, .nil, i, x, h => by cases h
  | _, _, .cons r t, 0, x, h => by
    have e := Option.some.inj h
    subst e
    exact ⟨_, rfl, r⟩
  | _, _, .cons r t, i + 1, x, h => paired_get2 t h
theorem paired_get1 {α β : Type} {F : α → β → Prop} : ∀ {xs : List α} {ys : List β}, Paired F xs ys → ∀ {i : Nat} {x : α}, xs[i]? = some x → ∃ y, ys[i]? = some y ∧ F x y
  | _, _, .nil, i, x, h => by cases h
  | _, _, .cons r t, 0, x, h => by
    have e := Option.some.inj h
    subst e
    exact ⟨_, rfl, r⟩
  | _, _, .cons r t, i + 1, x, h => paired_get1 t h
theorem paired_rev {α β : Type} {F : α → β → Prop} : ∀ {xs : List α} {ys : List β}, Paired F xs ys → Paired F xs.reverse ys.reverse
  | _, _, .nil => .nil
  | _, _, .cons r t => by
    rw [List.reverse_cons, List.reverse_cons]
    exact paired_snoc (paired_rev t) r
theorem paired_mapG {α β γ : Type} {F : γ → β → Prop} {f : α → γ} : ∀ {xs : List α} {ys : List β}, Paired (fun x y => F (f x) y) xs ys → Paired F (xs.map f) ys
  | _, _, .nil => .nil
  | _, _, .cons r t => .cons r (paired_mapG t)
theorem sel_getG {α : Type} (z : α) (l : List α) (c : α → Bool) : (((List.range l.length).filter fun i => c (l.getD i z)).map fun i => l.getD i z) = l.filter c := by
  have e : l = (List.range l.length).map fun i => l.getD i z := by
    refine List.ext_getElem (by simp) fun i h1 h2 => ?_
    simp [h1]
  conv => rhs; rw [e, List.filter_map]
  rfl
theorem paired_selG {α : Type} {z : α} {l : List α} {c : α → Bool} {R : α → V → Prop} {ys : List V} (h : Paired (fun i y => R (l.getD i z) y) ((List.range l.length).filter fun i => c (l.getD i z)) ys) : Paired R (l.filter c) ys := by
  have := paired_mapG h
  rw [sel_getG] at this
  exact this
def intsD (t : List Int) : PyData := .tuple (t.map PyData.int)
def sortT (ts : List (List Int)) : List (List Int) := ts.mergeSort fun a b => PySem.W.dataLe false intsD a b
theorem sortT_perm (ts : List (List Int)) : (sortT ts).Perm ts := List.mergeSort_perm _ _
/-- y is a tuple of these ints -/
def IntsAt (H : Hp) (t : List Int) (y : V) : Prop := ∃ T, y = .ref T ∧ H T = some (.tup (t.map V.int))
theorem IntsAt.same {H H' : Hp} (k : Same H H') {t : List Int} {y : V} : IntsAt H t y → IntsAt H' t y := fun ⟨T, e, h⟩ => ⟨T, e, k _ _ h⟩
def encI (H : Hp) (y : V) : PyData := match y with
  | .ref T => (match H T with
    | some (.tup xs) => .tuple (xs.map fun v => match v with | .int i => PyData.int i | _ => .none)
    | _ => .none)
  | _ => .none
theorem encI_at {H : Hp} {t : List Int} {y : V} (h : IntsAt H t y) : encI H y = intsD t := by
  obtain ⟨T, rfl, h⟩ := h
  simp only [encI, intsD, h, List.map_map]
  rfl
theorem dpAll_ints {K : PySem.W.Frag} {H : Hp} : ∀ t : List Int, DpAll K H (t.map V.int) (t.map PyData.int)
  | [] => .nil
  | i :: t => .cons (.int i) (dpAll_ints t)
theorem alikeAll_ints : ∀ a b : List Int, PySem.W.alikeAll (a.map PyData.int) (b.map PyData.int) = true
  | [], _ => by simp [PySem.W.alikeAll]
  | _ :: _, [] => by simp [PySem.W.alikeAll]
  | i :: a, j :: b => by
    rw [List.map_cons, List.map_cons]
    simp only [PySem.W.alikeAll, PySem.W.alike, alikeAll_ints a b, Bool.and_self]
theorem depth_ints : ∀ t : List Int, PyData.depthAll (t.map PyData.int) = 0
  | [] => by simp [PyData.depthAll]
  | i :: t => by
    rw [List.map_cons]
    simp only [PyData.depthAll, PyData.depth, depth_ints t]
    rfl
def rSortT (K : PySem.W.Frag) : List V → Hp → VK → Prop := fun vs H Q => ∃ (a : Addr) (xs : List V) (ts : List (List Int)), vs = [.ref a] ∧ SqL K H a xs ∧ Paired (IntsAt H) ts xs ∧ (∀ t ∈ ts, t ≠ []) ∧
  ∀ p ys, H p = none → Paired (IntsAt H) (sortT ts) ys → Q (.ref p) (upd H p (.lst ys))
theorem cr_sortedT {X : Cx} (hu : X.A.units + 64 < cLine) : CallR X (.builtin "sorted") (rSortT X.K) := by
  intro pins s σ H vs us Q I r h
  obtain ⟨a, xs, ts, rfl, hs, py, hne, q⟩ := h
  have get : ∀ x ∈ xs, ∃ t ∈ ts, IntsAt H t x := fun x mx => by
    obtain ⟨h1, h2, h3⟩ := zip_paired py
    rw [← h3] at mx
    obtain ⟨p, hp, rfl⟩ := List.mem_map.mp mx
    refine ⟨p.1, ?_, h1 p hp⟩
    rw [← h2]
    exact List.mem_map.mpr ⟨p, hp, rfl⟩
  refine cr_sortedD hu pins s σ H _ us Q I r ⟨a, xs, encI H, rfl, hs, fun x mx => ?_, fun d hd d' hd' => ?_, .inl fun d hd => ?_, fun x mx => ?_, fun p hp => ?_⟩
  · obtain ⟨t, _, h⟩ := get x mx
    rw [encI_at h]
    obtain ⟨T, rfl, hT⟩ := h
    exact .tup (SqT.of hT) (dpAll_ints t)
  · obtain ⟨x, mx, rfl⟩ := List.mem_map.mp hd
    obtain ⟨y, my, rfl⟩ := List.mem_map.mp hd'
    obtain ⟨t, _, h⟩ := get x mx
    obtain ⟨t', _, h'⟩ := get y my
    rw [encI_at h, encI_at h']
    show PySem.W.alike (.tuple _) (.tuple _) = true
    simp only [PySem.W.alike, alikeAll_ints]
  · obtain ⟨x, mx, rfl⟩ := List.mem_map.mp hd
    obtain ⟨t, mt, h⟩ := get x mx
    rw [encI_at h]
    cases t with
    | nil => exact absurd rfl (hne _ mt)
    | cons i t => exact ⟨_, _, rfl⟩
  · obtain ⟨t, _, h⟩ := get x mx
    rw [encI_at h]
    unfold intsD
    simp only [PyData.depth, depth_ints]
    decide
  · refine q p _ hp (paired_sort (fun a x b y h1 h2 => ?_) py)
    unfold PySem.W.dataLe PySem.W.sortLe
    dsimp only
    rw [encI_at h1, encI_at h2]
def rListOf (K : PySem.W.Frag) : List V → Hp → VK → Prop := fun xs H Q => ∃ p ys, xs = [V.ref p] ∧ (SqL K H p ys ∨ SqT K H p ys) ∧ ∀ l, H l = none → Q (.ref l) (upd H l (.lst ys))
theorem call_list_ofR {X : Cx} : CallR X (.type "list") (rListOf X.K) := call_list_of
end KB
set_option Elab.async false
set_option linter.all false
set_option maxRecDepth 100000
set_option maxHeartbeats 4000000
/-! == of two dictionaries whose values are data, alike or not. -/
namespace L2
open PySem PySem.Spec PyProof.Rows
section
variable {X : Cx} {pins : List (Addr × Obj)} {σ : St} {H : Hp} {s : Shared}
theorem kdm_hits (I : Inv X pins σ H s) {A : Around} (hu : A.units + 64 < cLine) {kvs : List (Key × V)} {vb : List (Key × Value)} (rb : KV kvs vb) {f g : Key → PyData} {ks : List (Key × V)} {va : List (Key × Value)} (ra : KV ks va) :
    (∀ p ∈ ks, ∃ v, valV kvs p.1 = some v ∧ Dp X.K H p.2 (f p.1) ∧ Dp X.K H v (g p.1) ∧ SeqAt.shaped (f p.1) = true ∧ SeqAt.shaped (g p.1) = true) → PySem.W.KeqHits A s vb va (ks.all fun p => PyData.eqv (f p.1) (g p.1)) := by
  unfold KV at ra
  induction ra with
  | nil => intro _; exact .nil
  | @cons p q ps qs h t ih =>
    intro hp
    obtain ⟨h1, h2⟩ := h
    obtain ⟨v, e2, d1, d2, s1, s2⟩ := hp p List.mem_cons_self
    have rr : RelO (some v) (valueAt vb p.1) := by rw [← e2]; exact rb.val p.1
    obtain ⟨y, hy, ry⟩ := rr.some_of
    obtain ⟨k, u⟩ := q
    have h1' : p.1 = k := h1
    have h2' : RelV p.2 u := h2
    rw [List.all_cons]
    obtain ⟨as, r1⟩ := Dp.reads I _ _ _ d1 h2'
    obtain ⟨bs, r2⟩ := Dp.reads I _ _ _ d2 ry
    rw [h1'] at hy
    exact .hit hy (SeqAt.eqAt_reads _ _ A s _ _ as bs r1 r2 (SeqAt.canLay_of_shaped s1) (SeqAt.canLay_of_shaped s2) (SeqAt.room_of_shaped s1 hu)) (ih fun p' hm => hp p' (List.mem_cons_of_mem _ hm))
def rEqDM (K : PySem.W.Frag) : R2 := fun x y H Q => ∃ (a b : Addr) (ks ls : List (Key × V)) (f g : Key → PyData), x = .ref a ∧ y = .ref b ∧ H a = some (.dK ks) ∧ H b = some (.dK ls) ∧ ks.length = ls.length ∧
  (∀ p ∈ ks, ∃ v, valV ls p.1 = some v ∧ Dp K H p.2 (f p.1) ∧ Dp K H v (g p.1) ∧ SeqAt.shaped (f p.1) = true ∧ SeqAt.shaped (g p.1) = true) ∧ Q (.bl (ks.all fun p => PyData.eqv (f p.1) (g p.1))) H
theorem op_eqDM (hu : X.A.units + 65 < cLine) : OpR X (compareOp .Eq) (rEqDM X.K) := by
  intro pins s σ H x y v u Q I rx ry h
  obtain ⟨a, b, ks, ls, f, g, rfl, rfl, ea, eb, hlen, hp, q⟩ := h
  obtain rfl : v = Value.ref a := rx
  obtain rfl : u = Value.ref b := ry
  obtain ⟨_, ya, va, ra, da⟩ := (show ObjOk X.prog X.w H s.heap a (.dK ks) from I.hok a _ ea)
  obtain ⟨_, yb, vb, rb, db⟩ := (show ObjOk X.prog X.w H s.heap b (.dK ls) from I.hok b _ eb)
  have hl : va.length = vb.length := by rw [← ra.length, ← rb.length]; exact hlen
  have h1 : X.A.in1.units + 64 < cLine := by
    have e : X.A.in1.units = X.A.units + 1 := rfl
    omega
  exact PySem.W.keq_eq (knd := mixKind X.prog X.w) ya yb da db (by omega) (fun _ => kdm_hits I h1 rb ra hp) (fin_bl I q (by simp [hl]))
end
end L2
set_option Elab.async false
set_option linter.all false
set_option maxRecDepth 100000
set_option maxHeartbeats 4000000
namespace K21
open PySem PySem.Spec PyProof.Rows L2 KB
abbrev FnP (K : PySem.W.Frag) (x : Str) (st : Stmt) (f : Addr) (fd : FuncData) : Prop := FunD K x x (defArgs st) (defBody st) (defScope st) [] [] f fd
abbrev sPurse : Stmt := top 37
abbrev sMixed : Stmt := top 38
abbrev sDraw : Stmt := top 39
section
variable {P : Program} {w : World} {K : PySem.W.Frag} {mg : Str → Option Value} {base : Heap} {f fM : Addr} {fd fdM : FuncData}
theorem scPurse : FnScope ["_law_script", "_law_at", "_law_seed"] ["_law_script", "_law_at"] (defScope sPurse) := ⟨rfl, rfl, rfl, by decide +kernel, rfl, by decide +kernel, by decide +kernel⟩
theorem ok_purse (F : FnP K "_law_purse" sPurse f fd) (Z : Free mg) : FnOk P w K mg base CX0 1 f fd ["_law_script", "_law_at"] (spPurse K) := by
  refine F.ok scPurse (fun vs H Q E h => ?_) (fun cdv A outer s H vs Q E hr h => ?_)
  · obtain ⟨a, ns, i, rfl, _⟩ := h
    rfl
  · obtain ⟨a, ns, i, rfl, hS, k⟩ := h
    have nd := scPurse.nd
    refine ⟨_, PSs.nox (pss_cons (ps_set (i := 2) nd rfl (Or.inl rfl) (pe_callB (cr_sum rfl) (by rfl) Z.sum (by decide +kernel) (pa_cons (pe_slice sl_list (pv 0) (po_some (pv 1)) (po_some (pe_op op_add (pv 1) pe_int))) pa_nil)))
      (pss_one (ps_ret (pe_lst (pa_cons (pe_op op_mod (pe_callTy call_int1 (by rfl) Z.int (by decide +kernel) (pa_cons (pe_callB (call_max2 rfl) (by rfl) Z.max (by decide +kernel)
          (pa_cons (pe_op op_sub (pv 2) (pe_op op_pow pe_int pe_int)) (pa_cons pe_int pa_nil))) pa_nil)) (pe_op op_powL (pe_op op_pow pe_int pe_int) pe_int))
        (pa_cons (pe_op op_mod (pe_callTy call_int1 (by rfl) Z.int (by decide +kernel) (pa_cons (pv 2) pa_nil)) pe_int) (pa_cons pe_int (pa_cons (pv 1) pa_nil)))))))), ?_⟩
    refine ⟨_, rfl, _, rfl, i, rfl, ?_⟩
    refine ⟨_, rfl, _, _, rfl, rfl, ?_⟩
    refine ⟨i + 1, rfl, a, _, rfl, hS, fun q hq => ?_⟩
    rw [cut_map]
    refine ⟨q, _, rfl, SqL.of upd_same, ?_⟩
    -- the list
    refine ⟨_, rfl, _, _, rfl, rfl, ⟨by decide, by decide, by decide⟩, _, _, rfl, rfl, ?_⟩
    refine ⟨_, _, rfl, Or.inl ⟨_, rfl, ?_⟩⟩
    refine ⟨_, _, rfl, rfl, ⟨by decide, by decide, by decide⟩, ?_⟩
    refine ⟨_, _, rfl, rfl, ⟨by decide, by decide +kernel⟩, ?_⟩
    refine ⟨_, _, rfl, rfl, (by show (0 : Int) < _; decide +kernel), ?_⟩
    refine ⟨_, rfl, Or.inl ⟨_, rfl, ?_⟩⟩
    refine ⟨_, _, rfl, rfl, (by show (0 : Int) < _; decide), ?_⟩
    refine ⟨_, rfl, (by show 4 ≤ sizeLine; decide), fun p hp => ?_⟩
    refine k p _ (Same.trans (Same.upd hq) (Same.upd hp)) ?_ ⟨_, _, 0, i, upd_same, ⟨Int.emod_nonneg _ (by decide), Int.lt_trans (Int.emod_lt_of_pos _ (by decide)) (by decide)⟩, Int.emod_nonneg _ (by decide +kernel), Int.le_refl _, Int.le_refl _⟩
    rw [upd_ne (fun e => by rw [e, upd_same] at hp; cases hp)] at hp
    exact hp
theorem scMixed : FnScope ["_law_seed", "_law_spin", "_law_at", "_law_mixed_here"] ["_law_seed", "_law_spin", "_law_at"] (defScope sMixed) := ⟨rfl, rfl, rfl, by decide +kernel, rfl, by decide +kernel, by decide +kernel⟩
theorem ok_mixed (F : FnP K "_law_mixed" sMixed f fd) (Z : Free mg) : FnOk P w K mg base CX0 1 f fd ["_law_seed", "_law_spin", "_law_at"] spMixed := by
  refine F.ok scMixed (fun vs H Q E h => ?_) (fun cdv A outer s H vs Q E hr h => ?_)
  · obtain ⟨B, c, i, rfl, _⟩ := h
    rfl
  · obtain ⟨B, c, i, rfl, ⟨hc0, hc1⟩, k⟩ := h
    have nd := scMixed.nd
    refine ⟨_, PSs.nox (pss_cons (ps_set (i := 3) nd rfl (Or.inl rfl) (pe_op op_add (pe_op op_mul (pv 0) pe_int) (pe_op op_mul (pe_op op_mul pe_int (pv 1)) (pv 1))))
      (pss_cons (ps_set (i := 3) nd rfl (Or.inl rfl) (pe_op op_mod (pe_callTy call_int1 (by rfl) Z.int (by decide +kernel) (pa_cons (pe_op op_add (pe_op op_add (pv 3) (pe_op op_mul pe_int (pv 2))) (pv 1)) pa_nil)) pe_int))
      (pss_cons (ps_set (i := 3) nd rfl (Or.inl rfl) (pe_op op_mod (pe_callTy call_int1 (by rfl) Z.int (by decide +kernel) (pa_cons (pe_op op_add (pe_op op_mul (pv 3) (pv 3)) pe_int) pa_nil)) pe_int))
      (pss_one (ps_ret (pe_op op_mod (pe_callTy call_int1 (by rfl) Z.int (by decide +kernel) (pa_cons (pe_op op_mul (pv 3) pe_int) pa_nil)) pe_int)))))), ?_⟩
    have c64 : -(2 ^ 64) < c ∧ c < 2 ^ 64 := ⟨by omega, by omega⟩
    refine ⟨_, rfl, _, _, rfl, rfl, Or.inr ⟨by decide, by decide⟩, ?_⟩
    refine ⟨_, rfl, _, _, rfl, rfl, Or.inl ⟨by decide, by decide⟩, ?_⟩
    refine ⟨_, rfl, _, _, rfl, rfl, Or.inr c64, ?_⟩
    refine ⟨_, _, rfl, rfl, ?_⟩
    refine ⟨_, rfl, _, rfl, _, _, rfl, rfl, Or.inl ⟨by decide, by decide⟩, ?_⟩
    refine ⟨_, _, rfl, rfl, _, rfl, _, _, rfl, rfl, ?_⟩
    refine Or.inl ⟨_, rfl, ?_⟩
    refine ⟨_, _, rfl, rfl, (by show (0 : Int) < _; decide), ?_⟩
    generalize hm : (B * 69069 + 104729 * c * c + 7919 * i + c) % 2147483647 = m
    have h1 : 0 ≤ m := by rw [← hm]; exact Int.emod_nonneg _ (by decide)
    have h2 : m < 2147483647 := by rw [← hm]; exact Int.emod_lt_of_pos _ (by decide)
    refine ⟨_, rfl, _, rfl, _, _, rfl, rfl, Or.inl ⟨by omega, by omega⟩, ?_⟩
    refine ⟨_, _, rfl, rfl, Or.inl ⟨_, rfl, ?_⟩⟩
    refine ⟨_, _, rfl, rfl, (by show (0 : Int) < _; decide), ?_⟩
    refine ⟨_, rfl, _, _, rfl, rfl, Or.inr ⟨by decide, by decide⟩, Or.inl ⟨_, rfl, ?_⟩⟩
    refine ⟨_, _, rfl, rfl, (by show (0 : Int) < _; decide), ?_⟩
    exact k _ (Int.emod_nonneg _ (by decide)) (Int.emod_lt_of_pos _ (by decide))
theorem scDraw : FnScope ["_law_purse_here", "_law_many", "_law_drawn", "_law_found", "_law_piece"] ["_law_purse_here", "_law_many"] (defScope sDraw) := ⟨rfl, rfl, rfl, by decide +kernel, rfl, by decide +kernel, by decide +kernel⟩
theorem ok_draw (F : FnP K "_law_draw" sDraw f fd) (Z : Free mg) (FM : FnP K "_law_mixed" sMixed fM fdM) (gM : mg "_law_mixed" = some (.ref fM)) : FnOk P w K mg base CX0 2 f fd ["_law_purse_here", "_law_many"] spDraw := by
  have GM : FnOk P w K mg base CX0 1 fM fdM ["_law_seed", "_law_spin", "_law_at"] spMixed := ok_mixed FM Z
  have bM : Binds K fdM ["_law_seed", "_law_spin", "_law_at"] [] := FM.bindsN fun _ _ _ _ _ _ us hl => match us, hl with | [_, _, _], _ => rfl
  refine F.ok scDraw (fun vs H Q E h => ?_) (fun cdv A outer s H vs Q E hr h => ?_)
  · obtain ⟨p, m, N, rfl, _⟩ := h
    rfl
  · obtain ⟨p, m, N, rfl, hm1, hm2, hP, hN, hN2, k⟩ := h
    obtain ⟨A0, B, c, i, hp, hB, hA, hc, hcN⟩ := id hP
    have nd := scDraw.nd
    refine ⟨_, PSs.nox (pss_cons (ps_if (pt_cmpR op_gt (pe_ix ix_list (pv 0) pe_int (fun _ _ => rfl)) pe_int (nomark _))
        (pss_cons (ps_set (i := 2) nd rfl (Or.inl rfl) (pe_op op_mod (pe_callTy call_int1 (by rfl) Z.int (by decide +kernel) (pa_cons (pe_ix ix_list (pv 0) pe_int (fun _ _ => rfl)) pa_nil)) (pv 1)))
        (pss_cons (ps_asg (pe_op op_fdivW (pe_ix ix_list (pv 0) pe_int (fun _ _ => rfl)) (pv 1)) (pg_sub (pv 0) pe_int set_list))
        (pss_one (ps_ret (pv 2))))) pss_nil)
      (pss_cons (ps_set (i := 3) nd rfl (Or.inl rfl) pe_int)
      (pss_cons (ps_for PassesOwn.never rfl (pi_range1 rfl Z.range (pa_cons (pe_op op_add pe_int (pe_op op_fdiv (pe_bits (pv 1)) pe_int)) pa_nil)) (pg_name (i := 4) nd rfl (Or.inl rfl))
        (pss_cons (ps_asg (pe_op op_add (pe_ix ix_list (pv 0) pe_int (fun _ _ => rfl)) pe_int) (pg_sub (pv 0) pe_int set_list))
        (pss_one (ps_set (i := 3) nd rfl (Or.inl rfl) (pe_op op_add (pe_op op_mul (pv 3) pe_int) (pe_call GM hr rfl gM FM.kp bM .nil pass0
          (pa_cons (pe_ix ix_list (pv 0) pe_int (fun _ _ => rfl)) (pa_cons (pe_ix ix_list (pv 0) pe_int (fun _ _ => rfl)) (pa_cons (pe_ix ix_list (pv 0) pe_int (fun _ _ => rfl)) pa_nil)))))))))
      (pss_one (ps_ret (pe_op op_mod (pe_callTy call_int1 (by rfl) Z.int (by decide +kernel) (pa_cons (pv 3) pa_nil)) (pv 1))))))), ?_⟩
    -- if purse[0] > 0
    refine ⟨_, rfl, p, _, 0, .int A0, rfl, rfl, SqL.of hp, rfl, ?_⟩
    refine ⟨_, _, rfl, rfl, _, rfl, ?_⟩
    refine ite2 (fun hpos => ?_) (fun hneg => ?_)
    · refine ⟨_, rfl, p, _, 0, .int A0, rfl, rfl, SqL.of hp, rfl, Or.inl ⟨_, rfl, ?_⟩⟩
      refine ⟨_, rfl, _, _, rfl, rfl, (by show (0 : Int) < m; omega), ?_⟩
      refine ⟨_, rfl, p, _, 0, .int A0, rfl, rfl, SqL.of hp, rfl, ?_⟩
      refine ⟨_, rfl, _, _, rfl, rfl, ⟨by omega, hm2⟩, ?_⟩
      refine ⟨_, rfl, p, _, 0, 0, rfl, rfl, hp, rfl, ?_⟩
      refine ⟨_, rfl, ?_⟩
      refine k _ _ (Int.emod_nonneg _ (by omega)) (Int.emod_lt_of_pos _ (by omega)) But.upd ⟨A0 / m, B, c, i, upd_same, hB, Int.ediv_nonneg hA (by omega), hc, by omega⟩
    · -- found = 0; for piece in range(..)
      have hb : (0 : Int) ≤ 1 + (Builtin.Int.intBits m : Int) / 28 := by omega
      have hM : ((mixes m : Nat) : Int) = 1 + (Builtin.Int.intBits m : Int) / 28 := by
        unfold mixes
        exact Int.toNat_of_nonneg hb
      refine ⟨_, rfl, _, rfl, _, _, rfl, rfl, ⟨by decide, by decide⟩, _, _, rfl, rfl, ?_⟩
      refine ⟨1 + (Builtin.Int.intBits m : Int) / 28, rfl, by omega, by omega, ?_⟩
      refine for_range (lo := 0) (n := (1 + (Builtin.Int.intBits m : Int) / 28).toNat) (fun j σ H2 => ∃ (g : Int) (v2 v4 : Option V), σ = [some (.ref p), some (.int m), v2, some (.int g), v4] ∧ But p H H2 ∧
          ∃ c' : Int, H2 p = some (.lst [.int A0, .int B, .int c', .int i]) ∧ 0 ≤ c' ∧ c' ≤ (N : Int) + (j : Int))
        ⟨0, none, none, rfl, But.refl _ _, c, hp, hc, by omega⟩ ?_ ?_
      · rintro j σ H2 hj ⟨g, v2, v4, rfl, kb, c', hp2, h0, h1⟩
        have hj2 : (j : Int) < 2 ^ 50 := by
          have : j < mixes m := hj
          omega
        refine ⟨_, rfl, p, _, 2, .int c', rfl, rfl, SqL.of hp2, rfl, ?_⟩
        refine ⟨_, _, rfl, rfl, ?_⟩
        refine ⟨_, rfl, p, _, 2, 2, rfl, rfl, hp2, rfl, ?_⟩
        have hp3 : (L2.upd H2 p (.lst (List.set [V.int A0, .int B, .int c', .int i] 2 (.int (c' + 1))))) p = some (.lst [.int A0, .int B, .int (c' + 1), .int i]) := upd_same
        refine ⟨_, rfl, _, _, rfl, rfl, Or.inr ⟨by decide, by decide⟩, ?_⟩
        refine ⟨_, rfl, p, _, 1, .int B, rfl, rfl, SqL.of hp3, rfl, ?_⟩
        refine ⟨_, rfl, p, _, 2, .int (c' + 1), rfl, rfl, SqL.of hp3, rfl, ?_⟩
        refine ⟨_, rfl, p, _, 3, .int i, rfl, rfl, SqL.of hp3, rfl, ?_⟩
        refine ⟨B, c' + 1, i, rfl, ⟨by omega, by omega⟩, fun r hr0 hr1 => ?_⟩
        refine ⟨_, _, rfl, rfl, ?_⟩
        exact ⟨_, v2, _, rfl, But.trans kb But.upd, c' + 1, hp3, by omega, by omega⟩
      · rintro σ H2 ⟨g, v2, v4, rfl, kb, c', hp2, h0, h1⟩
        refine ⟨_, rfl, Or.inl ⟨_, rfl, ?_⟩⟩
        refine ⟨_, rfl, _, _, rfl, rfl, (by show (0 : Int) < m; omega), ?_⟩
        refine k _ _ (Int.emod_nonneg _ (by omega)) (Int.emod_lt_of_pos _ (by omega)) kb ⟨A0, B, c', i, hp2, hB, hA, h0, ?_⟩
        have : ((N + mixes m : Nat) : Int) = (N : Int) + (mixes m : Int) := by omega
        rw [this]
        exact h1
end
abbrev sPurses : Stmt := top 40
abbrev sOne : Stmt := top 41
section
variable {P : Program} {w : World} {K : PySem.W.Frag} {mg : Str → Option Value} {base : Heap} {f fP fD : Addr} {fd fdP fdD : FuncData}
theorem scPurses : FnScope ["_law_script", "_law_few", "_law_at"] ["_law_script", "_law_few"] (defScope sPurses) := ⟨rfl, rfl, rfl, by decide +kernel, rfl, by decide +kernel, by decide +kernel⟩
theorem ok_purses (F : FnP K "_law_purses" sPurses f fd) (Z : Free mg) (GP : FnOk P w K mg base CX0 1 fP fdP ["_law_script", "_law_at"] (spPurse K)) (FP : FnP K "_law_purse" sPurse fP fdP) (gP : mg "_law_purse" = some (.ref fP)) :
    FnOk P w K mg base CX0 2 f fd ["_law_script", "_law_few"] (spPurses K) := by
  have bP : Binds K fdP ["_law_script", "_law_at"] [] := FP.bindsN fun _ _ _ _ _ _ us hl => match us, hl with | [_, _], _ => rfl
  refine F.ok scPurses (fun vs H Q E h => ?_) (fun cdv A outer s H vs Q E hr h => ?_)
  · obtain ⟨a, ns, rfl, _⟩ := h
    rfl
  · obtain ⟨a, ns, rfl, hS, k⟩ := h
    have nd := scPurses.nd
    refine ⟨_, PSs.nox (pss_one (ps_ret (pe_lc (own := [("_law_at", 2)]) (g := gName 2) (tt := tYes) (by rfl) nd (pi_range1 rfl Z.range (pa_cons (pe_callB (call_max2 rfl) (by rfl) Z.max (by decide +kernel) (pa_cons pe_int
        (pa_cons (pe_callB (call_min2 rfl) (by rfl) Z.min (by decide +kernel) (pa_cons (pv 1) (pa_cons (pe_callB call_len_seq (by rfl) Z.len (by decide +kernel) (pa_cons (pv 0) pa_nil)) pa_nil))) pa_nil))) pa_nil))
      (blkOk_by (own := [("_law_at", 2)]) (N := ["_law_script", "_law_few", "_law_at"]) (sc := defScope sPurses) (by decide +kernel)) (fun _ _ _ _ _ => pg_name (i := 2) nd rfl (Or.inl rfl)) (fun _ _ _ _ _ => pts_nil)
      (fun _ _ _ _ _ => pe_call GP hr rfl gP FP.kp bP .nil pass0 (pa_cons (pv 0) (pa_cons (pv 2) pa_nil)))))), ?_⟩
    refine ⟨_, rfl, _, rfl, a, _, rfl, Or.inl hS, _, _, rfl, ?_⟩
    refine ⟨_, _, rfl, ?_⟩
    have hone : ∀ n : Int, 0 ≤ n → (if (if n < 1 then n else 1) > 1 then (if n < 1 then n else 1) else (1 : Int)) = 1 := fun n hn => by
      by_cases c : n < 1
      · rw [if_pos c, if_neg (by omega)]
      · rw [if_neg c, if_neg (by omega)]
    refine ⟨1, congrArg (fun z => [V.int z]) (hone _ (Int.natCast_nonneg _)), by decide, by decide, fun D hD => ?_⟩
    refine lc_range (lo := 0) (n := 1) (fun j H2 => (j = 0 ∧ H2 = upd H D (.lst [])) ∨ (j = 1 ∧ ∃ p, H2 D = some (.lst [.ref p]) ∧ Same H H2 ∧ H p = none ∧ p ≠ D ∧ Purse H2 p 0)) (Or.inl ⟨rfl, rfl⟩) ?_ ?_
    · intro j H2 hj hP
      rcases hP with ⟨rfl, rfl⟩ | ⟨rfl, _⟩
      · refine ⟨rfl, _, rfl, _, rfl, a, ns, _, rfl, (Same.upd hD).seq hS, fun p H3 hk hp hpu => ?_⟩
        have hne : p ≠ D := fun e => by
          rw [e, upd_same] at hp
          cases hp
        refine ⟨[], hk _ _ upd_same, by decide, Or.inr ⟨rfl, p, upd_same, fun b o e => ?_, ?_, hne, ?_⟩⟩
        · rw [upd_ne (ne_of_none e hD)]
          exact hk _ _ (by rw [upd_ne (ne_of_none e hD)]; exact e)
        · rw [upd_ne hne] at hp
          exact hp
        · obtain ⟨A0, B, c, i, e, r⟩ := hpu
          exact ⟨A0, B, c, i, by rw [upd_ne hne]; exact e, r⟩
      · omega
    · intro H2 hP
      rcases hP with ⟨h, _⟩ | ⟨_, p, h1, h2, h3, h4, h5⟩
      · omega
      · exact k D p H2 h2 h3 hD h4 h1 h5
theorem scOne : FnScope ["_law_purse_here", "_law_some"] ["_law_purse_here", "_law_some"] (defScope sOne) := ⟨rfl, rfl, rfl, by decide +kernel, rfl, by decide +kernel, by decide +kernel⟩
theorem ok_one (F : FnP K "_law_one_of" sOne f fd) (Z : Free mg) (GD : FnOk P w K mg base CX0 2 fD fdD ["_law_purse_here", "_law_many"] spDraw) (FD : FnP K "_law_draw" sDraw fD fdD) (gD : mg "_law_draw" = some (.ref fD)) :
    FnOk P w K mg base CX0 3 f fd ["_law_purse_here", "_law_some"] (spOne K) := by
  have bD : Binds K fdD ["_law_purse_here", "_law_many"] [] := FD.bindsN fun _ _ _ _ _ _ us hl => match us, hl with | [_, _], _ => rfl
  refine F.ok scOne (fun vs H Q E h => ?_) (fun cdv A outer s H vs Q E hr h => ?_)
  · obtain ⟨p, q, xs, N, rfl, _⟩ := h
    rfl
  · obtain ⟨p, q, xs, N, rfl, hqp, hS, hl1, hl2, hP, hN, k⟩ := h
    refine ⟨_, PSs.nox (pss_one (ps_ret (pe_ix ix_list (pv 1) (pe_call GD hr rfl gD FD.kp bD .nil pass0 (pa_cons (pv 0) (pa_cons (pe_callB call_len_seq (by rfl) Z.len (by decide +kernel) (pa_cons (pv 1) pa_nil)) pa_nil))) (fun _ _ => rfl)))), ?_⟩
    have hm := mixes_one (m := (xs.length : Int)) (by omega) (by omega)
    refine ⟨_, rfl, _, rfl, _, rfl, q, xs, rfl, Or.inl hS, ?_⟩
    refine ⟨p, (xs.length : Int), N, rfl, by omega, log_small (by omega) (by omega), hP, by omega, by omega, fun r H' h0 h1 kb hP' => ?_⟩
    obtain ⟨j, rfl⟩ : ∃ j : Nat, r = j := ⟨r.toNat, by omega⟩
    have hj : j < xs.length := by omega
    refine ⟨q, xs, _, xs[j], rfl, rfl, kb.seq hqp hS, atI_nat (by rw [List.getElem?_eq_getElem hj]), ?_⟩
    rw [hm] at hP'
    exact k _ _ (List.getElem_mem hj) kb hP'
end
abbrev s_purse := sPurse
abbrev s_mixed := sMixed
abbrev s_draw := sDraw
end K21
set_option Elab.async false
set_option linter.all false
set_option maxRecDepth 100000
set_option maxHeartbeats 4000000
/-! Words, deeds, logs as data. -/
namespace K21
open PySem PySem.Spec PyProof.Rows L2 KB
structure FreeS (mg : Str → Option Value) : Prop extends Free mg where
  tstr : mg "str" = none
  sorted : mg "sorted" = none
def abc : List Nat := (List.range 26).map (· + 97)
def wordS (z : Str) : Bool := decide (1 ≤ z.length ∧ z.length ≤ 8) && z.cps.toList.all fun c => decide (c ∈ abc)
mutual
/-- words of a deed: counts, words, None, tuples of these -/
def okW : PyData → Bool
  | .none => true
  | .int i => decide (0 ≤ i)
  | .str z => wordS z
  | .tuple ds => okWs ds
  | _ => false
def okWs : List PyData → Bool
  | [] => true
  | d :: ds => okW d && okWs ds
end
theorem okWs_iff : ∀ {ds : List PyData}, okWs ds = true ↔ ∀ d ∈ ds, okW d = true
  | [] => by simp [okWs]
  | d :: ds => by
    rw [okWs, Bool.and_eq_true, okWs_iff, List.forall_mem_cons]
mutual
def szW : PyData → Nat
  | .tuple ds => 1 + szWs ds
  | _ => 1
def szWs : List PyData → Nat
  | [] => 0
  | d :: ds => szW d + szWs ds
end
theorem szWs_app : ∀ (xs ys : List PyData), szWs (xs ++ ys) = szWs xs + szWs ys
  | [], ys => by simp [szWs]
  | x :: xs, ys => by
    rw [List.cons_append, szWs, szWs, szWs_app]
    omega
theorem szW_pos (d : PyData) : 1 ≤ szW d := by
  cases d <;> simp [szW] <;> omega
theorem trW {H : Hp} {x : V} {d : PyData} (h : Tr H 5 x d) (k : okW d = true) : x = .non ∨ (∃ i : Int, 0 ≤ i ∧ x = .int i) ∨ (∃ z : Str, wordS z = true ∧ x = .str z) ∨
    ∃ (a : Addr) (xs : List V) (ds : List PyData), x = .ref a ∧ d = .tuple ds ∧ H a = some (.tup xs) ∧ xs.length = ds.length ∧ okWs ds = true ∧ ∀ (i : Nat) (u : V) (e : PyData), xs[i]? = some u → ds[i]? = some e → Tr H 5 u e := by
  rcases h with h | ⟨a, xs, ds, rfl, l, _, t, c⟩
  · cases h with
    | non => exact .inl rfl
    | bl b => exact absurd k Bool.false_ne_true
    | int i => exact .inr (.inl ⟨i, of_decide_eq_true k, rfl⟩)
    | str z => exact .inr (.inr (.inl ⟨z, k, rfl⟩))
  · rcases t with ⟨_, rfl⟩ | ⟨ha, rfl⟩
    · exact absurd k Bool.false_ne_true
    · exact .inr (.inr (.inr ⟨a, xs, ds, rfl, rfl, ha, l, k, fun i u e h1 h2 => (c i u e h1 h2).up⟩))
/-- a deed -/
structure Dd where
  n : Nat
  p : Nat
  r : List Nat
  w : List PyData
def numsV (ns : List Nat) : List V := ns.map fun i : Nat => V.int (i : Int)
/-- x is the deed d -/
def DeedAt (H : Hp) (x : V) (d : Dd) : Prop := ∃ (t rd tw : Addr), x = .ref t ∧ H t = some (.tup [.int (d.n : Int), .int (d.p : Int), .ref rd, .ref tw]) ∧ H rd = some (.lst (numsV d.r)) ∧ Tr H 5 (.ref tw) (.tuple d.w)
theorem DeedAt.same {H H' : Hp} {x : V} {d : Dd} (k : Same H H') (h : DeedAt H x d) : DeedAt H' x d := by
  obtain ⟨t, rd, tw, e, e1, e2, e3⟩ := h
  exact ⟨t, rd, tw, e, k _ _ e1, k _ _ e2, e3.same k⟩
/-- a right deed -/
structure Dd.Ok (d : Dd) : Prop where
  n1 : 1 ≤ d.n
  asc : d.r.Pairwise (· < ·)
  own : d.p ∈ d.r
  len : d.r.length ≤ 20
  w : okWs d.w = true
  sz : szWs d.w ≤ 100
/-- the log at a -/
structure LogAt (H : Hp) (a : Addr) (ds : List Dd) : Prop where
  ex : ∃ xs : List V, H a = some (.lst xs) ∧ xs.length = ds.length ∧ ∀ (i : Nat) (x : V) (d : Dd), xs[i]? = some x → ds[i]? = some d → DeedAt H x d
theorem LogAt.same {H H' : Hp} {a : Addr} {ds : List Dd} (k : Same H H') (h : LogAt H a ds) : LogAt H' a ds := by
  obtain ⟨xs, h1, h2, h3⟩ := h
  exact ⟨xs, k _ _ h1, h2, fun i x d e1 e2 => (h3 i x d e1 e2).same k⟩
end K21
set_option Elab.async false
set_option linter.all false
set_option maxRecDepth 100000
set_option maxHeartbeats 4000000
/-! The pages of a log. -/
namespace K21
open PySem PySem.Spec PyProof.Rows L2 KB
def pB (ds : List Dd) : Nat := (ds.map fun d => d.r.sum).sum + 1
/-- the pages of a log, ascending -/
def pgs (ds : List Dd) : List Nat := (List.range (pB ds)).filter fun p => ds.any fun d => decide (p ∈ d.r)
theorem le_sum : ∀ {l : List Nat} {x : Nat}, x ∈ l → x ≤ l.sum
  | y :: l, x, h => by
    rw [List.sum_cons]
    rcases List.mem_cons.mp h with rfl | h
    · omega
    · have := le_sum h
      omega
theorem pgs_mem {ds : List Dd} {p : Nat} : p ∈ pgs ds ↔ ∃ d ∈ ds, p ∈ d.r := by
  unfold pgs
  rw [List.mem_filter, List.mem_range, List.any_eq_true]
  constructor
  · rintro ⟨_, d, hd, h⟩
    exact ⟨d, hd, of_decide_eq_true h⟩
  · rintro ⟨d, hd, h⟩
    refine ⟨?_, d, hd, decide_eq_true h⟩
    have h1 := le_sum h
    have h2 : d.r.sum ≤ (ds.map fun d => d.r.sum).sum := le_sum (List.mem_map.mpr ⟨d, hd, rfl⟩)
    unfold pB
    omega
theorem pgs_asc (ds : List Dd) : (pgs ds).Pairwise (· < ·) := List.Pairwise.filter _ List.pairwise_lt_range
/-- ascending lists of the same members are alike -/
theorem asc_uniq : ∀ {l m : List Nat}, l.Pairwise (· < ·) → m.Pairwise (· < ·) → (∀ x, x ∈ l ↔ x ∈ m) → l = m
  | [], [], _, _, _ => rfl
  | [], y :: m, _, _, h => by
    have := (h y).mpr List.mem_cons_self
    cases this
  | x :: l, [], _, _, h => by
    have := (h x).mp List.mem_cons_self
    cases this
  | x :: l, y :: m, hl, hm, h => by
    obtain ⟨l1, l2⟩ := List.pairwise_cons.mp hl
    obtain ⟨m1, m2⟩ := List.pairwise_cons.mp hm
    have e : x = y := by
      rcases List.mem_cons.mp ((h x).mp List.mem_cons_self) with e | e
      · exact e
      · rcases List.mem_cons.mp ((h y).mpr List.mem_cons_self) with e' | e'
        · exact e'.symm
        · have a := m1 _ e
          have b := l1 _ e'
          omega
    subst e
    rw [asc_uniq l2 m2 fun z => ?_]
    constructor
    · intro hz
      rcases List.mem_cons.mp ((h z).mp (List.mem_cons_of_mem _ hz)) with e | e
      · have := l1 _ hz
        omega
      · exact e
    · intro hz
      rcases List.mem_cons.mp ((h z).mpr (List.mem_cons_of_mem _ hz)) with e | e
      · have := m1 _ hz
        omega
      · exact e
/-- how many of l are told -/
def cnt (l : List Nat) (S : Int → Bool) : Nat := (l.filter fun (p : Nat) => S (p : Int)).length
theorem cnt_add {l : List Nat} (nd : l.Pairwise (· < ·)) {S : Int → Bool} {k : Nat} (hk : k ∈ l) : cnt l (fun j => S j || decide (j = (k : Int))) = if S (k : Int) = true then cnt l S else cnt l S + 1 := by
  have gen : ∀ (l : List Nat), l.Pairwise (· < ·) → cnt l (fun j => S j || decide (j = (k : Int))) = cnt l S + if S (k : Int) = true then 0 else if k ∈ l then 1 else 0 := by
    intro l
    induction l with
    | nil => intro _; simp [cnt]
    | cons x l ih =>
      intro nd
      obtain ⟨n1, n2⟩ := List.pairwise_cons.mp nd
      have := ih n2
      unfold cnt at this ⊢
      by_cases e : x = k
      · subst e
        have nk : x ∉ l := fun m => Nat.lt_irrefl _ (n1 _ m)
        by_cases sx : S (x : Int) = true
        · simp only [List.filter_cons, sx, Bool.true_or, if_true, List.length_cons] at this ⊢
          omega
        · simp only [List.filter_cons, sx, nk, decide_true, Bool.or_true, if_true, if_false, List.length_cons, List.mem_cons, true_or] at this ⊢
          simp at this ⊢
          omega
      · have ne : ¬ ((x : Int) = (k : Int)) := by omega
        have mk : (k ∈ x :: l) ↔ k ∈ l := by
          rw [List.mem_cons]
          constructor
          · rintro (h | h)
            · exact absurd h.symm e
            · exact h
          · exact Or.inr
        simp only [List.filter_cons, decide_eq_false ne, Bool.or_false, mk] at this ⊢
        split
        · simp only [List.length_cons]
          omega
        · exact this
  rw [gen l nd, if_pos hk]
  by_cases h : S (k : Int) = true
  · rw [if_pos h, if_pos h]
    rfl
  · rw [if_neg h, if_neg h]
theorem cnt_le (l : List Nat) (S : Int → Bool) : cnt l S ≤ l.length := List.length_filter_le _ _
theorem cnt_zero (l : List Nat) : cnt l (fun _ => false) = 0 := by
  unfold cnt
  simp
/-- a right log -/
structure Lg (ds : List Dd) : Prop where
  ok : ∀ d ∈ ds, d.Ok
  asc : ds.Pairwise fun d e => d.n < e.n
  len : ds.length ≤ 60
  pl : (pgs ds).length ≤ 30
end K21
set_option Elab.async false
set_option linter.all false
set_option maxRecDepth 100000
set_option maxHeartbeats 8000000
namespace K21
open PySem PySem.Spec PyProof.Rows L2 KB
structure Cn (mg : Str → Option Value) : Prop where
  gA : ∃ t, mg "LETTERS" = some (.str "abcdefghijklmnopqrstuvwxyz" t)
  gM : ∃ t, mg "MOST_LETTERS" = some (.int 8 t)
theorem cut_tail (ns : List Nat) : cutV (numsV ns) (some 1) none = (numsV ns).drop 1 := by
  unfold cutV
  by_cases h : 1 ≤ (numsV ns).length
  · have e1 : HT.sIx (numsV ns).length 0 (some 1) = 1 := by
      unfold HT.sIx
      simp
      omega
    have e2 : HT.sIx (numsV ns).length (numsV ns).length none = (numsV ns).length := rfl
    rw [e1, e2, List.take_of_length_le (by rw [List.length_drop]; exact Nat.le_refl _)]
  · have e0 : numsV ns = [] := List.length_eq_zero_iff.mp (by omega)
    rw [e0]
    rfl
def spWhole : Sp := fun vs H Q _ => (∃ i : Int, vs = [.int i] ∧ Q (.bl true) H) ∨ ∃ z : Str, vs = [.str z] ∧ Q (.bl false) H
def spCount : Sp := fun vs H Q _ => (∃ i : Int, vs = [.int i] ∧ Q (.bl (decide (i ≥ 0))) H) ∨ ∃ z : Str, vs = [.str z] ∧ Q (.bl false) H
def spTupOf : Sp := fun vs H Q _ => ∃ (t : Addr) (xs : List V) (n : Int), vs = [.ref t, .int n] ∧ H t = some (.tup xs) ∧ Q (.bl (decide ((xs.length : Int) = n))) H
def spAsc : Sp := fun vs H Q _ => ∃ (a : Addr) (ns : List Nat), vs = [.ref a] ∧ H a = some (.lst (numsV ns)) ∧ ns.length ≤ 1000 ∧ ns.Pairwise (· < ·) ∧ ∀ H', Same H H' → Q (.bl true) H'
def spAscC : Sp := fun vs H Q _ => ∃ (a : Addr) (ns : List Nat), vs = [.ref a] ∧ H a = some (.lst (numsV ns)) ∧ ns.length ≤ 1000 ∧ ns.Pairwise (· < ·) ∧ ∀ H', Same H H' → Q (.bl true) H'
def spWord : Sp := fun vs H Q _ => ∃ z : Str, vs = [.str z] ∧ wordS z = true ∧ ∀ H', Same H H' → Q (.bl true) H'
section
variable {P : Program} {w : World} {K : PySem.W.Frag} {mg : Str → Option Value} {base : Heap}
abbrev s_is_whole_number : Stmt := top 9
abbrev N_is_whole_number : List Str := ["value"]
theorem sc_is_whole_number : FnScope N_is_whole_number ["value"] (defScope s_is_whole_number) := ⟨rfl, rfl, rfl, by decide +kernel, rfl, by decide +kernel, by decide +kernel⟩
theorem ok_is_whole_number {f : Addr} {fd : FuncData} (F : FnP K "is_whole_number" s_is_whole_number f fd) (Z : FreeS mg) :
    FnOk P w K mg base CX0 1 f fd ["value"] spWhole := by
  refine F.ok sc_is_whole_number (fun vs H Q E h => ?_) (fun cdv A outer s H vs Q E hr h => ?_)
  · rcases h with ⟨i, rfl, _⟩ | ⟨z, rfl, _⟩ <;> rfl
  ·
    have nd := sc_is_whole_number.nd
    refine ⟨_, PSs.nox (pss_one (ps_ret (pe_and (pe_callB call_isi (by rfl) Z.isi (by decide +kernel) (pa_cons (pv 0) (pa_cons (pe_bltn (v := .ty "int") (by rfl) Z.int (by decide +kernel) rfl) pa_nil))) (pe_one (pe_not (pe_callB call_isi (by rfl) Z.isi (by decide +kernel) (pa_cons (pv 0) (pa_cons (pe_bltn (v := .ty "bool") (by rfl) Z.tbool (by decide +kernel) rfl) pa_nil)))))))), ?_⟩
    rcases h with ⟨i, rfl, k⟩ | ⟨z, rfl, k⟩
    · refine ⟨_, rfl, .int i, .ty "int", .type "int", .type "int", true, rfl, .ty _, .base (.int i), kit_ty (by decide +kernel), true, rfl, iteT ?_⟩
      exact ⟨_, rfl, .int i, .ty "bool", .type "int", .type "bool", false, rfl, .ty _, .base (.int i), kit_ty (by decide +kernel), false, rfl, k⟩
    · exact ⟨_, rfl, .str z, .ty "int", .type "str", .type "int", false, rfl, .ty _, .base (.str z), kit_ty (by decide +kernel), false, rfl, iteF k⟩
abbrev s_is_count : Stmt := top 10
abbrev N_is_count : List Str := ["value"]
theorem sc_is_count : FnScope N_is_count ["value"] (defScope s_is_count) := ⟨rfl, rfl, rfl, by decide +kernel, rfl, by decide +kernel, by decide +kernel⟩
theorem ok_is_count {f : Addr} {fd : FuncData} (F : FnP K "is_count" s_is_count f fd) (Z : FreeS mg)
    {f_is_whole_number : Addr} {d_is_whole_number : FuncData} (g_is_whole_number : mg "is_whole_number" = some (.ref f_is_whole_number)) (F_is_whole_number : FnP K "is_whole_number" s_is_whole_number f_is_whole_number d_is_whole_number) (G_is_whole_number : FnOk P w K mg base CX0 1 f_is_whole_number d_is_whole_number ["value"] spWhole) :
    FnOk P w K mg base CX0 2 f fd ["value"] spCount := by
  have b_is_whole_number : Binds K d_is_whole_number ["value"] [] := F_is_whole_number.bindsN fun _ _ _ _ _ _ us hl => match us, hl with | [_], _ => rfl
  refine F.ok sc_is_count (fun vs H Q E h => ?_) (fun cdv A outer s H vs Q E hr h => ?_)
  · rcases h with ⟨i, rfl, _⟩ | ⟨z, rfl, _⟩ <;> rfl
  ·
    have nd := sc_is_count.nd
    refine ⟨_, PSs.nox (pss_one (ps_ret (pe_and (pe_call G_is_whole_number (hr.mono (by decide)) rfl g_is_whole_number F_is_whole_number.kp b_is_whole_number .nil pass0 (pa_cons (pv 0) (pa_nil))) (pe_one (pe_cmpR op_ge (pv 0) (pe_int) (nomark _)))))), ?_⟩
    rcases h with ⟨i, rfl, k⟩ | ⟨z, rfl, k⟩
    · refine ⟨_, rfl, .inl ⟨i, rfl, true, rfl, iteT ?_⟩⟩
      exact ⟨_, rfl, _, _, rfl, rfl, k⟩
    · exact ⟨_, rfl, .inr ⟨z, rfl, false, rfl, iteF k⟩⟩
abbrev s_is_tuple_of : Stmt := top 11
abbrev N_is_tuple_of : List Str := ["value", "length"]
theorem sc_is_tuple_of : FnScope N_is_tuple_of ["value", "length"] (defScope s_is_tuple_of) := ⟨rfl, rfl, rfl, by decide +kernel, rfl, by decide +kernel, by decide +kernel⟩
theorem ok_is_tuple_of {f : Addr} {fd : FuncData} (F : FnP K "is_tuple_of" s_is_tuple_of f fd) (Z : FreeS mg) :
    FnOk P w K mg base CX0 1 f fd ["value", "length"] spTupOf := by
  refine F.ok sc_is_tuple_of (fun vs H Q E h => ?_) (fun cdv A outer s H vs Q E hr h => ?_)
  · obtain ⟨t, xs, n, rfl, _⟩ := h
    rfl
  · obtain ⟨t, xs, n, rfl, ht, k⟩ := h
    have nd := sc_is_tuple_of.nd
    refine ⟨_, PSs.nox (pss_one (ps_ret (pe_and (pe_callB call_isi (by rfl) Z.isi (by decide +kernel) (pa_cons (pv 0) (pa_cons (pe_bltn (v := .ty "tuple") (by rfl) Z.ttuple (by decide +kernel) rfl) pa_nil))) (pe_one (pe_cmpR op_eq (pe_callB call_len_seq (by rfl) Z.len (by decide +kernel) (pa_cons (pv 0) (pa_nil))) (pv 1) (nomark _)))))), ?_⟩
    refine ⟨_, rfl, .ref t, .ty "tuple", .type "tuple", .type "tuple", true, rfl, .ty _, .base (.tup ht), kit_ty (by decide +kernel), true, rfl, iteT ?_⟩
    refine ⟨_, rfl, t, xs, rfl, Or.inr (Or.inl (.inl ht)), _, rfl, rfl, ?_⟩
    have e : decide (V.int (xs.length : Int) = V.int n) = decide ((xs.length : Int) = n) := by
      by_cases h : (xs.length : Int) = n
      · rw [decide_eq_true h, decide_eq_true (congrArg V.int h)]
      · rw [decide_eq_false h, decide_eq_false fun z => h (V.int.inj z)]
    rw [e]
    exact k
abbrev s_ascends : Stmt := top 12
abbrev N_ascends : List Str := ["values", "one", "other"]
theorem sc_ascends : FnScope N_ascends ["values"] (defScope s_ascends) := ⟨rfl, rfl, rfl, by decide +kernel, rfl, by decide +kernel, by decide +kernel⟩
theorem ok_ascends {f : Addr} {fd : FuncData} (F : FnP K "ascends" s_ascends f fd) (Z : FreeS mg) :
    FnOk P w K mg base CX0 1 f fd ["values"] spAsc := by
  refine F.ok sc_ascends (fun vs H Q E h => ?_) (fun cdv A outer s H vs Q E hr h => ?_)
  · obtain ⟨a, ns, rfl, _⟩ := h
    rfl
  · obtain ⟨a, ns, rfl, ha, hl, hp, k⟩ := h
    have nd := sc_ascends.nd
    refine ⟨_, PSs.nox (pss_one (ps_ret (pe_callB (cr_all rfl) (by rfl) Z.all (by decide +kernel) (pa_cons (pe_lc (own := [("one", 1), ("other", 2)]) (g := gTup K 2 (gCons (gName 1) (gCons (gName 2) (gNil)))) (tt := tYes) (te := tOp (rI0 fun i j => .bl (decide (i < j))) (tVar 1) (tVar 2)) (by rfl) nd (pi_zip (by rfl) Z.zip (pa_cons (pv 0) (pa_cons (pe_slice sl_list (pv 0) (po_some (pe_int)) (po_none)) (pa_nil))))
          (blkOk_by (own := [("one", 1), ("other", 2)]) (N := N_ascends) (sc := defScope s_ascends) (by decide +kernel)) (fun _ _ _ _ _ => pg_tup rfl (pgs_cons (pg_name (i := 1) nd rfl (Or.inl rfl)) (pgs_cons (pg_name (i := 2) nd rfl (Or.inl rfl)) (pgs_nil)))) (fun _ _ _ _ _ => pts_nil)
          (fun _ _ _ _ _ => pe_cmpR op_lt (pv 1) (pv 2) (nomark _))) (pa_nil))))), ?_⟩
    obtain ⟨cq, hq⟩ : ∃ c : List V, c = cutV (numsV ns) (some 1) none := ⟨_, rfl⟩
    have ec : cq = (numsV ns).drop 1 := by
      rw [hq, cut_tail]
    have ln : (numsV ns).length = ns.length := List.length_map _
    refine ⟨_, rfl, _, rfl, _, rfl, a, _, rfl, SqL.of ha, fun q hqn => ?_⟩
    rw [← hq]
    have s1 : Same H (upd H q (.lst cq)) := Same.updf hqn
    refine ⟨a, q, _, _, rfl, SqL.of (s1 _ _ ha), SqL.of upd_same, fun D hD => ?_⟩
    refine lc_sel (n := ns.length - 1) (walk_zip (K := K) (a := a) (b := q) (xs := numsV ns) (ys := cq) (by rw [ec, List.length_drop, ln]; omega)) (fun _ => some (.bl true)) (by omega) hD (fun H2 s2 => ⟨SqL.of (s2 _ _ (s1 _ _ ha)), SqL.of (s2 _ _ upd_same)⟩) ?_ ?_
    · rintro t v H5 H6 Qy Qn ht s6 ⟨T, x1, x2, rfl, nT, rfl, g1, g2⟩ ky kn
      dsimp only at g1 g2
      rw [ec, List.getElem?_drop] at g2
      unfold numsV at g1 g2
      rw [List.getElem?_map, List.getElem?_eq_getElem (by omega)] at g1 g2
      obtain rfl := Option.some.inj g1
      obtain rfl := Option.some.inj g2
      refine ⟨T, [_, _], rfl, .inl (.inl upd_same), rfl, _, [_], rfl, _, [], rfl, rfl, ?_⟩
      refine ⟨rfl, _, rfl, _, rfl, _, _, rfl, rfl, ky _ _ (Same.updf nT) ?_⟩
      have up := List.pairwise_iff_getElem.mp hp t (1 + t) (by omega) (by omega) (by omega)
      exact (congrArg (fun c => some (V.bl c)) (decide_eq_true (show (ns[t] : Int) < (ns[1 + t] : Int) by omega))).symm
    · intro H2 s2 hR
      obtain ⟨bs, hB, hb⟩ := all_bits (K := K) hR
      refine ⟨D, bs, rfl, hB, ?_⟩
      rw [hb]
      exact k _ (s1.trans s2)
abbrev s_are_ascending_counts : Stmt := top 13
abbrev N_are_ascending_counts : List Str := ["value", "part"]
theorem sc_are_ascending_counts : FnScope N_are_ascending_counts ["value"] (defScope s_are_ascending_counts) := ⟨rfl, rfl, rfl, by decide +kernel, rfl, by decide +kernel, by decide +kernel⟩
theorem ok_are_ascending_counts {f : Addr} {fd : FuncData} (F : FnP K "are_ascending_counts" s_are_ascending_counts f fd) (Z : FreeS mg)
    {f_ascends : Addr} {d_ascends : FuncData} (g_ascends : mg "ascends" = some (.ref f_ascends)) (F_ascends : FnP K "ascends" s_ascends f_ascends d_ascends) (G_ascends : FnOk P w K mg base CX0 1 f_ascends d_ascends ["values"] spAsc)
    {f_is_count : Addr} {d_is_count : FuncData} (g_is_count : mg "is_count" = some (.ref f_is_count)) (F_is_count : FnP K "is_count" s_is_count f_is_count d_is_count) (G_is_count : FnOk P w K mg base CX0 2 f_is_count d_is_count ["value"] spCount) :
    FnOk P w K mg base CX0 3 f fd ["value"] spAscC := by
  have b_ascends : Binds K d_ascends ["values"] [] := F_ascends.bindsN fun _ _ _ _ _ _ us hl => match us, hl with | [_], _ => rfl
  have b_is_count : Binds K d_is_count ["value"] [] := F_is_count.bindsN fun _ _ _ _ _ _ us hl => match us, hl with | [_], _ => rfl
  refine F.ok sc_are_ascending_counts (fun vs H Q E h => ?_) (fun cdv A outer s H vs Q E hr h => ?_)
  · obtain ⟨a, ns, rfl, _⟩ := h
    rfl
  · obtain ⟨a, ns, rfl, ha, hl, hp, k⟩ := h
    have nd := sc_are_ascending_counts.nd
    refine ⟨_, PSs.nox (pss_one (ps_ret (pe_and (pe_callB call_isi (by rfl) Z.isi (by decide +kernel) (pa_cons (pv 0) (pa_cons (pe_bltn (v := .ty "list") (by rfl) Z.tlist (by decide +kernel) rfl) pa_nil))) (pe_and (pe_callB (cr_all rfl) (by rfl) Z.all (by decide +kernel) (pa_cons (pe_lc (own := [("part", 1)]) (g := gName 1) (tt := tYes) (te := tCall spCount [] E0 (tCons (tVar 1) (tNil))) (by rfl) nd (pi_list (pv 0))
          (blkOk_by (own := [("part", 1)]) (N := N_are_ascending_counts) (sc := defScope s_are_ascending_counts) (by decide +kernel)) (fun _ _ _ _ _ => pg_name (i := 1) nd rfl (Or.inl rfl)) (fun _ _ _ _ _ => pts_nil)
          (fun _ _ _ _ _ => pe_call G_is_count (hr.mono (by decide)) rfl g_is_count F_is_count.kp b_is_count .nil pass0 (pa_cons (pv 1) (pa_nil)))) (pa_nil))) (pe_one (pe_call G_ascends (hr.mono (by decide)) rfl g_ascends F_ascends.kp b_ascends .nil pass0 (pa_cons (pv 0) (pa_nil)))))))), ?_⟩
    have ln : (numsV ns).length = ns.length := List.length_map _
    refine ⟨_, rfl, .ref a, .ty "list", .type "list", .type "list", true, rfl, .ty _, .base (.lst ha), kit_ty (by decide +kernel), true, rfl, iteT ?_⟩
    refine ⟨_, rfl, a, rfl, ⟨_, SqL.of ha⟩, fun D hD => ?_⟩
    refine lc_sel (walk_list (K := K) (a := a) (xs := numsV ns)) (fun _ => some (.bl true)) (by omega) hD (fun H2 s2 => SqL.of (s2 _ _ ha)) ?_ ?_
    · rintro i v H2 H3 Qy Qn hi sH ⟨rfl, hv⟩ ky kn
      unfold numsV at hv
      rw [List.getElem?_map, List.getElem?_eq_getElem (by omega)] at hv
      obtain rfl := Option.some.inj hv
      refine ⟨rfl, _, rfl, .inl ⟨_, rfl, ky _ _ (Same.refl _) ?_⟩⟩
      rw [decide_eq_true (Int.natCast_nonneg _)]
    · intro H2 s2 hR
      obtain ⟨bs, hB, hb⟩ := all_bits (K := K) hR
      refine ⟨D, bs, rfl, hB, ?_⟩
      rw [hb]
      exact ⟨true, rfl, iteT ⟨_, rfl, a, ns, rfl, s2 _ _ ha, hl, hp, fun H3 s3 => k H3 (s2.trans s3)⟩⟩
abbrev s_is_word : Stmt := top 14
abbrev N_is_word : List Str := ["value", "letter"]
theorem sc_is_word : FnScope N_is_word ["value"] (defScope s_is_word) := ⟨rfl, rfl, rfl, by decide +kernel, rfl, by decide +kernel, by decide +kernel⟩
theorem ok_is_word {f : Addr} {fd : FuncData} (F : FnP K "is_word" s_is_word f fd) (Z : FreeS mg) (C : Cn mg) :
    FnOk P w K mg base CX0 1 f fd ["value"] spWord := by
  refine F.ok sc_is_word (fun vs H Q E h => ?_) (fun cdv A outer s H vs Q E hr h => ?_)
  · obtain ⟨z, rfl, _⟩ := h
    rfl
  · obtain ⟨z, rfl, hz, k⟩ := h
    have nd := sc_is_word.nd
    refine ⟨_, PSs.nox (pss_cons (ps_if (PW.pt (pw_or (pt_not (pt_val (pe_callB call_isi (by rfl) Z.isi (by decide +kernel) (pa_cons (pv 0) (pa_cons (pe_bltn (v := .ty "str") (by rfl) Z.tstr (by decide +kernel) rfl) pa_nil))))) (pw_or1 (pt_not (pt_chain op_le op_le (pe_int) (pe_callB call_len_str (by rfl) Z.len (by decide +kernel) (pa_cons (pv 0) pa_nil)) (pe_glob (v := .int 8) (by rfl) C.gM.choose_spec ⟨_, rfl⟩)))))) (pss_one (ps_ret (pe_bl))) (pss_nil))
      (pss_one (ps_ret (pe_callB (cr_all rfl) (by rfl) Z.all (by decide +kernel) (pa_cons (pe_lc (own := [("letter", 1)]) (g := gName 1) (tt := tYes) (by rfl) nd (pi_str (pv 0))
          (blkOk_by (own := [("letter", 1)]) (N := N_is_word) (sc := defScope s_is_word) (by decide +kernel)) (fun _ _ _ _ _ => pg_name (i := 1) nd rfl (Or.inl rfl)) (fun _ _ _ _ _ => pts_nil)
          (fun _ _ _ _ _ => pe_cmpR op_in_sign (pv 1) (pe_glob (v := .str "abcdefghijklmnopqrstuvwxyz") (by rfl) C.gA.choose_spec ⟨_, rfl⟩) (by rfl))) (pa_nil)))))), ?_⟩
    unfold wordS at hz
    rw [Bool.and_eq_true, decide_eq_true_eq, List.all_eq_true] at hz
    obtain ⟨⟨l1, l8⟩, hc⟩ := hz
    refine ⟨_, rfl, .str z, .ty "str", .type "str", .type "str", true, rfl, .ty _, .base (.str z), kit_ty (by decide +kernel), true, rfl, iteF ?_⟩
    have sl : (100 : Nat) ≤ sizeLine := by decide
    have zs : z.cps.size = z.length := rfl
    refine ⟨_, rfl, z, rfl, by omega, _, _, rfl, rfl, _, rfl, ?_⟩
    rw [decide_eq_true (show (1 : Int) ≤ (z.length : Int) by omega)]
    refine iteT ⟨_, _, rfl, rfl, _, rfl, ?_⟩
    rw [decide_eq_true (show (z.length : Int) ≤ 8 by omega)]
    refine iteF ?_
    refine ⟨_, rfl, z, rfl, fun D hD => ?_⟩
    refine lc_sel (n := z.cps.size) (walk_str (z := z)) (fun _ => some (.bl true)) (by omega) hD (fun H2 s2 => trivial) ?_ ?_
    · rintro i v H2 H3 Qy Qn hi sH ⟨rfl, c, hv, rfl⟩ ky kn
      refine ⟨rfl, _, rfl, c, _, rfl, rfl, ky _ _ (Same.refl _) ?_⟩
      have m : c ∈ z.cps.toList := by
        rw [Array.mem_toList_iff]
        exact Array.mem_of_getElem? hv
      have q := of_decide_eq_true (hc c m)
      refine (congrArg (fun b => some (V.bl b)) (decide_eq_true ?_)).symm
      exact q
    · intro H2 s2 hR
      obtain ⟨bs, hB, hb⟩ := all_bits (K := K) hR
      refine ⟨D, bs, rfl, hB, ?_⟩
      rw [hb]
      exact k _ s2
end
end K21
set_option Elab.async false
set_option linter.all false
set_option maxRecDepth 100000
set_option maxHeartbeats 8000000
namespace K21
open PySem PySem.Spec PyProof.Rows L2 KB
def spWords : Sp := fun vs H Q _ => ∃ (t : Addr) (ds : List PyData), vs = [.ref t] ∧ Tr H 5 (.ref t) (.tuple ds) ∧ okWs ds = true ∧ szWs ds ≤ 100 ∧ ∀ H', Same H H' → Q (.bl true) H'
theorem len_sz : ∀ ds : List PyData, ds.length ≤ szWs ds
  | [] => Nat.le_refl _
  | d :: ds => by
    have := szW_pos d
    have := len_sz ds
    rw [List.length_cons, szWs]
    omega
section
variable {P : Program} {w : World} {K : PySem.W.Frag} {mg : Str → Option Value} {base : Heap}
abbrev s_are_words : Stmt := top 18
abbrev N_are_words : List Str := ["value", "ahead", "part"]
theorem sc_are_words : FnScope N_are_words ["value"] (defScope s_are_words) := ⟨rfl, rfl, rfl, by decide +kernel, rfl, by decide +kernel, by decide +kernel⟩
theorem ok_are_words {f : Addr} {fd : FuncData} (F : FnP K "are_words" s_are_words f fd) (Z : FreeS mg)
    {f_is_count : Addr} {d_is_count : FuncData} (g_is_count : mg "is_count" = some (.ref f_is_count)) (F_is_count : FnP K "is_count" s_is_count f_is_count d_is_count) (G_is_count : FnOk P w K mg base CX0 2 f_is_count d_is_count ["value"] spCount)
    {f_is_word : Addr} {d_is_word : FuncData} (g_is_word : mg "is_word" = some (.ref f_is_word)) (F_is_word : FnP K "is_word" s_is_word f_is_word d_is_word) (G_is_word : FnOk P w K mg base CX0 1 f_is_word d_is_word ["value"] spWord) :
    FnOk P w K mg base CX0 3 f fd ["value"] spWords := by
  have b_is_count : Binds K d_is_count ["value"] [] := F_is_count.bindsN fun _ _ _ _ _ _ us hl => match us, hl with | [_], _ => rfl
  have b_is_word : Binds K d_is_word ["value"] [] := F_is_word.bindsN fun _ _ _ _ _ _ us hl => match us, hl with | [_], _ => rfl
  refine F.ok sc_are_words (fun vs H Q E h => ?_) (fun cdv A outer s H vs Q E hr h => ?_)
  · obtain ⟨t, ds, rfl, _⟩ := h
    rfl
  · obtain ⟨t, ds, rfl, ht, ho, hz, k⟩ := h
    have sl : (2000 : Nat) ≤ sizeLine := by decide
    have nd := sc_are_words.nd
    refine ⟨_, PSs.nox (pss_cons (ps_if (pt_not (pt_val (pe_callB call_isi (by rfl) Z.isi (by decide +kernel) (pa_cons (pv 0) (pa_cons (pe_bltn (v := .ty "tuple") (by rfl) Z.ttuple (by decide +kernel) rfl) pa_nil))))) (pss_one (ps_ret (pe_bl))) (pss_nil))
      (pss_cons (ps_set (i := 1) nd rfl (Or.inl rfl) (pe_lst (pa_cons (pv 0) (pa_nil))))
      (pss_cons (ps_while PassesOwn.never (pt_truth (pv 1) (fun _ => rfl)) (pss_cons (ps_set (i := 2) nd rfl (Or.inl rfl) (pe_bm0 PySem.F.plainAttrs_list PySem.F.slot_list_pop PySem.F.type_list_pop mt_pop (pv 1)))
      (pss_one (ps_if (pt_val (pe_callB call_isi (by rfl) Z.isi (by decide +kernel) (pa_cons (pv 2) (pa_cons (pe_bltn (v := .ty "tuple") (by rfl) Z.ttuple (by decide +kernel) rfl) pa_nil)))) (pss_one (ps_expr (pe_bm PySem.F.plainAttrs_list PySem.F.slot_list_extend PySem.F.type_list_extend mt_extend (pv 1) (pa_cons (pe_callTy call_list_of (by rfl) Z.tlist (by decide +kernel) (pa_cons (pv 2) (pa_nil))) (pa_nil))))) (pss_one (ps_if (PW.pt (pw_and (pt_cmpR op_notN (pv 2) (pe_non) (nomark _)) (pw_and (pt_not (pt_val (pe_call G_is_count (hr.mono (by decide)) rfl g_is_count F_is_count.kp b_is_count .nil pass0 (pa_cons (pv 2) (pa_nil))))) (pw_and1 (pt_not (pt_val (pe_call G_is_word (hr.mono (by decide)) rfl g_is_word F_is_word.kp b_is_word .nil pass0 (pa_cons (pv 2) (pa_nil))))))))) (pss_one (ps_ret (pe_bl))) (pss_nil)))))))
      (pss_one (ps_ret (pe_bl)))))), ?_⟩
    obtain ⟨xs0, hx0⟩ : ∃ xs, H t = some (.tup xs) := by
      rcases trW ht (show okW (.tuple ds) = true from ho) with h | ⟨_, _, h⟩ | ⟨_, _, h⟩ | ⟨a, xs, es, h, _, h2, _⟩
      · cases h
      · cases h
      · cases h
      · cases h
        exact ⟨xs, h2⟩
    refine ⟨_, rfl, .ref t, .ty "tuple", .type "tuple", .type "tuple", true, rfl, .ty _, .base (.tup hx0), kit_ty (by decide +kernel), true, rfl, iteF ?_⟩
    refine ⟨_, rfl, (by show 1 ≤ sizeLine; decide), fun q hq => ?_⟩
    refine ⟨fun m σ G => ∃ (xs : List V) (es : List PyData) (v : Option V), m = szWs es ∧ Same H G ∧ G q = some (.lst xs) ∧ xs.length = es.length ∧ (∀ (i : Nat) (u : V) (e : PyData), xs[i]? = some u → es[i]? = some e → Tr H 5 u e) ∧ okWs es = true ∧ szWs es ≤ 101 ∧ xs.length ≤ szWs es ∧ σ = [some (.ref t), some (.ref q), v],
      ⟨szWs [.tuple ds], [.ref t], [.tuple ds], none, rfl, Same.updf hq, upd_same, rfl, tr_cons ht tr_nil, by show (okWs ds && true) = true; rw [ho]; rfl, by simp only [szWs, szW]; omega, by simp only [szWs, szW, List.length_singleton]; omega, rfl⟩, ?_⟩
    rintro m σ G ⟨xs, es, v, rfl, sG, gq, lx, tx, ox, zx, zl, rfl⟩
    refine ⟨_, rfl, !xs.isEmpty, .inl ⟨xs, SqL.of gq, rfl⟩, ?_⟩
    by_cases e0 : xs = []
    · subst e0
      exact k G sG
    · obtain ⟨xs', x, rfl⟩ : ∃ l y, xs = l ++ [y] := ⟨_, _, (List.dropLast_concat_getLast e0).symm⟩
      have n0 : es ≠ [] := fun z => by
        rw [z, List.length_append] at lx
        simp at lx
      obtain ⟨es', d, rfl⟩ : ∃ l y, es = l ++ [y] := ⟨_, _, (List.dropLast_concat_getLast n0).symm⟩
      have lx' : xs'.length = es'.length := by
        rw [List.length_append, List.length_append] at lx
        simp at lx
        exact lx
      have hd : Tr H 5 x d := tx xs'.length x d (by simp) (by rw [lx']; simp)
      have hes : ∀ (i : Nat) (u : V) (e : PyData), xs'[i]? = some u → es'[i]? = some e → Tr H 5 u e := fun i u e h1 h2 =>
        tx i u e (by rw [List.getElem?_append_left (List.getElem?_eq_some_iff.mp h1).1]; exact h1) (by rw [List.getElem?_append_left (List.getElem?_eq_some_iff.mp h2).1]; exact h2)
      have oe : okWs es' = true ∧ okW d = true := ⟨okWs_iff.mpr fun y m => okWs_iff.mp ox y (List.mem_append_left _ m), okWs_iff.mp ox d (List.mem_append_right _ List.mem_cons_self)⟩
      have se : szWs (es' ++ [d]) = szWs es' + szW d := by rw [szWs_app]; rfl
      have sp := szW_pos d
      have ie : (!(xs' ++ [x]).isEmpty) = true := by simp
      rw [ie]
      refine iteT ⟨fun σ' G' => ∃ m', m' < szWs (es' ++ [d]) ∧ ∃ (xs : List V) (es : List PyData) (v : Option V), m' = szWs es ∧ Same H G' ∧ G' q = some (.lst xs) ∧ xs.length = es.length ∧ (∀ (i : Nat) (u : V) (e : PyData), xs[i]? = some u → es[i]? = some e → Tr H 5 u e) ∧ okWs es = true ∧ szWs es ≤ 101 ∧ xs.length ≤ szWs es ∧ σ' = [some (.ref t), some (.ref q), v], fun _ _ h => h, ?_⟩
      refine ⟨_, rfl, .inl ⟨rfl, _, SqL.of gq⟩, q, _, x, rfl, rfl, gq, by simp, ?_⟩
      rw [List.dropLast_concat]
      have sG1 : Same H (upd G q (.lst xs')) := fun b o e => by
        rw [upd_ne (ne_of_none e hq)]
        exact sG _ _ e
      have ll : xs'.length ≤ szWs es' := by
        rw [lx']
        exact len_sz es'
      rcases trW hd oe.2 with rfl | ⟨i, i0, rfl⟩ | ⟨z, hz', rfl⟩ | ⟨a, us, gs, rfl, rfl, ha, lu, og, tg⟩
      · obtain ⟨t', ty', _, k2', _⟩ := FlatD.ty (K := K) (H := upd G q (.lst xs')) FlatD.non
        refine ⟨_, rfl, .non, .ty "tuple", .type t', .type "tuple", false, rfl, .ty _, ty', kit_ty k2', false, rfl, iteF ?_⟩
        refine ⟨_, rfl, rfl, _, rfl, iteF ?_⟩
        exact ⟨szWs es', by omega, xs', es', _, rfl, sG1, upd_same, lx', hes, oe.1, by omega, ll, rfl⟩
      · refine ⟨_, rfl, .int i, .ty "tuple", .type "int", .type "tuple", false, rfl, .ty _, .base (.int i), kit_ty (by decide +kernel), false, rfl, iteF ?_⟩
        refine ⟨_, rfl, rfl, _, rfl, iteT ?_⟩
        refine ⟨_, rfl, .inl ⟨i, rfl, _, rfl, ?_⟩⟩
        rw [decide_eq_true (show i ≥ 0 from i0)]
        exact iteF ⟨szWs es', by omega, xs', es', _, rfl, sG1, upd_same, lx', hes, oe.1, by omega, ll, rfl⟩
      · refine ⟨_, rfl, .str z, .ty "tuple", .type "str", .type "tuple", false, rfl, .ty _, .base (.str z), kit_ty (by decide +kernel), false, rfl, iteF ?_⟩
        refine ⟨_, rfl, rfl, _, rfl, iteT ?_⟩
        refine ⟨_, rfl, .inr ⟨z, rfl, _, rfl, iteT ?_⟩⟩
        refine ⟨_, rfl, z, rfl, hz', fun G2 s2 => ⟨_, rfl, iteF ?_⟩⟩
        exact ⟨szWs es', by omega, xs', es', _, rfl, sG1.trans s2, s2 _ _ upd_same, lx', hes, oe.1, by omega, ll, rfl⟩
      · have ha1 := sG1 _ _ ha
        refine ⟨_, rfl, .ref a, .ty "tuple", .type "tuple", .type "tuple", true, rfl, .ty _, .base (.tup ha1), kit_ty (by decide +kernel), true, rfl, iteT ?_⟩
        refine ⟨_, rfl, .inl ⟨rfl, _, SqL.of upd_same⟩, _, rfl, a, us, rfl, Or.inr (SqT.of ha1), fun l hl => ?_⟩
        have nl : q ≠ l := fun z => by
          rw [← z, upd_same] at hl
          cases hl
        have sz2 : szW (.tuple gs) = 1 + szWs gs := rfl
        have lu2 := len_sz gs
        refine ⟨q, l, xs', us, rfl, rfl, by rw [upd_ne nl, upd_same], upd_same, by omega, ?_⟩
        refine ⟨szWs (es' ++ gs), by rw [szWs_app]; omega, xs' ++ us, es' ++ gs, _, rfl, fun b o e => ?_, upd_same, by rw [List.length_append, List.length_append, lx', lu], fun i u e h1 h2 => ?_, ?_, by rw [szWs_app]; omega, by rw [szWs_app, List.length_append]; omega, rfl⟩
        · rw [upd_ne (ne_of_none e hq)]
          exact Same.updf hl _ _ (sG1 _ _ e)
        · by_cases hi : i < xs'.length
          · rw [List.getElem?_append_left hi] at h1
            rw [List.getElem?_append_left (by omega)] at h2
            exact hes i u e h1 h2
          · rw [List.getElem?_append_right (by omega)] at h1 h2
            rw [← lx'] at h2
            exact tg _ u e h1 h2
        · refine okWs_iff.mpr fun y m => ?_
          rcases List.mem_append.mp m with m | m
          · exact okWs_iff.mp oe.1 y m
          · exact okWs_iff.mp og y m
end
end K21
set_option Elab.async false
set_option linter.all false
set_option maxRecDepth 100000
set_option maxHeartbeats 8000000
namespace K21
open PySem PySem.Spec PyProof.Rows L2 KB
def spDeed : Sp := fun vs H Q _ => ∃ (x : V) (d : Dd), vs = [x] ∧ DeedAt H x d ∧ d.Ok ∧ ∀ H', Same H H' → Q (.bl true) H'
def spDeeds : Sp := fun vs H Q _ => ∃ (a : Addr) (ds : List Dd), vs = [.ref a] ∧ LogAt H a ds ∧ Lg ds ∧ ∀ H', Same H H' → Q (.bl true) H'
def spNeedD : Sp := fun vs H Q _ => ∃ (a : Addr) (ds : List Dd), vs = [.ref a] ∧ LogAt H a ds ∧ Lg ds ∧ ∀ H', Same H H' → Q .non H'
def spPages : Sp := fun vs H Q _ => ∃ (a : Addr) (ds : List Dd), vs = [.ref a] ∧ LogAt H a ds ∧ Lg ds ∧ ∀ p H', Same H H' → H p = none → H' p = some (.lst (numsV (pgs ds))) → Q (.ref p) H'
theorem inV_nums {ns : List Nat} {p : Nat} (h : p ∈ ns) : inV (.int (p : Int)) (numsV ns) = true := by
  unfold inV numsV
  rw [List.any_eq_true]
  exact ⟨_, List.mem_map.mpr ⟨p, h, rfl⟩, by simp [eqV]⟩
theorem flat_nums (ns : List Nat) : (numsV ns).all flatV = true := by
  unfold numsV
  rw [List.all_eq_true]
  intro x hx
  obtain ⟨i, _, rfl⟩ := List.mem_map.mp hx
  rfl
theorem fm_range {α : Type} (l : List α) (f : α → V) : ((List.range l.length).filterMap fun i => (l[i]?).map f) = l.map f := by
  induction l with
  | nil => rfl
  | cons x l ih =>
    rw [List.length_cons, List.range_succ_eq_map, List.filterMap_cons, List.filterMap_map]
    exact congrArg (f x :: ·) ih
section
variable {P : Program} {w : World} {K : PySem.W.Frag} {mg : Str → Option Value} {base : Heap}
abbrev s_is_deed : Stmt := top 19
abbrev N_is_deed : List Str := ["value", "number", "page", "reads", "words"]
theorem sc_is_deed : FnScope N_is_deed ["value"] (defScope s_is_deed) := ⟨rfl, rfl, rfl, by decide +kernel, rfl, by decide +kernel, by decide +kernel⟩
theorem ok_is_deed {f : Addr} {fd : FuncData} (F : FnP K "is_deed" s_is_deed f fd) (Z : FreeS mg)
    {f_is_tuple_of : Addr} {d_is_tuple_of : FuncData} (g_is_tuple_of : mg "is_tuple_of" = some (.ref f_is_tuple_of)) (F_is_tuple_of : FnP K "is_tuple_of" s_is_tuple_of f_is_tuple_of d_is_tuple_of) (G_is_tuple_of : FnOk P w K mg base CX0 1 f_is_tuple_of d_is_tuple_of ["value", "length"] spTupOf)
    {f_are_ascending_counts : Addr} {d_are_ascending_counts : FuncData} (g_are_ascending_counts : mg "are_ascending_counts" = some (.ref f_are_ascending_counts)) (F_are_ascending_counts : FnP K "are_ascending_counts" s_are_ascending_counts f_are_ascending_counts d_are_ascending_counts) (G_are_ascending_counts : FnOk P w K mg base CX0 3 f_are_ascending_counts d_are_ascending_counts ["value"] spAscC)
    {f_are_words : Addr} {d_are_words : FuncData} (g_are_words : mg "are_words" = some (.ref f_are_words)) (F_are_words : FnP K "are_words" s_are_words f_are_words d_are_words) (G_are_words : FnOk P w K mg base CX0 3 f_are_words d_are_words ["value"] spWords)
    {f_is_count : Addr} {d_is_count : FuncData} (g_is_count : mg "is_count" = some (.ref f_is_count)) (F_is_count : FnP K "is_count" s_is_count f_is_count d_is_count) (G_is_count : FnOk P w K mg base CX0 2 f_is_count d_is_count ["value"] spCount) :
    FnOk P w K mg base CX0 4 f fd ["value"] spDeed := by
  have b_is_tuple_of : Binds K d_is_tuple_of ["value", "length"] [] := F_is_tuple_of.bindsN fun _ _ _ _ _ _ us hl => match us, hl with | [_, _], _ => rfl
  have b_are_ascending_counts : Binds K d_are_ascending_counts ["value"] [] := F_are_ascending_counts.bindsN fun _ _ _ _ _ _ us hl => match us, hl with | [_], _ => rfl
  have b_are_words : Binds K d_are_words ["value"] [] := F_are_words.bindsN fun _ _ _ _ _ _ us hl => match us, hl with | [_], _ => rfl
  have b_is_count : Binds K d_is_count ["value"] [] := F_is_count.bindsN fun _ _ _ _ _ _ us hl => match us, hl with | [_], _ => rfl
  refine F.ok sc_is_deed (fun vs H Q E h => ?_) (fun cdv A outer s H vs Q E hr h => ?_)
  · obtain ⟨x, d, rfl, _⟩ := h
    rfl
  · obtain ⟨x, d, rfl, ⟨t, rd, tw, rfl, ht, hr1, hw⟩, ok, k⟩ := h
    have nd := sc_is_deed.nd
    refine ⟨_, PSs.nox (pss_cons (ps_if (pt_not (pt_val (pe_call G_is_tuple_of (hr.mono (by decide)) rfl g_is_tuple_of F_is_tuple_of.kp b_is_tuple_of .nil pass0 (pa_cons (pv 0) (pa_cons (pe_int) (pa_nil)))))) (pss_one (ps_ret (pe_bl))) (pss_nil))
      (pss_cons (ps_asg (pv 0) (pg_tup rfl (pgs_cons (pg_name (i := 1) nd rfl (Or.inl rfl)) (pgs_cons (pg_name (i := 2) nd rfl (Or.inl rfl)) (pgs_cons (pg_name (i := 3) nd rfl (Or.inl rfl)) (pgs_cons (pg_name (i := 4) nd rfl (Or.inl rfl)) (pgs_nil)))))))
      (pss_cons (ps_if (PW.pt (pw_or (pt_not (pt_val (pe_call G_is_count (hr.mono (by decide)) rfl g_is_count F_is_count.kp b_is_count .nil pass0 (pa_cons (pv 1) (pa_nil))))) (pw_or (pt_cmpR op_lt (pv 1) (pe_int) (nomark _)) (pw_or1 (pt_not (pt_val (pe_call G_is_count (hr.mono (by decide)) rfl g_is_count F_is_count.kp b_is_count .nil pass0 (pa_cons (pv 2) (pa_nil))))))))) (pss_one (ps_ret (pe_bl))) (pss_nil))
      (pss_one (ps_ret (pe_and (pe_call G_are_ascending_counts (hr.mono (by decide)) rfl g_are_ascending_counts F_are_ascending_counts.kp b_are_ascending_counts .nil pass0 (pa_cons (pv 3) (pa_nil))) (pe_and (pe_cmpR op_in_seq (pv 2) (pv 3) (by rfl)) (pe_one (pe_call G_are_words (hr.mono (by decide)) rfl g_are_words F_are_words.kp b_are_words .nil pass0 (pa_cons (pv 4) (pa_nil))))))))))), ?_⟩
    refine ⟨_, rfl, t, _, 4, rfl, ht, _, rfl, iteF ?_⟩
    refine ⟨_, rfl, t, [_, _, _, _], rfl, .inl (.inl ht), rfl, _, [_, _, _], rfl, _, [_, _], rfl, _, [_], rfl, _, [], rfl, rfl, ?_⟩
    refine ⟨_, rfl, .inl ⟨_, rfl, _, rfl, ?_⟩⟩
    rw [decide_eq_true (show (d.n : Int) ≥ 0 by omega)]
    refine iteF ⟨_, rfl, _, _, rfl, rfl, _, rfl, ?_⟩
    have n1 := ok.n1
    rw [decide_eq_false (show ¬ (d.n : Int) < 1 by omega)]
    refine iteF ⟨_, rfl, .inl ⟨_, rfl, _, rfl, ?_⟩⟩
    rw [decide_eq_true (show (d.p : Int) ≥ 0 by omega)]
    refine iteF ⟨_, rfl, rd, d.r, rfl, hr1, by have := ok.len; omega, ok.asc, fun G1 s1 => ⟨true, rfl, iteT ?_⟩⟩
    refine ⟨_, rfl, _, rfl, rd, _, rfl, Or.inl (SqL.of (s1 _ _ hr1)), rfl, flat_nums _, ?_⟩
    rw [inV_nums ok.own]
    refine ⟨true, rfl, iteT ?_⟩
    exact ⟨_, rfl, tw, d.w, rfl, hw.same s1, ok.w, ok.sz, fun G2 s2 => k G2 (s1.trans s2)⟩
abbrev s_are_deeds : Stmt := top 20
abbrev N_are_deeds : List Str := ["value", "deed"]
theorem sc_are_deeds : FnScope N_are_deeds ["value"] (defScope s_are_deeds) := ⟨rfl, rfl, rfl, by decide +kernel, rfl, by decide +kernel, by decide +kernel⟩
theorem ok_are_deeds {f : Addr} {fd : FuncData} (F : FnP K "are_deeds" s_are_deeds f fd) (Z : FreeS mg)
    {f_ascends : Addr} {d_ascends : FuncData} (g_ascends : mg "ascends" = some (.ref f_ascends)) (F_ascends : FnP K "ascends" s_ascends f_ascends d_ascends) (G_ascends : FnOk P w K mg base CX0 1 f_ascends d_ascends ["values"] spAsc)
    {f_is_deed : Addr} {d_is_deed : FuncData} (g_is_deed : mg "is_deed" = some (.ref f_is_deed)) (F_is_deed : FnP K "is_deed" s_is_deed f_is_deed d_is_deed) (G_is_deed : FnOk P w K mg base CX0 4 f_is_deed d_is_deed ["value"] spDeed) :
    FnOk P w K mg base CX0 5 f fd ["value"] spDeeds := by
  have b_ascends : Binds K d_ascends ["values"] [] := F_ascends.bindsN fun _ _ _ _ _ _ us hl => match us, hl with | [_], _ => rfl
  have b_is_deed : Binds K d_is_deed ["value"] [] := F_is_deed.bindsN fun _ _ _ _ _ _ us hl => match us, hl with | [_], _ => rfl
  refine F.ok sc_are_deeds (fun vs H Q E h => ?_) (fun cdv A outer s H vs Q E hr h => ?_)
  · obtain ⟨a, ds, rfl, _⟩ := h
    rfl
  · obtain ⟨a, ds, rfl, hL, hG, k⟩ := h
    obtain ⟨xs, ha, lx, hx⟩ := id hL
    have l60 := hG.len
    have nd := sc_are_deeds.nd
    refine ⟨_, PSs.nox (pss_cons (ps_if (PW.pt (pw_or (pt_not (pt_val (pe_callB call_isi (by rfl) Z.isi (by decide +kernel) (pa_cons (pv 0) (pa_cons (pe_bltn (v := .ty "list") (by rfl) Z.tlist (by decide +kernel) rfl) pa_nil))))) (pw_or1 (pt_not (pt_val (pe_callB (cr_all rfl) (by rfl) Z.all (by decide +kernel) (pa_cons (pe_lc (own := [("deed", 1)]) (g := gName 1) (tt := tYes) (te := tCall spDeed [] E0 (tCons (tVar 1) (tNil))) (by rfl) nd (pi_list (pv 0))
          (blkOk_by (own := [("deed", 1)]) (N := N_are_deeds) (sc := defScope s_are_deeds) (by decide +kernel)) (fun _ _ _ _ _ => pg_name (i := 1) nd rfl (Or.inl rfl)) (fun _ _ _ _ _ => pts_nil)
          (fun _ _ _ _ _ => pe_call G_is_deed (hr.mono (by decide)) rfl g_is_deed F_is_deed.kp b_is_deed .nil pass0 (pa_cons (pv 1) (pa_nil)))) (pa_nil)))))))) (pss_one (ps_ret (pe_bl))) (pss_nil))
      (pss_one (ps_ret (pe_call G_ascends (hr.mono (by decide)) rfl g_ascends F_ascends.kp b_ascends .nil pass0 (pa_cons (pe_lc (own := [("deed", 1)]) (g := gName 1) (tt := tYes) (te := tOp (rIxT K) (tVar 1) (tC (.int 0))) (by rfl) nd (pi_list (pv 0))
          (blkOk_by (own := [("deed", 1)]) (N := N_are_deeds) (sc := defScope s_are_deeds) (by decide +kernel)) (fun _ _ _ _ _ => pg_name (i := 1) nd rfl (Or.inl rfl)) (fun _ _ _ _ _ => pts_nil)
          (fun _ _ _ _ _ => pe_ix ix_tup (pv 1) (pe_int) (fun _ _ => rfl))) (pa_nil)))))), ?_⟩
    refine ⟨_, rfl, .ref a, .ty "list", .type "list", .type "list", true, rfl, .ty _, .base (.lst ha), kit_ty (by decide +kernel), true, rfl, iteF ?_⟩
    refine ⟨_, rfl, a, rfl, ⟨_, SqL.of ha⟩, fun D hD => ?_⟩
    refine lc_sel (walk_list (K := K) (a := a) (xs := xs)) (fun _ => some (.bl true)) (by omega) hD (fun H2 s2 => SqL.of (s2 _ _ ha)) ?_ ?_
    · rintro i v H2 H3 Qy Qn hi sH ⟨rfl, hv⟩ ky kn
      have hd : ds[i]? = some ds[i] := List.getElem?_eq_getElem (by omega)
      exact ⟨rfl, _, rfl, v, ds[i], rfl, (hx i v _ hv hd).same sH, hG.ok _ (List.getElem_mem _), fun G1 s1 => ky _ _ s1 rfl⟩
    · intro H2 s2 hR
      obtain ⟨bs, hB, hb⟩ := all_bits (K := K) hR
      refine ⟨D, bs, rfl, hB, ?_⟩
      rw [hb]
      refine ⟨true, rfl, iteF ?_⟩
      refine ⟨_, rfl, a, rfl, ⟨_, SqL.of (s2 _ _ ha)⟩, fun D2 hD2 => ?_⟩
      refine lc_sel (walk_list (K := K) (a := a) (xs := xs)) (fun i => (ds[i]?).map fun d => V.int (d.n : Int)) (by omega) hD2 (fun H3 s3 => SqL.of (s3 _ _ (s2 _ _ ha))) ?_ ?_
      · rintro i v H3 H4 Qy Qn hi sH ⟨rfl, hv⟩ ky kn
        have hd : ds[i]? = some ds[i] := List.getElem?_eq_getElem (by omega)
        obtain ⟨t, rd, tw, rfl, ht, _, _⟩ := (hx i v _ hv hd).same (s2.trans sH)
        refine ⟨rfl, _, rfl, t, _, 0, _, rfl, rfl, SqT.of ht, rfl, ky _ _ (Same.refl _) ?_⟩
        rw [hd]
        rfl
      · intro H3 s3 hR3
        have e : ((List.range xs.length).filterMap fun i => (ds[i]?).map fun d => V.int (d.n : Int)) = numsV (ds.map (·.n)) := by
          rw [lx]
          unfold numsV
          rw [List.map_map]
          exact fm_range ds _
        rw [e] at hR3
        exact ⟨D2, ds.map (·.n), rfl, hR3, by rw [List.length_map]; omega, List.pairwise_map.mpr hG.asc, fun H4 s4 => k H4 (s2.trans (s3.trans s4))⟩
abbrev s_need_deeds : Stmt := top 21
abbrev N_need_deeds : List Str := ["deeds"]
theorem sc_need_deeds : FnScope N_need_deeds ["deeds"] (defScope s_need_deeds) := ⟨rfl, rfl, rfl, by decide +kernel, rfl, by decide +kernel, by decide +kernel⟩
theorem ok_need_deeds {f : Addr} {fd : FuncData} (F : FnP K "need_deeds" s_need_deeds f fd) (Z : FreeS mg)
    {f_are_deeds : Addr} {d_are_deeds : FuncData} (g_are_deeds : mg "are_deeds" = some (.ref f_are_deeds)) (F_are_deeds : FnP K "are_deeds" s_are_deeds f_are_deeds d_are_deeds) (G_are_deeds : FnOk P w K mg base CX0 5 f_are_deeds d_are_deeds ["value"] spDeeds) :
    FnOk P w K mg base CX0 6 f fd ["deeds"] spNeedD := by
  have b_are_deeds : Binds K d_are_deeds ["value"] [] := F_are_deeds.bindsN fun _ _ _ _ _ _ us hl => match us, hl with | [_], _ => rfl
  refine F.ok sc_need_deeds (fun vs H Q E h => ?_) (fun cdv A outer s H vs Q E hr h => ?_)
  · obtain ⟨a, ds, rfl, _⟩ := h
    rfl
  · obtain ⟨a, ds, rfl, hL, hG, k⟩ := h
    have nd := sc_need_deeds.nd
    refine ⟨_, PSs.nox (pss_one (ps_if (pt_not (pt_val (pe_call G_are_deeds (hr.mono (by decide)) rfl g_are_deeds F_are_deeds.kp b_are_deeds .nil pass0 (pa_cons (pv 0) (pa_nil))))) (pss_one (ps_dead)) (pss_nil))), ?_⟩
    exact ⟨_, rfl, a, ds, rfl, hL, hG, fun G1 s1 => ⟨true, rfl, iteF (k G1 s1)⟩⟩
end
end K21
set_option Elab.async false
set_option linter.all false
set_option maxRecDepth 100000
set_option maxHeartbeats 8000000
namespace K21
open PySem PySem.Spec PyProof.Rows L2 KB
/-- told by the first i deeds -/
def memL (ds : List Dd) (i : Nat) (k : Int) : Prop := ∃ (j : Nat) (d : Dd) (p : Nat), j < i ∧ ds[j]? = some d ∧ p ∈ d.r ∧ k = (p : Int)
section
variable {P : Program} {w : World} {K : PySem.W.Frag} {mg : Str → Option Value} {base : Heap}
abbrev s_pages_of : Stmt := top 22
abbrev N_pages_of : List Str := ["deeds", "deed", "page"]
theorem sc_pages_of : FnScope N_pages_of ["deeds"] (defScope s_pages_of) := ⟨rfl, rfl, rfl, by decide +kernel, rfl, by decide +kernel, by decide +kernel⟩
theorem ok_pages_of {f : Addr} {fd : FuncData} (F : FnP K "pages_of" s_pages_of f fd) (Z : FreeS mg) :
    FnOk P w K mg base CX0 1 f fd ["deeds"] spPages := by
  refine F.ok sc_pages_of (fun vs H Q E h => ?_) (fun cdv A outer s H vs Q E hr h => ?_)
  · obtain ⟨a, ds, rfl, _⟩ := h
    rfl
  · obtain ⟨a, ds, rfl, hL, hG, k⟩ := h
    obtain ⟨xs, ha, lx, hx⟩ := id hL
    have l60 := hG.len
    have pl := hG.pl
    have nd := sc_pages_of.nd
    refine ⟨_, PSs.nox (pss_one (ps_ret (pe_callB (cr_sortedSet rfl) (by rfl) Z.sorted (by decide +kernel) (pa_cons (pe_sc2I (own := [("deed", 1), ("page", 2)]) (vs1 := [2]) (g := gName 1) (tt := tYes) (g1 := gName 2) (tt1 := tYes) (wi1 := iList K (tOp (rIxT K) (tVar 1) (tC (.int 2)))) (te := tVar 2) rfl nd (pi_list (pv 0)) (blkOk_by (own := [("deed", 1), ("page", 2)]) (N := N_pages_of) (sc := defScope s_pages_of) (by decide +kernel)) (by decide) (fun _ _ _ _ _ => pg_name (i := 1) nd rfl (Or.inl rfl)) (fun _ _ _ _ _ => pts_nil) (fun _ _ _ _ _ => pi_list (pe_ix ix_tup (pv 1) pe_int (fun _ _ => rfl))) (fun _ _ _ _ _ => pg_name (i := 2) nd rfl (Or.inl rfl)) (fun _ _ _ _ _ => pts_nil) (fun _ _ _ _ _ => pv 2)) pa_nil)))), ?_⟩
    have sb : (100 : Nat) ≤ scanBound := by decide
    refine ⟨_, rfl, a, rfl, ⟨_, SqL.of ha⟩, fun D hD => ?_⟩
    refine cl_walk (walk_list (K := K) (a := a) (xs := xs)) (fun i G => Same H G ∧ ∃ S : Int → Bool, G D = some (SetO w D S (cnt (pgs ds) S)) ∧ ∀ k : Int, S k = true ↔ memL ds i k)
      ⟨Same.updf hD, fun _ => false, by rw [upd_same, cnt_zero]; rfl, fun k => ⟨fun z => absurd z Bool.false_ne_true, fun ⟨j, _, _, z, _⟩ => absurd z (Nat.not_lt_zero _)⟩⟩ (fun i G _ hh => SqL.of (hh.1 _ _ ha)) ?_ ?_
    · rintro i x G G' hi ⟨sG, S, hS, mS⟩ ⟨rfl, hv⟩
      have hd : ds[i]? = some ds[i] := List.getElem?_eq_getElem (by omega)
      obtain ⟨t, rd, tw, rfl, ht, hr1, _⟩ := (hx i x _ hv hd).same sG
      refine ⟨rfl, ?_⟩
      refine ⟨_, rfl, t, _, 2, .ref rd, rfl, rfl, SqT.of ht, rfl, rd, rfl, ⟨_, SqL.of hr1⟩, ?_⟩
      refine cl_walk (walk_list (K := K) (a := rd) (xs := numsV ds[i].r)) (fun j G => Same H G ∧ G rd = some (.lst (numsV ds[i].r)) ∧ ∃ S : Int → Bool, G D = some (SetO w D S (cnt (pgs ds) S)) ∧ ∀ k : Int, S k = true ↔ memL ds i k ∨ ∃ p ∈ ds[i].r.take j, k = (p : Int))
        ⟨sG, hr1, S, hS, fun k => ⟨fun z => .inl ((mS k).mp z), fun z => z.elim (mS k).mpr fun ⟨p, hp, _⟩ => by simp at hp⟩⟩ (fun j G _ hh => SqL.of hh.2.1) ?_ ?_
      · rintro j y G2 G3 hj ⟨s2, h2, S2, hS2, m2⟩ ⟨rfl, hy⟩
        have lj : j < ds[i].r.length := by
          have := hj
          unfold numsV at this
          rw [List.length_map] at this
          exact this
        unfold numsV at hy
        rw [List.getElem?_map, List.getElem?_eq_getElem lj] at hy
        obtain rfl := Option.some.inj hy
        have mp : ds[i].r[j] ∈ pgs ds := pgs_mem.mpr ⟨ds[i], List.getElem_mem _, List.getElem_mem _⟩
        have cl := cnt_le (pgs ds) S2
        refine ⟨rfl, ?_⟩
        refine ⟨_, rfl, D, _, S2, _, rfl, rfl, hS2, by omega, ?_⟩
        refine ⟨fun b o e => ?_, ?_, fun j' => S2 j' || decide (j' = ((ds[i].r[j] : Nat) : Int)), ?_, fun k' => ?_⟩
        · rw [upd_ne (ne_of_none e hD)]
          exact s2 _ _ e
        · rw [upd_ne (fun z => ?_)]
          · exact h2
          · rw [z, hS2] at h2
            cases h2
        · rw [upd_same, cnt_add (pgs_asc ds) mp]
          rfl
        · rw [Bool.or_eq_true, m2 k', decide_eq_true_eq, List.take_succ, List.getElem?_eq_getElem lj]
          constructor
          · rintro ((z | ⟨p, hp, e⟩) | e)
            · exact .inl z
            · exact .inr ⟨p, List.mem_append_left _ hp, e⟩
            · exact .inr ⟨_, List.mem_append_right _ (by simp), e⟩
          · rintro (z | ⟨p, hp, e⟩)
            · exact .inl (.inl z)
            · rcases List.mem_append.mp hp with hp | hp
              · exact .inl (.inr ⟨p, hp, e⟩)
              · simp at hp
                rw [hp] at e
                exact .inr e
      · rintro G2 ⟨s2, h2, S2, hS2, m2⟩
        refine ⟨s2, S2, hS2, fun k' => ?_⟩
        rw [m2 k']
        have ln : (numsV ds[i].r).length = ds[i].r.length := List.length_map _
        rw [ln, List.take_length]
        constructor
        · rintro (⟨j, d, p, h1, h2, h3, h4⟩ | ⟨p, hp, e⟩)
          · exact ⟨j, d, p, by omega, h2, h3, h4⟩
          · exact ⟨i, _, p, by omega, hd, hp, e⟩
        · rintro ⟨j, d, p, h1, h2, h3, h4⟩
          by_cases e : j = i
          · rw [e, hd] at h2
            cases h2
            exact .inr ⟨p, h3, h4⟩
          · exact .inl ⟨j, d, p, by omega, h2, h3, h4⟩
    · rintro G ⟨sG, S, hS, mS⟩
      have cl := cnt_le (pgs ds) S
      refine ⟨D, S, _, rfl, hS, by omega, fun ns p asc mem _ hp => ?_⟩
      have e : ns = (pgs ds).map fun i : Nat => (i : Int) := by
        have nn : ∀ z ∈ ns, 0 ≤ z := fun z hz => by
          obtain ⟨j, d, p, _, _, _, rfl⟩ := (mS z).mp ((mem z).mp hz)
          exact Int.natCast_nonneg _
        have e1 : ns = (ns.map Int.toNat).map fun i : Nat => (i : Int) := by
          rw [List.map_map]
          refine (List.map_id ns).symm.trans (List.map_congr_left fun z hz => ?_)
          have := nn z hz
          show z = ((z.toNat : Nat) : Int)
          omega
        rw [e1]
        refine congrArg _ (asc_uniq ?_ (pgs_asc ds) fun x => ?_)
        · rw [List.pairwise_map]
          refine List.Pairwise.imp_of_mem (fun {a b} ha hb h => ?_) asc
          have := nn a ha
          have := nn b hb
          omega
        · rw [pgs_mem, List.mem_map]
          constructor
          · rintro ⟨z, hz, rfl⟩
            obtain ⟨j, d, p, _, h2, h3, rfl⟩ := (mS z).mp ((mem z).mp hz)
            exact ⟨d, List.mem_of_getElem? h2, by simpa using h3⟩
          · rintro ⟨d, hd, hx'⟩
            obtain ⟨j, lj, e⟩ := List.getElem_of_mem hd
            exact ⟨(x : Int), (mem _).mpr ((mS _).mpr ⟨j, d, x, by omega, by rw [← e]; exact List.getElem?_eq_getElem lj, hx', rfl⟩), by simp⟩
      refine k p _ (sG.trans (Same.updf hp)) (none_back sG hp) ?_
      rw [upd_same, e, List.map_map]
      rfl
end
end K21
set_option Elab.async false
set_option linter.all false
set_option maxRecDepth 100000
set_option maxHeartbeats 4000000
/-! Dictionaries from pages to things, and logs as functions. -/
namespace K21
open PySem PySem.Spec PyProof.Rows L2 KB
/-- a dictionary made over what a Walk tells -/
theorem dc_walk {J : It} {n : Nat} {G0 : Hp → Prop} {Y : Nat → Hp → V → Hp → Prop} {g : TG} {tt : TT} {tk tv : TE} {vs : List Nat} {σ : L2.St} {H1 : Hp} {D : Addr} {Z : Hp → Prop} (w : Walk J n G0 Y) (I : Nat → Hp → Prop) (h0 : I 0 (upd H1 D (.dK []))) (hp : ∀ i G, i ≤ n → I i G → G0 G)
    (turn : ∀ (i : Nat) (x : V) (G G' : Hp), i < n → I i G → Y i G x G' → g x (wipe σ vs) G' fun σ2 H2 => wipe σ2 vs = wipe σ vs ∧ tt σ2 H2 fun b H3 =>
      if b = true then tk σ2 H3 fun y H4 => tv σ2 H4 fun z H5 => ∃ kvs k, y = kV k ∧ H5 D = some (.dK kvs) ∧ kvs.length < sizeLine ∧ I (i + 1) (upd H5 D (.dK (putK kvs k z))) else I (i + 1) H3) (fin : ∀ G, I n G → Z G) :
    ∃ W : Nat → Nat → Hp → Prop, (∃ m, W 0 m (upd H1 D (.dK []))) ∧ ∀ i m H, W i m H → (J.stop i H ∧ Z H) ∨ (J.go i H ∧ ∃ Nx : Hp → Prop, (∀ H', Nx H' → ∃ m', m' < m ∧ W (i + 1) m' H') ∧ ∀ x H', J.yld i H x H' → g x (wipe σ vs) H' fun σ2 H2 => wipe σ2 vs = wipe σ vs ∧ tt σ2 H2 fun b H3 =>
      if b = true then tk σ2 H3 fun y H4 => tv σ2 H4 fun z H5 => ∃ kvs k, y = kV k ∧ H5 D = some (.dK kvs) ∧ kvs.length < sizeLine ∧ Nx (upd H5 D (.dK (putK kvs k z))) else Nx H3) := by
  refine ⟨fun i m G => m = n - i ∧ i ≤ n ∧ I i G, ⟨n, by simp, Nat.zero_le _, h0⟩, ?_⟩
  rintro i m G ⟨rfl, hi, z⟩
  by_cases lt : i < n
  · exact .inr ⟨w.goes i G lt (hp i G hi z), I (i + 1), fun G' z' => ⟨n - (i + 1), by omega, rfl, lt, z'⟩, fun x G' y => turn i x G G' lt z (w.yields i G x G' lt (hp i G hi z) y)⟩
  · obtain rfl : i = n := by omega
    exact .inl ⟨w.stops G (hp i G hi z), fin G z⟩
abbrev ky (p : Nat) : Key := Sum.inl (p : Int)
def dV (ps : List Nat) (f : Nat → V) : List (Key × V) := ps.map fun p => (ky p, f p)
theorem ky_inj {p q : Nat} : ky p = ky q ↔ p = q := by
  constructor
  · intro h
    have := Sum.inl.inj h
    omega
  · exact fun h => h ▸ rfl
theorem dV_len (ps : List Nat) (f : Nat → V) : (dV ps f).length = ps.length := List.length_map _
theorem dV_val {ps : List Nat} {f : Nat → V} {p : Nat} (h : p ∈ ps) : valV (dV ps f) (ky p) = some (f p) := by
  induction ps with
  | nil => cases h
  | cons q ps ih =>
    by_cases e : q = p
    · subst e
      exact valV_pos rfl
    · have h' : p ∈ ps := by
        rcases List.mem_cons.mp h with h | h
        · exact absurd h.symm e
        · exact h
      unfold valV at ih ⊢
      have ne : ¬ (ky q = ky p) := fun z => e (ky_inj.mp z)
      show ((dV (q :: ps) f).find? _).map _ = _
      unfold dV
      rw [List.map_cons, List.find?_cons_of_neg (by simpa using ne)]
      exact ih h'
theorem dV_none {ps : List Nat} {f : Nat → V} {p : Nat} (h : p ∉ ps) : valV (dV ps f) (ky p) = none := by
  unfold valV dV
  rw [Option.map_eq_none_iff, List.find?_eq_none]
  intro kv hkv
  obtain ⟨q, hq, rfl⟩ := List.mem_map.mp hkv
  intro z
  exact h (ky_inj.mp (of_decide_eq_true z) ▸ hq)
def put (f : Nat → V) (p : Nat) (v : V) : Nat → V := fun q => if q = p then v else f q
theorem dV_any {ps : List Nat} {f : Nat → V} {p : Nat} : ((dV ps f).any fun kv => decide (kv.1 = ky p)) = decide (p ∈ ps) := by
  unfold dV
  rw [List.any_map]
  by_cases h : p ∈ ps
  · rw [decide_eq_true h, List.any_eq_true]
    exact ⟨p, h, decide_eq_true rfl⟩
  · rw [decide_eq_false h, List.any_eq_false]
    intro q hq z
    exact h (ky_inj.mp (of_decide_eq_true z) ▸ hq)
theorem dV_put {ps : List Nat} {f : Nat → V} {p : Nat} {v : V} (h : p ∈ ps) : putK (dV ps f) (ky p) v = dV ps (put f p v) := by
  unfold putK
  rw [dV_any, decide_eq_true h, if_pos rfl]
  unfold dV
  rw [List.map_map]
  refine List.map_congr_left fun q hq => ?_
  show (if ky q = ky p then (ky q, v) else (ky q, f q)) = (ky q, put f p v q)
  unfold put
  by_cases e : q = p
  · rw [if_pos e, if_pos (ky_inj.mpr e)]
  · rw [if_neg e, if_neg fun z => e (ky_inj.mp z)]
theorem dV_new {ps : List Nat} {f : Nat → V} {p : Nat} {v : V} (h : p ∉ ps) : putK (dV ps f) (ky p) v = dV (ps ++ [p]) (put f p v) := by
  unfold putK
  rw [dV_any, decide_eq_false h, if_neg Bool.false_ne_true]
  unfold dV
  rw [List.map_append]
  refine congr (congrArg _ (List.map_congr_left fun q hq => ?_)) ?_
  · unfold put
    rw [if_neg (fun e : q = p => h (e ▸ hq))]
  · simp [put]
theorem dV_congr {ps : List Nat} {f g : Nat → V} (h : ∀ p ∈ ps, f p = g p) : dV ps f = dV ps g := List.map_congr_left fun p hp => by rw [h p hp]
/-- marks: a number for each page -/
abbrev mV (ps : List Nat) (m : Nat → Nat) : List (Key × V) := dV ps fun p => .int (m p : Int)
def putN (m : Nat → Nat) (p n : Nat) : Nat → Nat := fun q => if q = p then n else m q
theorem mV_put {ps : List Nat} {m : Nat → Nat} {p n : Nat} (h : p ∈ ps) : putK (mV ps m) (ky p) (.int (n : Int)) = mV ps (putN m p n) := by
  rw [dV_put h]
  refine dV_congr fun q _ => ?_
  unfold put putN
  by_cases e : q = p
  · rw [if_pos e, if_pos e]
  · rw [if_neg e, if_neg e]
/-- 0 and the numbers of the deeds that wrote a page -/
def nbp (ds : List Dd) (p : Nat) : List Nat := 0 :: (ds.filter fun d => decide (d.p = p)).map (·.n)
/-- what of a log is read wrong by marks: deeds and pages -/
def wr (ds : List Dd) (m : Nat → Nat) : List (Dd × Nat) := ds.flatMap fun d => if m d.p < d.n then (d.r.filter fun p => decide (d.n ≤ m p)).map fun p => (d, p) else []
theorem wr_mem {ds : List Dd} {m : Nat → Nat} {d : Dd} {p : Nat} : (d, p) ∈ wr ds m ↔ d ∈ ds ∧ m d.p < d.n ∧ p ∈ d.r ∧ d.n ≤ m p := by
  unfold wr
  rw [List.mem_flatMap]
  constructor
  · rintro ⟨e, he, h⟩
    by_cases c : m e.p < e.n
    · rw [if_pos c] at h
      obtain ⟨q, hq, z⟩ := List.mem_map.mp h
      obtain ⟨h1, h2⟩ := List.mem_filter.mp hq
      cases z
      exact ⟨he, c, h1, of_decide_eq_true h2⟩
    · rw [if_neg c] at h
      cases h
  · rintro ⟨hd, c, hp, h⟩
    refine ⟨d, hd, ?_⟩
    rw [if_pos c]
    exact List.mem_map.mpr ⟨p, List.mem_filter.mpr ⟨hp, decide_eq_true h⟩, rfl⟩
/-- right marks -/
def Rt (ds : List Dd) (m : Nat → Nat) : Prop := wr ds m = []
theorem rt_iff {ds : List Dd} {m : Nat → Nat} : Rt ds m ↔ ∀ d ∈ ds, m d.p < d.n → ∀ p ∈ d.r, m p < d.n := by
  unfold Rt
  rw [List.eq_nil_iff_forall_not_mem]
  constructor
  · intro h d hd c p hp
    have := h (d, p)
    rw [wr_mem] at this
    rcases Nat.lt_or_ge (m p) d.n with q | q
    · exact q
    · exact absurd ⟨hd, c, hp, q⟩ this
  · rintro h ⟨d, p⟩ z
    obtain ⟨hd, c, hp, q⟩ := wr_mem.mp z
    have := h d hd c p hp
    omega
/-- marks that pages can show -/
def Mk (ds : List Dd) (m : Nat → Nat) : Prop := ∀ p ∈ pgs ds, m p ∈ nbp ds p
end K21
set_option Elab.async false
set_option linter.all false
set_option maxRecDepth 100000
set_option maxHeartbeats 8000000
namespace K21
open PySem PySem.Spec PyProof.Rows L2 KB
/-- the numbers by pages, of the deeds of es, for the pages ps -/
structure NumsAt (G : Hp) (q : Addr) (ps : List Nat) (es : List Dd) (at_ : Nat → Addr) : Prop where
  d : G q = some (.dK (dV ps fun p => .ref (at_ p)))
  l : ∀ p ∈ ps, G (at_ p) = some (.lst (numsV (nbp es p)))
  inj : ∀ p ∈ ps, ∀ p' ∈ ps, at_ p = at_ p' → p = p'
theorem NumsAt.ne {G : Hp} {q : Addr} {ps : List Nat} {es : List Dd} {at_ : Nat → Addr} (h : NumsAt G q ps es at_) {p : Nat} (hp : p ∈ ps) : at_ p ≠ q := fun z => by
  have := h.l p hp
  rw [z, h.d] at this
  cases this
theorem NumsAt.same {G G' : Hp} {q : Addr} {ps : List Nat} {es : List Dd} {at_ : Nat → Addr} (k : Same G G') (h : NumsAt G q ps es at_) : NumsAt G' q ps es at_ := ⟨k _ _ h.d, fun p hp => k _ _ (h.l p hp), h.inj⟩
theorem nbp_len (es : List Dd) (p : Nat) : (nbp es p).length ≤ es.length + 1 := by
  unfold nbp
  rw [List.length_cons, List.length_map]
  have := List.length_filter_le (fun d : Dd => decide (d.p = p)) es
  omega
theorem nbp_snoc (es : List Dd) (d : Dd) (p : Nat) : nbp (es ++ [d]) p = if d.p = p then nbp es p ++ [d.n] else nbp es p := by
  unfold nbp
  rw [List.filter_append, List.map_append]
  by_cases e : d.p = p
  · rw [if_pos e, List.filter_cons, if_pos (decide_eq_true e)]
    rfl
  · rw [if_neg e, List.filter_cons, if_neg (by simpa using e)]
    simp
def spNums : Sp := fun vs H Q _ => ∃ (a : Addr) (ds : List Dd), vs = [.ref a] ∧ LogAt H a ds ∧ Lg ds ∧ ∀ q H' at_, Same H H' → H q = none → NumsAt H' q (pgs ds) ds at_ → (∀ p ∈ pgs ds, H (at_ p) = none) → Q (.ref q) H'
section
variable {P : Program} {w : World} {K : PySem.W.Frag} {mg : Str → Option Value} {base : Heap}
abbrev s_numbers_by_pages : Stmt := top 26
abbrev N_numbers_by_pages : List Str := ["deeds", "numbers", "deed", "page"]
theorem sc_numbers_by_pages : FnScope N_numbers_by_pages ["deeds"] (defScope s_numbers_by_pages) := ⟨rfl, rfl, rfl, by decide +kernel, rfl, by decide +kernel, by decide +kernel⟩
theorem ok_numbers_by_pages {f : Addr} {fd : FuncData} (F : FnP K "numbers_by_pages" s_numbers_by_pages f fd) (Z : FreeS mg)
    {f_pages_of : Addr} {d_pages_of : FuncData} (g_pages_of : mg "pages_of" = some (.ref f_pages_of)) (F_pages_of : FnP K "pages_of" s_pages_of f_pages_of d_pages_of) (G_pages_of : FnOk P w K mg base CX0 1 f_pages_of d_pages_of ["deeds"] spPages) :
    FnOk P w K mg base CX0 2 f fd ["deeds"] spNums := by
  have b_pages_of : Binds K d_pages_of ["deeds"] [] := F_pages_of.bindsN fun _ _ _ _ _ _ us hl => match us, hl with | [_], _ => rfl
  refine F.ok sc_numbers_by_pages (fun vs H Q E h => ?_) (fun cdv A outer s H vs Q E hr h => ?_)
  · obtain ⟨a, ds, rfl, _⟩ := h
    rfl
  · obtain ⟨a, ds, rfl, hL, hG, k⟩ := h
    obtain ⟨xs, ha, lx, hx⟩ := id hL
    have l60 := hG.len
    have pl := hG.pl
    have sl : (2000 : Nat) ≤ sizeLine := by decide
    have hu : (A.deeper (envOfC "numbers_by_pages" (defScope s_numbers_by_pages) s.heap.objs.size f cdv)).units + 1 < cLine := by
      have := hr.units
      omega
    have nd := sc_numbers_by_pages.nd
    refine ⟨_, PSs.nox (pss_cons (ps_setDc (i := 1) (own := [("page", 3)]) (g := gName 3) (tt := tYes) (tk := tVar 3) (tv := tLst (tCons (tC (.int 0)) tNil)) rfl nd rfl rfl rfl (pi_list (pe_call G_pages_of (hr.mono (by decide)) rfl g_pages_of F_pages_of.kp b_pages_of .nil pass0 (pa_cons (pv 0) pa_nil))) (blkOk_by (own := [("page", 3)]) (N := N_numbers_by_pages) (sc := defScope s_numbers_by_pages) (by decide +kernel)) (fun _ _ _ _ _ => pg_name (i := 3) nd rfl (Or.inl rfl)) (fun _ _ _ _ _ => pts_nil) (fun _ _ _ _ _ => pv 3) (fun _ _ _ _ _ => pe_lst (pa_cons pe_int pa_nil)))
      (pss_cons (ps_for PassesOwn.never rfl (pi_list (pv 0)) (pg_name (i := 2) nd rfl (Or.inl rfl))
        (pss_one (ps_expr (pe_bm PySem.F.plainAttrs_list PySem.F.slot_list_append PySem.F.type_list_append mt_append (pe_dget hu (pv 1) (pe_ix ix_tup (pv 2) pe_int (fun _ _ => rfl)) (fun _ _ => rfl)) (pa_cons (pe_ix ix_tup (pv 2) (pe_int) (fun _ _ => rfl)) (pa_nil))))))
      (pss_one (ps_ret (pv 1))))), ?_⟩
    refine ⟨_, rfl, a, ds, rfl, hL, hG, fun pq H1 s1 npq hpq => ?_⟩
    refine ⟨pq, rfl, ⟨_, SqL.of hpq⟩, fun D hD => ?_⟩
    have nD : D ≠ pq := fun z => by
      rw [z, hpq] at hD
      cases hD
    refine dc_walk (walk_list (K := K) (a := pq) (xs := numsV (pgs ds))) (fun i G => Same H1 G ∧ ∃ at_ : Nat → Addr, NumsAt G D ((pgs ds).take i) [] at_ ∧ ∀ p ∈ (pgs ds).take i, H1 (at_ p) = none)
      ⟨Same.updf hD, fun _ => D, ⟨upd_same, fun p hp => by simp at hp, fun p hp => by simp at hp⟩, fun p hp => by simp at hp⟩ (fun i G _ hh => SqL.of (hh.1 _ _ hpq)) ?_ ?_
    · rintro i x G G' hi ⟨sG, at_, hN, nw⟩ ⟨rfl, hv⟩
      have li : i < (pgs ds).length := by
        have := hi
        unfold numsV at this
        rw [List.length_map] at this
        exact this
      unfold numsV at hv
      rw [List.getElem?_map, List.getElem?_eq_getElem li] at hv
      obtain rfl := Option.some.inj hv
      have np : (pgs ds)[i] ∉ (pgs ds).take i := fun m => by
        obtain ⟨j, lj, e⟩ := List.getElem_of_mem m
        rw [List.getElem_take] at e
        rw [List.length_take] at lj
        have := List.pairwise_iff_getElem.mp (pgs_asc ds) j i (by omega) li (by omega)
        omega
      have nep : ∀ p ∈ (pgs ds).take i, ¬ p = (pgs ds)[i] := fun p hp z => np (by rw [← z]; exact hp)
      refine ⟨rfl, ?_⟩
      refine ⟨_, rfl, ?_⟩
      refine ⟨(by show 1 ≤ sizeLine; omega), fun l hl => ?_⟩
      have nl : l ≠ D := fun z => by
        rw [z, hN.d] at hl
        cases hl
      have sl1 : Same G' (upd G' l (.lst [.int 0])) := Same.updf hl
      refine ⟨_, ky (pgs ds)[i], rfl, sl1 _ _ hN.d, by rw [dV_len, List.length_take]; omega, ?_⟩
      rw [dV_new np]
      have tk : (pgs ds).take (i + 1) = (pgs ds).take i ++ [(pgs ds)[i]] := by
        rw [List.take_succ, List.getElem?_eq_getElem li]
        rfl
      refine ⟨fun b o e => ?_, fun p => if p = (pgs ds)[i] then l else at_ p, ?_, ?_⟩
      · rw [upd_ne (ne_of_none e hD)]
        exact sl1 _ _ (sG _ _ e)
      · rw [tk]
        refine ⟨?_, fun p hp => ?_, fun p hp p' hp' e => ?_⟩
        · rw [upd_same]
          refine congrArg (fun z => some (HO.dK z)) (dV_congr fun p hp => ?_)
          unfold put
          split
          · rfl
          · rfl
        · rcases List.mem_append.mp hp with hp | hp
          · show (upd _ D _) (if p = (pgs ds)[i] then l else at_ p) = _
            rw [if_neg (nep p hp), upd_ne (hN.ne hp)]
            exact sl1 _ _ (hN.l p hp)
          · rw [List.mem_singleton] at hp
            show (upd _ D _) (if p = (pgs ds)[i] then l else at_ p) = _
            rw [if_pos hp, upd_ne nl, upd_same]
            rfl
        · have lo : ∀ z, z ∈ (pgs ds).take i → at_ z ≠ l := fun z hz q => by
            have := hN.l z hz
            rw [q, hl] at this
            cases this
          have e : (if p = (pgs ds)[i] then l else at_ p) = (if p' = (pgs ds)[i] then l else at_ p') := e
          rcases List.mem_append.mp hp with hp | hp <;> rcases List.mem_append.mp hp' with hp' | hp'
          · rw [if_neg (nep p hp), if_neg (nep p' hp')] at e
            exact hN.inj p hp p' hp' e
          · rw [List.mem_singleton] at hp'
            rw [if_neg (nep p hp), if_pos hp'] at e
            exact absurd e (lo p hp)
          · rw [List.mem_singleton] at hp
            rw [if_pos hp, if_neg (nep p' hp')] at e
            exact absurd e.symm (lo p' hp')
          · rw [List.mem_singleton] at hp hp'
            rw [hp, hp']
      · rw [tk]
        intro p hp
        rcases List.mem_append.mp hp with hp | hp
        · show H1 (if p = (pgs ds)[i] then l else at_ p) = none
          rw [if_neg (nep p hp)]
          exact nw p hp
        · rw [List.mem_singleton] at hp
          show H1 (if p = (pgs ds)[i] then l else at_ p) = none
          rw [if_pos hp]
          exact none_back sG hl
    · rintro G ⟨sG, at_, hN, nw⟩
      have ln : (numsV (pgs ds)).length = (pgs ds).length := List.length_map _
      rw [ln, List.take_length] at hN nw
      have sHG := s1.trans sG
      refine ⟨_, rfl, a, rfl, ⟨_, SqL.of (sHG _ _ ha)⟩, ?_⟩
      refine for_list (xs := xs) (fun i σ G2 => Same H1 G2 ∧ NumsAt G2 D (pgs ds) (ds.take i) at_ ∧ ∃ v v3, σ = [some (.ref a), some (.ref D), v, v3]) ⟨sG, hN, _, _, rfl⟩ (fun i σ G2 _ hh => SqL.of (hh.1 _ _ (s1 _ _ ha))) ?_ ?_
      · rintro i y σ G2 hy ⟨s2, h2, v, v3, rfl⟩
        have li : i < ds.length := by
          rw [← lx]
          exact (List.getElem?_eq_some_iff.mp hy).1
        have hd : ds[i]? = some ds[i] := List.getElem?_eq_getElem li
        obtain ⟨t, rd, tw, rfl, ht, hr1, _⟩ := (hx i y _ hy hd).same (s1.trans s2)
        have mp : ds[i].p ∈ pgs ds := pgs_mem.mpr ⟨ds[i], List.getElem_mem _, (hG.ok _ (List.getElem_mem _)).own⟩
        have gl := h2.l _ mp
        refine ⟨_, rfl, _, rfl, t, _, 1, _, rfl, rfl, SqT.of ht, rfl, D, .ref (at_ ds[i].p), rfl, (by
          have := DGet.k (k := ky ds[i].p) h2.d
          rw [dV_val mp] at this
          exact this), ?_⟩
        refine ⟨.inl ⟨rfl, _, SqL.of gl⟩, ?_⟩
        refine ⟨_, rfl, t, _, 0, _, rfl, rfl, SqT.of ht, rfl, ?_⟩
        have nl := nbp_len (ds.take i) ds[i].p
        rw [List.length_take] at nl
        refine ⟨_, _, _, rfl, rfl, gl, by unfold numsV; rw [List.length_map]; omega, ?_⟩
        have tk : ds.take (i + 1) = ds.take i ++ [ds[i]] := by
          rw [List.take_succ, hd]
          rfl
        refine ⟨fun b o e => ?_, ⟨?_, fun p hp => ?_, h2.inj⟩, _, _, rfl⟩
        · rw [upd_ne (fun z => ?_)]
          · exact s2 _ _ e
          · rw [z, nw _ mp] at e
            cases e
        · rw [upd_ne (h2.ne mp).symm]
          exact h2.d
        · rw [tk, nbp_snoc]
          by_cases e : ds[i].p = p
          · subst e
            rw [if_pos rfl, upd_same]
            unfold numsV
            rw [List.map_append]
            rfl
          · rw [if_neg e, upd_ne fun z => e (h2.inj _ hp _ mp z).symm]
            exact h2.l p hp
      · rintro σ G2 ⟨s2, h2, v, v3, rfl⟩
        rw [lx, List.take_length] at h2
        exact ⟨_, rfl, k D G2 at_ (s1.trans s2) (none_back s1 hD) h2 fun p hp => none_back s1 (nw p hp)⟩
end
end K21
set_option Elab.async false
set_option linter.all false
set_option maxRecDepth 100000
set_option maxHeartbeats 8000000
namespace K21
open PySem PySem.Spec PyProof.Rows L2 KB
theorem inV_iff {ns : List Nat} {p : Nat} : inV (.int (p : Int)) (numsV ns) = decide (p ∈ ns) := by
  by_cases h : p ∈ ns
  · rw [inV_nums h, decide_eq_true h]
  · rw [decide_eq_false h]
    unfold inV numsV
    rw [List.any_eq_false]
    intro x hx z
    obtain ⟨i, hi, rfl⟩ := List.mem_map.mp hx
    have : i = p := by
      have q : (i : Int) = (p : Int) := by simpa [eqV] using z
      omega
    exact h (this ▸ hi)
/-- marks at b: a number for each of the pages ks -/
def MkAt (H : Hp) (b : Addr) (ks : List Nat) (m : Nat → Nat) : Prop := H b = some (.dK (mV ks m))
def spAreS : Sp := fun vs H Q _ => ∃ (a b : Addr) (ds : List Dd) (ks : List Nat) (m : Nat → Nat), vs = [.ref a, .ref b] ∧ LogAt H a ds ∧ Lg ds ∧ MkAt H b ks m ∧ ks.Perm (pgs ds) ∧ Mk ds m ∧ ∀ H', Same H H' → Q (.bl true) H'
def spNeedS : Sp := fun vs H Q _ => ∃ (a b : Addr) (ds : List Dd) (ks : List Nat) (m : Nat → Nat), vs = [.ref a, .ref b] ∧ LogAt H a ds ∧ Lg ds ∧ MkAt H b ks m ∧ ks.Perm (pgs ds) ∧ Mk ds m ∧ ∀ H', Same H H' → Q .non H'
section
variable {P : Program} {w : World} {K : PySem.W.Frag} {mg : Str → Option Value} {base : Heap}
abbrev s_are_stamps : Stmt := top 27
abbrev N_are_stamps : List Str := ["deeds", "value", "numbers", "page", "stamp"]
theorem sc_are_stamps : FnScope N_are_stamps ["deeds", "value"] (defScope s_are_stamps) := ⟨rfl, rfl, rfl, by decide +kernel, rfl, by decide +kernel, by decide +kernel⟩
theorem ok_are_stamps {f : Addr} {fd : FuncData} (F : FnP K "are_stamps" s_are_stamps f fd) (Z : FreeS mg)
    {f_need_deeds : Addr} {d_need_deeds : FuncData} (g_need_deeds : mg "need_deeds" = some (.ref f_need_deeds)) (F_need_deeds : FnP K "need_deeds" s_need_deeds f_need_deeds d_need_deeds) (G_need_deeds : FnOk P w K mg base CX0 6 f_need_deeds d_need_deeds ["deeds"] spNeedD)
    {f_numbers_by_pages : Addr} {d_numbers_by_pages : FuncData} (g_numbers_by_pages : mg "numbers_by_pages" = some (.ref f_numbers_by_pages)) (F_numbers_by_pages : FnP K "numbers_by_pages" s_numbers_by_pages f_numbers_by_pages d_numbers_by_pages) (G_numbers_by_pages : FnOk P w K mg base CX0 2 f_numbers_by_pages d_numbers_by_pages ["deeds"] spNums)
    {f_is_count : Addr} {d_is_count : FuncData} (g_is_count : mg "is_count" = some (.ref f_is_count)) (F_is_count : FnP K "is_count" s_is_count f_is_count d_is_count) (G_is_count : FnOk P w K mg base CX0 2 f_is_count d_is_count ["value"] spCount) :
    FnOk P w K mg base CX0 7 f fd ["deeds", "value"] spAreS := by
  have b_need_deeds : Binds K d_need_deeds ["deeds"] [] := F_need_deeds.bindsN fun _ _ _ _ _ _ us hl => match us, hl with | [_], _ => rfl
  have b_numbers_by_pages : Binds K d_numbers_by_pages ["deeds"] [] := F_numbers_by_pages.bindsN fun _ _ _ _ _ _ us hl => match us, hl with | [_], _ => rfl
  have b_is_count : Binds K d_is_count ["value"] [] := F_is_count.bindsN fun _ _ _ _ _ _ us hl => match us, hl with | [_], _ => rfl
  refine F.ok sc_are_stamps (fun vs H Q E h => ?_) (fun cdv A outer s H vs Q E hr h => ?_)
  · obtain ⟨a, b, ds, ks, m, rfl, _⟩ := h
    rfl
  · obtain ⟨a, b, ds, ks, m, rfl, hL, hG, hb, pk, hm, k⟩ := h
    have pl := hG.pl
    have l60 := hG.len
    have sl : (2000 : Nat) ≤ sizeLine := by decide
    have hu : (A.deeper (envOfC "are_stamps" (defScope s_are_stamps) s.heap.objs.size f cdv)).units + 1 < cLine := by
      have := hr.units
      omega
    have nd := sc_are_stamps.nd
    refine ⟨_, PSs.nox (pss_cons (ps_expr (pe_call G_need_deeds (hr.mono (by decide)) rfl g_need_deeds F_need_deeds.kp b_need_deeds .nil pass0 (pa_cons (pv 0) (pa_nil))))
      (pss_cons (ps_set (i := 2) nd rfl (Or.inl rfl) (pe_call G_numbers_by_pages (hr.mono (by decide)) rfl g_numbers_by_pages F_numbers_by_pages.kp b_numbers_by_pages .nil pass0 (pa_cons (pv 0) (pa_nil))))
      (pss_cons (ps_if (PW.pt (pw_or (pt_not (pt_val (pe_callB call_isi (by rfl) Z.isi (by decide +kernel) (pa_cons (pv 1) (pa_cons (pe_bltn (v := .ty "dict") (by rfl) Z.tdict (by decide +kernel) rfl) pa_nil))))) (pw_or1 (pt_cmpR op_ne (pe_callB call_lenD (by rfl) Z.len (by decide +kernel) (pa_cons (pv 1) (pa_nil))) (pe_callB call_lenD (by rfl) Z.len (by decide +kernel) (pa_cons (pv 2) (pa_nil))) (nomark _))))) (pss_one (ps_ret (pe_bl))) (pss_nil))
      (pss_cons (ps_lock (ps_for PassesOwn.never rfl (pi_items (pv 1)) (pg_tup rfl (pgs_cons (pg_name (i := 3) nd rfl (Or.inl rfl)) (pgs_cons (pg_name (i := 4) nd rfl (Or.inl rfl)) (pgs_nil))))
        (pss_cons (ps_if (PW.pt (pw_or (pt_not (pt_val (pe_call G_is_count (hr.mono (by decide)) rfl g_is_count F_is_count.kp b_is_count .nil pass0 (pa_cons (pv 3) (pa_nil))))) (pw_or1 (pt_cmp (pc_dnotin hu (pv 3) (pv 2)))))) (pss_one (ps_ret (pe_bl))) (pss_nil))
      (pss_one (ps_if (PW.pt (pw_or (pt_not (pt_val (pe_call G_is_count (hr.mono (by decide)) rfl g_is_count F_is_count.kp b_is_count .nil pass0 (pa_cons (pv 4) (pa_nil))))) (pw_or1 (pt_cmpR op_notIn_seq (pv 4) (pe_dget hu (pv 2) (pv 3) (fun _ _ => rfl)) (by rfl))))) (pss_one (ps_ret (pe_bl))) (pss_nil))))))
      (pss_one (ps_ret (pe_bl))))))), ?_⟩
    refine ⟨_, rfl, a, ds, rfl, hL, hG, fun G1 s1 => ?_⟩
    refine ⟨_, rfl, a, ds, rfl, hL.same s1, hG, fun q G2 at_ s2 nq hN _ => ?_⟩
    have s12 := s1.trans s2
    have hb2 : G2 b = some (.dK (mV ks m)) := s12 _ _ hb
    have lk : ks.length = (pgs ds).length := pk.length_eq
    refine ⟨_, rfl, .ref b, .ty "dict", .type "dict", .type "dict", true, rfl, .ty _, .base (.dK hb2), kit_ty (by decide +kernel), true, rfl, iteF ?_⟩
    refine ⟨_, rfl, b, _, rfl, hb2, _, rfl, q, _, rfl, hN.d, rfl, ?_⟩
    rw [dV_len, dV_len, lk]
    refine ⟨_, rfl, ?_⟩
    rw [decide_eq_true rfl]
    refine iteF ?_
    have nbq : b ≠ q := ne_of_none (s1 _ _ hb) nq
    refine ⟨b, _, hb2, trivial, fun od => ?_⟩
    have lkk : (mV ks m).length = ks.length := dV_len _ _
    refine ⟨_, rfl, ?_⟩
    refine ⟨_, od, _, rfl, upd_same, ?_⟩
    refine for_it (walk_items (d := b) (o := od) (kvs := mV ks m)) (fun i σ G => G b = some (.frz od (.dK (mV ks m))) ∧ (∀ c o, c ≠ b → G2 c = some o → G c = some o) ∧ ∃ v3 v4, σ = [some (.ref a), some (.ref b), some (.ref q), v3, v4])
      ⟨upd_same, fun c o ne e => by rw [upd_ne ne]; exact e, _, _, rfl⟩ (fun i σ G _ hh => hh.1) ?_ ?_
    · rintro i x σ G G' hi ⟨gb, keep, v3, v4, rfl⟩ ⟨T, y1, y2, rfl, nT, rfl, e1, e2⟩
      have li : i < ks.length := by
        rw [← lkk]
        exact hi
      have ei : (mV ks m)[i]? = some (ky ks[i], .int (m ks[i] : Int)) := by
        unfold mV dV
        rw [List.getElem?_map, List.getElem?_eq_getElem li]
        rfl
      dsimp only at e1 e2
      rw [ei] at e1 e2
      obtain rfl := Option.some.inj e1
      obtain rfl := Option.some.inj e2
      have mp : ks[i] ∈ pgs ds := pk.mem_iff.mp (List.getElem_mem _)
      have sT : Same G (upd G T (.tup [.int (ks[i] : Int), .int (m ks[i] : Int)])) := Same.updf nT
      have up : ∀ c o, c ≠ b → G2 c = some o → (upd G T (.tup [.int (ks[i] : Int), .int (m ks[i] : Int)])) c = some o := fun c o ne e => sT _ _ (keep c o ne e)
      have gd := up q _ nbq.symm hN.d
      have gl := up (at_ ks[i]) _ (fun z => by
        have := hN.l _ mp
        rw [z, hb2] at this
        cases this) (hN.l _ mp)
      refine ⟨T, [_, _], rfl, .inl (.inl upd_same), rfl, _, [_], rfl, _, [], rfl, rfl, ?_⟩
      refine ⟨_, rfl, .inl ⟨_, rfl, _, rfl, ?_⟩⟩
      rw [decide_eq_true (show (ks[i] : Int) ≥ 0 by omega)]
      have dg : DGet (upd G T (.tup [.int (ks[i] : Int), .int (m ks[i] : Int)])) q (.int (ks[i] : Int)) (some (.ref (at_ ks[i]))) := by
        have := DGet.k (k := ky ks[i]) gd
        rw [dV_val mp] at this
        exact this
      refine iteF ⟨_, rfl, _, rfl, q, _, rfl, dg, _, rfl, iteF ?_⟩
      refine ⟨_, rfl, .inl ⟨_, rfl, _, rfl, ?_⟩⟩
      rw [decide_eq_true (show (m ks[i] : Int) ≥ 0 by omega)]
      refine iteF ⟨_, rfl, _, rfl, _, rfl, q, _, rfl, dg, _, _, rfl, Or.inl (SqL.of gl), rfl, flat_nums _, ?_⟩
      rw [inV_nums (hm _ mp)]
      exact ⟨_, rfl, iteF ⟨sT _ _ gb, up, _, _, rfl⟩⟩
    · rintro σ G ⟨gb, keep, v3, v4, rfl⟩
      refine ⟨gb, k _ fun c o e => ?_⟩
      by_cases z : c = b
      · subst z
        rw [upd_same, ← hb2]
        exact (s12 _ _ e)
      · rw [upd_ne z]
        exact keep c o z (s12 _ _ e)
abbrev s_need_stamps : Stmt := top 28
abbrev N_need_stamps : List Str := ["deeds", "stamps"]
theorem sc_need_stamps : FnScope N_need_stamps ["deeds", "stamps"] (defScope s_need_stamps) := ⟨rfl, rfl, rfl, by decide +kernel, rfl, by decide +kernel, by decide +kernel⟩
theorem ok_need_stamps {f : Addr} {fd : FuncData} (F : FnP K "need_stamps" s_need_stamps f fd) (Z : FreeS mg)
    {f_are_stamps : Addr} {d_are_stamps : FuncData} (g_are_stamps : mg "are_stamps" = some (.ref f_are_stamps)) (F_are_stamps : FnP K "are_stamps" s_are_stamps f_are_stamps d_are_stamps) (G_are_stamps : FnOk P w K mg base CX0 7 f_are_stamps d_are_stamps ["deeds", "value"] spAreS) :
    FnOk P w K mg base CX0 8 f fd ["deeds", "stamps"] spNeedS := by
  have b_are_stamps : Binds K d_are_stamps ["deeds", "value"] [] := F_are_stamps.bindsN fun _ _ _ _ _ _ us hl => match us, hl with | [_, _], _ => rfl
  refine F.ok sc_need_stamps (fun vs H Q E h => ?_) (fun cdv A outer s H vs Q E hr h => ?_)
  · obtain ⟨a, b, ds, ks, m, rfl, _⟩ := h
    rfl
  · obtain ⟨a, b, ds, ks, m, rfl, hL, hG, hb, pk, hm, k⟩ := h
    have nd := sc_need_stamps.nd
    refine ⟨_, PSs.nox (pss_one (ps_if (pt_not (pt_val (pe_call G_are_stamps (hr.mono (by decide)) rfl g_are_stamps F_are_stamps.kp b_are_stamps .nil pass0 (pa_cons (pv 0) (pa_cons (pv 1) (pa_nil)))))) (pss_one (ps_dead)) (pss_nil))), ?_⟩
    exact ⟨_, rfl, _, rfl, a, b, ds, ks, m, rfl, hL, hG, hb, pk, hm, fun G1 s1 => ⟨true, rfl, iteF (k G1 s1)⟩⟩
end
end K21
set_option Elab.async false
set_option linter.all false
set_option maxRecDepth 100000
set_option maxHeartbeats 8000000
namespace K21
open PySem PySem.Spec PyProof.Rows L2 KB
/-- y is the pair of a deed and a page -/
def PairAt (G : Hp) (y : V) (w : Dd × Nat) : Prop := ∃ (t : Addr) (x : V), y = .ref t ∧ G t = some (.tup [x, .int (w.2 : Int)]) ∧ DeedAt G x w.1
theorem PairAt.same {G G' : Hp} {y : V} {w : Dd × Nat} (k : Same G G') (h : PairAt G y w) : PairAt G' y w := by
  obtain ⟨t, x, e, h1, h2⟩ := h
  exact ⟨t, x, e, k _ _ h1, h2.same k⟩
def Pairs (G : Hp) (ys : List V) (ws : List (Dd × Nat)) : Prop := ys.length = ws.length ∧ ∀ (i : Nat) (y : V) (w : Dd × Nat), ys[i]? = some y → ws[i]? = some w → PairAt G y w
theorem Pairs.same {G G' : Hp} {ys : List V} {ws : List (Dd × Nat)} (k : Same G G') (h : Pairs G ys ws) : Pairs G' ys ws := ⟨h.1, fun i y w e1 e2 => (h.2 i y w e1 e2).same k⟩
theorem Pairs.nil (G : Hp) : Pairs G [] [] := ⟨rfl, fun i y w e _ => by simp at e⟩
theorem Pairs.app {G : Hp} {ys zs : List V} {ws us : List (Dd × Nat)} (h : Pairs G ys ws) (k : Pairs G zs us) : Pairs G (ys ++ zs) (ws ++ us) := by
  refine ⟨by rw [List.length_append, List.length_append, h.1, k.1], fun i y w e1 e2 => ?_⟩
  by_cases hi : i < ys.length
  · rw [List.getElem?_append_left hi] at e1
    rw [List.getElem?_append_left (show i < ws.length from h.1 ▸ hi)] at e2
    exact h.2 i y w e1 e2
  · have l1 := h.1
    rw [List.getElem?_append_right (by omega)] at e1 e2
    rw [← h.1] at e2
    exact k.2 _ y w e1 e2
theorem Pairs.one {G : Hp} {y : V} {w : Dd × Nat} (h : PairAt G y w) : Pairs G [y] [w] := ⟨rfl, fun i u v e1 e2 => by
  match i, e1, e2 with
  | 0, e1, e2 =>
    cases e1
    cases e2
    exact h⟩
/-- what of one deed is read wrong, of its first j pages -/
def wr1 (d : Dd) (m : Nat → Nat) (j : Nat) : List (Dd × Nat) := ((d.r.take j).filter fun p => decide (d.n ≤ m p)).map fun p => (d, p)
theorem wr1_len (d : Dd) (m : Nat → Nat) (j : Nat) : (wr1 d m j).length ≤ d.r.length := by
  unfold wr1
  rw [List.length_map]
  refine Nat.le_trans (List.length_filter_le _ _) ?_
  rw [List.length_take]
  omega
theorem wr_take {ds : List Dd} {m : Nat → Nat} {i : Nat} {d : Dd} (h : ds[i]? = some d) : wr (ds.take (i + 1)) m = wr (ds.take i) m ++ if m d.p < d.n then wr1 d m d.r.length else [] := by
  rw [List.take_succ, h]
  unfold wr
  rw [List.flatMap_append]
  simp [wr1]
theorem wr_len {ds : List Dd} (h : ∀ d ∈ ds, d.r.length ≤ 20) (m : Nat → Nat) : (wr ds m).length ≤ 20 * ds.length := by
  induction ds with
  | nil => simp [wr]
  | cons d ds ih =>
    have h1 := ih fun e he => h e (List.mem_cons_of_mem _ he)
    have h2 := h d List.mem_cons_self
    have h3 := wr1_len d m d.r.length
    have e : wr (d :: ds) m = (if m d.p < d.n then wr1 d m d.r.length else []) ++ wr ds m := by
      unfold wr wr1
      rw [List.flatMap_cons, List.take_length]
    rw [e, List.length_append, List.length_cons]
    split
    · omega
    · rw [List.length_nil]
      omega
def spWrong : Sp := fun vs H Q _ => ∃ (a b : Addr) (ds : List Dd) (ks : List Nat) (m : Nat → Nat), vs = [.ref a, .ref b] ∧ LogAt H a ds ∧ Lg ds ∧ MkAt H b ks m ∧ ks.Perm (pgs ds) ∧
  ∀ q H' ys, Same H H' → H q = none → H' q = some (.lst ys) → Pairs H' ys (wr ds m) → Q (.ref q) H'
section
variable {P : Program} {w : World} {K : PySem.W.Frag} {mg : Str → Option Value} {base : Heap}
abbrev s_wrong_reads : Stmt := top 30
abbrev N_wrong_reads : List Str := ["deeds", "stamps", "found", "deed", "page"]
theorem sc_wrong_reads : FnScope N_wrong_reads ["deeds", "stamps"] (defScope s_wrong_reads) := ⟨rfl, rfl, rfl, by decide +kernel, rfl, by decide +kernel, by decide +kernel⟩
theorem ok_wrong_reads {f : Addr} {fd : FuncData} (F : FnP K "wrong_reads" s_wrong_reads f fd) (Z : FreeS mg) :
    FnOk P w K mg base CX0 1 f fd ["deeds", "stamps"] spWrong := by
  refine F.ok sc_wrong_reads (fun vs H Q E h => ?_) (fun cdv A outer s H vs Q E hr h => ?_)
  · obtain ⟨a, b, ds, ks, m, rfl, _⟩ := h
    rfl
  · obtain ⟨a, b, ds, ks, m, rfl, hL, hG, hb, pk, k⟩ := h
    obtain ⟨xs, ha, lx, hx⟩ := id hL
    have l60 := hG.len
    have sl : (3000 : Nat) ≤ sizeLine := by decide
    have hu : (A.deeper (envOfC "wrong_reads" (defScope s_wrong_reads) s.heap.objs.size f cdv)).units + 1 < cLine := by
      have := hr.units
      omega
    have nd := sc_wrong_reads.nd
    refine ⟨_, PSs.nox (pss_cons (ps_set (i := 2) nd rfl (Or.inl rfl) (pe_lst (pa_nil)))
      (pss_cons (ps_for PassesOwn.never rfl (pi_list (pv 0)) (pg_name (i := 3) nd rfl (Or.inr rfl))
        (pss_one (ps_if (pt_cmpR op_lt (pe_dget hu (pv 1) (pe_ix ix_tup (pv 3) pe_int (fun _ _ => rfl)) (fun _ _ => rfl)) (pe_ix ix_tup (pv 3) (pe_int) (fun _ _ => rfl)) (nomark _)) (pss_one (ps_expr (pe_bm PySem.F.plainAttrs_list PySem.F.slot_list_extend PySem.F.type_list_extend mt_extend (pv 2) (pa_cons (pe_lc (own := [("page", 4)]) (g := gName 4) (tt := tTest (tOp (rI0 fun i j => .bl (decide (j ≤ i))) (tDGet (tVar 1) (tVar 4)) (tOp (rIxT K) (tVar 3) (tC (.int 0))))) (te := tTup (tCons (tVar 3) (tCons (tVar 4) (tNil)))) (by rfl) nd (pi_list (pe_ix ix_tup (pv 3) (pe_int) (fun _ _ => rfl)))
          (blkOk_by (own := [("page", 4)]) (N := N_wrong_reads) (sc := defScope s_wrong_reads) (by decide +kernel)) (fun _ _ _ _ _ => pg_name (i := 4) nd rfl (Or.inl rfl)) (fun _ _ _ _ _ => pts_one (pt_cmpR op_ge (pe_dget hu (pv 1) (pv 4) (fun _ _ => rfl)) (pe_ix ix_tup (pv 3) (pe_int) (fun _ _ => rfl)) (nomark _)))
          (fun _ _ _ _ _ => pe_tup (pa_cons (pv 3) (pa_cons (pv 4) (pa_nil))))) (pa_nil))))) (pss_nil))))
      (pss_one (ps_ret (pv 2))))), ?_⟩
    have dget : ∀ {G : Hp} {p : Nat}, Same H G → p ∈ pgs ds → DGet G b (.int (p : Int)) (some (.int (m p : Int))) := fun {G p} s1 hp => by
      have := DGet.k (k := ky p) (s1 _ _ hb)
      rw [dV_val (pk.mem_iff.mpr hp)] at this
      exact this
    have r20 : ∀ d ∈ ds, d.r.length ≤ 20 := fun d hd => (hG.ok d hd).len
    refine ⟨(by show 0 ≤ sizeLine; omega), fun q hq => ?_⟩
    have s1 : Same H (upd H q (.lst [])) := Same.updf hq
    refine ⟨_, rfl, a, rfl, ⟨_, SqL.of (s1 _ _ ha)⟩, ?_⟩
    refine for_list (xs := xs) (fun i σ G => Same H G ∧ (∃ ys, G q = some (.lst ys) ∧ Pairs (off G q) ys (wr (ds.take i) m)) ∧ ∃ v, σ = [some (.ref a), some (.ref b), some (.ref q), v, none]) ⟨s1, ⟨[], upd_same, Pairs.nil _⟩, _, rfl⟩ (fun i σ G _ hh => SqL.of (hh.1 _ _ ha)) ?_ ?_
    · rintro i y σ G hy ⟨sG, ⟨ys, gq, py⟩, v, rfl⟩
      have li : i < ds.length := by
        rw [← lx]
        exact (List.getElem?_eq_some_iff.mp hy).1
      have hd : ds[i]? = some ds[i] := List.getElem?_eq_getElem li
      have dat := (hx i y _ hy hd).same sG
      obtain ⟨t, rd, tw, rfl, ht, hr1, _⟩ := id dat
      have ok := hG.ok _ (List.getElem_mem li)
      have mp : ∀ p ∈ ds[i].r, p ∈ pgs ds := fun p hp => pgs_mem.mpr ⟨ds[i], List.getElem_mem _, hp⟩
      refine ⟨_, rfl, _, rfl, t, _, 1, _, rfl, rfl, SqT.of ht, rfl, b, _, rfl, dget sG (mp _ ok.own), ?_⟩
      refine ⟨_, rfl, t, _, 0, _, rfl, rfl, SqT.of ht, rfl, _, _, rfl, rfl, _, rfl, ?_⟩
      by_cases c : m ds[i].p < ds[i].n
      · rw [decide_eq_true (show (m ds[i].p : Int) < (ds[i].n : Int) by omega)]
        refine iteT ⟨_, rfl, .inl ⟨rfl, _, SqL.of gq⟩, ?_⟩
        refine ⟨_, rfl, t, _, 2, _, rfl, rfl, SqT.of ht, rfl, rd, rfl, ⟨_, SqL.of hr1⟩, fun D hD => ?_⟩
        have nH : H D = none := none_back sG hD
        have wl := wr_len (ds := ds.take i) (fun e he => r20 e (List.mem_of_mem_take he)) m
        rw [List.length_take] at wl
        refine lc_it (walk_list (K := K) (a := rd) (xs := numsV ds[i].r)) (fun j G3 => Same G G3 ∧ ∃ zs, G3 D = some (.lst zs) ∧ Pairs (off (off G3 q) D) zs (wr1 ds[i] m j)) ⟨Same.updf hD, [], upd_same, Pairs.nil _⟩ (fun j G3 _ hh => SqL.of (hh.1 _ _ hr1)) ?_ ?_
        · rintro j x G3 G4 hj ⟨s3, zs, hz, pz⟩ ⟨rfl, hv⟩
          have lj : j < ds[i].r.length := by
            have := hj
            unfold numsV at this
            rw [List.length_map] at this
            exact this
          unfold numsV at hv
          rw [List.getElem?_map, List.getElem?_eq_getElem lj] at hv
          obtain rfl := Option.some.inj hv
          have zl := pz.1
          have wl1 := wr1_len ds[i] m j
          have l20 := r20 _ (List.getElem_mem li)
          have e1 : wr1 ds[i] m (j + 1) = wr1 ds[i] m j ++ if ds[i].n ≤ m ds[i].r[j] then [(ds[i], ds[i].r[j])] else [] := by
            unfold wr1
            rw [List.take_succ, List.getElem?_eq_getElem lj, List.filter_append, List.map_append]
            by_cases z : ds[i].n ≤ m ds[i].r[j]
            · simp [z]
            · simp [z]
          refine ⟨rfl, _, rfl, _, rfl, b, _, rfl, dget (sG.trans s3) (mp _ (List.getElem_mem _)), _, rfl, t, _, 0, _, rfl, rfl, SqT.of (s3 _ _ ht), rfl, _, _, rfl, rfl, _, rfl, ?_⟩
          by_cases z : ds[i].n ≤ m ds[i].r[j]
          · rw [decide_eq_true (show (ds[i].n : Int) ≤ (m ds[i].r[j] : Int) by omega)]
            refine iteT ⟨_, rfl, _, rfl, (by show 2 ≤ sizeLine; omega), fun T hT => ?_⟩
            have nTD : T ≠ D := fun e => by
              rw [e, hz] at hT
              cases hT
            have nTq : T ≠ q := fun e => by
              rw [e, s3 _ _ gq] at hT
              cases hT
            have sT := Same.updf (o := .tup [.ref t, .int (ds[i].r[j] : Int)]) hT
            refine ⟨zs, sT _ _ hz, by omega, fun c o e => ?_, zs ++ [.ref T], upd_same, ?_⟩
            · rw [upd_ne (ne_of_none e hD)]
              exact sT _ _ (s3 _ _ e)
            · rw [e1, if_pos z]
              have so : Same (off (off G4 q) D) (off (off (upd G4 T (.tup [.ref t, .int (ds[i].r[j] : Int)])) q) D) := off_same D (off_same q sT)
              have eo : off (off (upd (upd G4 T (.tup [.ref t, .int (ds[i].r[j] : Int)])) D (.lst (zs ++ [.ref T]))) q) D = off (off (upd G4 T (.tup [.ref t, .int (ds[i].r[j] : Int)])) q) D := by
                funext c
                by_cases c1 : c = D
                · unfold off
                  rw [if_pos c1, if_pos c1]
                · unfold off
                  rw [if_neg c1, if_neg c1, upd_ne c1]
              rw [eo]
              refine (pz.same so).app (Pairs.one ⟨T, .ref t, rfl, ?_, ?_⟩)
              · rw [off_at nTD, off_at nTq, upd_same]
              · exact (hx i _ _ hy hd).same (off_in (off_in ((sG.trans s3).trans sT) hq) nH)
          · rw [decide_eq_false (show ¬ (ds[i].n : Int) ≤ (m ds[i].r[j] : Int) by omega)]
            refine iteF ⟨s3, zs, hz, ?_⟩
            rw [e1, if_neg z, List.append_nil]
            exact pz
        · rintro G3 ⟨s3, zs, hz, pz⟩
          have ln : (numsV ds[i].r).length = ds[i].r.length := List.length_map _
          rw [ln] at pz
          have zl := pz.1
          have wl1 := wr1_len ds[i] m ds[i].r.length
          have l20 := r20 _ (List.getElem_mem li)
          have yl := py.1
          refine ⟨q, D, ys, zs, rfl, rfl, s3 _ _ gq, hz, by omega, fun c o e => ?_, ⟨_, upd_same, ?_⟩, _, rfl⟩
          · rw [upd_ne (ne_of_none e hq)]
            exact s3 _ _ (sG _ _ e)
          · rw [off_upd, wr_take hd, if_pos c]
            exact (py.same (off_same q s3)).app (pz.same (off_le _ D))
      · rw [decide_eq_false (show ¬ (m ds[i].p : Int) < (ds[i].n : Int) by omega)]
        refine iteF ⟨sG, ⟨ys, gq, ?_⟩, _, rfl⟩
        rw [wr_take hd, if_neg c, List.append_nil]
        exact py
    · rintro σ G ⟨sG, ⟨ys, gq, py⟩, v, rfl⟩
      rw [lx, List.take_length] at py
      exact ⟨_, rfl, k q G ys sG hq gq (py.same (off_le G q))⟩
end
end K21
set_option Elab.async false
set_option linter.all false
set_option maxRecDepth 100000
set_option maxHeartbeats 4000000
/-! The greatest and the least right marks. -/
namespace K21
open PySem PySem.Spec PyProof.Rows L2 KB
/-- x is the greatest of the right marks that are at most m -/
structure Gr (ds : List Dd) (m x : Nat → Nat) : Prop where
  sh : Mk ds x
  rt : Rt ds x
  le : ∀ p ∈ pgs ds, x p ≤ m p
  gr : ∀ y, Mk ds y → Rt ds y → (∀ p ∈ pgs ds, y p ≤ m p) → ∀ p ∈ pgs ds, y p ≤ x p
structure Le (ds : List Dd) (m x : Nat → Nat) : Prop where
  sh : Mk ds x
  rt : Rt ds x
  le : ∀ p ∈ pgs ds, m p ≤ x p
  gr : ∀ y, Mk ds y → Rt ds y → (∀ p ∈ pgs ds, m p ≤ y p) → ∀ p ∈ pgs ds, x p ≤ y p
theorem Gr.uniq {ds : List Dd} {m x y : Nat → Nat} (h : Gr ds m x) (k : Gr ds m y) : ∀ p ∈ pgs ds, x p = y p := fun p hp => Nat.le_antisymm (k.gr x h.sh h.rt h.le p hp) (h.gr y k.sh k.rt k.le p hp)
theorem Le.uniq {ds : List Dd} {m x y : Nat → Nat} (h : Le ds m x) (k : Le ds m y) : ∀ p ∈ pgs ds, x p = y p := fun p hp => Nat.le_antisymm (h.gr y k.sh k.rt k.le p hp) (k.gr x h.sh h.rt h.le p hp)
def sumM (ps : List Nat) (x : Nat → Nat) : Nat := (ps.map x).sum
theorem sum_same {ps : List Nat} {x y : Nat → Nat} (h : ∀ p ∈ ps, x p = y p) : sumM ps x = sumM ps y := congrArg List.sum (List.map_congr_left h)
theorem sum_put : ∀ {ps : List Nat}, ps.Pairwise (· < ·) → ∀ {x : Nat → Nat} {p n : Nat}, p ∈ ps → sumM ps (putN x p n) + x p = sumM ps x + n
  | q :: ps, hp, x, p, n, h => by
    obtain ⟨h1, h2⟩ := List.pairwise_cons.mp hp
    unfold sumM
    rw [List.map_cons, List.map_cons, List.sum_cons, List.sum_cons]
    by_cases e : q = p
    · subst e
      have z : sumM ps (putN x q n) = sumM ps x := sum_same fun r hr => by
        unfold putN
        have := h1 r hr
        rw [if_neg (by omega)]
      unfold sumM at z
      rw [z]
      unfold putN
      rw [if_pos rfl]
      omega
    · have h' : p ∈ ps := by
        rcases List.mem_cons.mp h with h | h
        · exact absurd h.symm e
        · exact h
      have z := sum_put h2 (x := x) (n := n) h'
      unfold sumM at z
      have e2 : putN x p n q = x q := if_neg e
      rw [e2]
      omega
/-- ahead of the greatest -/
structure PreG (ds : List Dd) (m x : Nat → Nat) : Prop where
  sh : Mk ds x
  le : ∀ p ∈ pgs ds, x p ≤ m p
  gr : ∀ y, Mk ds y → Rt ds y → (∀ p ∈ pgs ds, y p ≤ m p) → ∀ p ∈ pgs ds, y p ≤ x p
theorem own_pg {ds : List Dd} (hG : Lg ds) {d : Dd} (hd : d ∈ ds) : d.p ∈ pgs ds := pgs_mem.mpr ⟨d, hd, (hG.ok d hd).own⟩
theorem read_pg {ds : List Dd} {d : Dd} (hd : d ∈ ds) {p : Nat} (hp : p ∈ d.r) : p ∈ pgs ds := pgs_mem.mpr ⟨d, hd, hp⟩
theorem PreG.step {ds : List Dd} (hG : Lg ds) {m x : Nat → Nat} (h : PreG ds m x) {d : Dd} {p : Nat} (hw : (d, p) ∈ wr ds x) {n : Nat} (hn : n ∈ nbp ds p) (lt : n < d.n) (mx : ∀ k ∈ nbp ds p, k < d.n → k ≤ n) : PreG ds m (putN x p n) ∧ sumM (pgs ds) (putN x p n) < sumM (pgs ds) x := by
  obtain ⟨hd, c, hp, q⟩ := wr_mem.mp hw
  have pp := read_pg hd hp
  refine ⟨⟨fun r hr => ?_, fun r hr => ?_, fun y hy ry ly r hr => ?_⟩, ?_⟩
  · unfold putN
    by_cases e : r = p
    · rw [if_pos e, e]
      exact hn
    · rw [if_neg e]
      exact h.sh r hr
  · unfold putN
    by_cases e : r = p
    · have := h.le p pp
      rw [if_pos e, e]
      omega
    · rw [if_neg e]
      exact h.le r hr
  · unfold putN
    by_cases e : r = p
    · rw [if_pos e, e]
      have h1 := h.gr y hy ry ly d.p (own_pg hG hd)
      exact mx _ (hy p pp) (rt_iff.mp ry d hd (by omega) p hp)
    · rw [if_neg e]
      exact h.gr y hy ry ly r hr
  · have := sum_put (pgs_asc ds) (x := x) (n := n) pp
    omega
theorem PreG.fin {ds : List Dd} {m x : Nat → Nat} (h : PreG ds m x) (r : wr ds x = []) : Gr ds m x := ⟨h.sh, r, h.le, h.gr⟩
theorem PreG.start {ds : List Dd} {m : Nat → Nat} (h : Mk ds m) : PreG ds m m := ⟨h, fun _ _ => Nat.le_refl _, fun _ _ _ l => l⟩
/-- ahead of the least -/
structure PreL (ds : List Dd) (m x : Nat → Nat) : Prop where
  sh : Mk ds x
  le : ∀ p ∈ pgs ds, m p ≤ x p
  gr : ∀ y, Mk ds y → Rt ds y → (∀ p ∈ pgs ds, m p ≤ y p) → ∀ p ∈ pgs ds, x p ≤ y p
theorem PreL.start {ds : List Dd} {m : Nat → Nat} (h : Mk ds m) : PreL ds m m := ⟨h, fun _ _ => Nat.le_refl _, fun _ _ _ l => l⟩
theorem PreL.fin {ds : List Dd} {m x : Nat → Nat} (h : PreL ds m x) (r : wr ds x = []) : Le ds m x := ⟨h.sh, r, h.le, h.gr⟩
/-- no page shows more -/
def mxN (ds : List Dd) : Nat := (ds.map (·.n)).sum
theorem nbp_le {ds : List Dd} {p k : Nat} (h : k ∈ nbp ds p) : k ≤ mxN ds := by
  unfold nbp at h
  rcases List.mem_cons.mp h with rfl | h
  · exact Nat.zero_le _
  · obtain ⟨d, hd, rfl⟩ := List.mem_map.mp h
    exact le_sum (List.mem_map.mpr ⟨d, (List.mem_filter.mp hd).1, rfl⟩)
theorem sum_le {ds : List Dd} {x : Nat → Nat} (h : Mk ds x) : sumM (pgs ds) x ≤ (pgs ds).length * mxN ds := by
  have gen : ∀ ps : List Nat, (∀ p ∈ ps, p ∈ pgs ds) → sumM ps x ≤ ps.length * mxN ds := by
    intro ps
    induction ps with
    | nil => intro _; simp [sumM]
    | cons p ps ih =>
      intro hp
      have h1 := ih fun q hq => hp q (List.mem_cons_of_mem _ hq)
      have h2 := nbp_le (h p (hp p List.mem_cons_self))
      unfold sumM at h1 ⊢
      rw [List.map_cons, List.sum_cons, List.length_cons, Nat.succ_mul]
      omega
  exact gen _ fun _ h => h
theorem PreL.step {ds : List Dd} (hG : Lg ds) {m x : Nat → Nat} (h : PreL ds m x) {d : Dd} {p : Nat} (hw : (d, p) ∈ wr ds x) : PreL ds m (putN x d.p d.n) ∧ sumM (pgs ds) x < sumM (pgs ds) (putN x d.p d.n) := by
  obtain ⟨hd, c, hp, q⟩ := wr_mem.mp hw
  have pp := read_pg hd hp
  have po := own_pg hG hd
  refine ⟨⟨fun r hr => ?_, fun r hr => ?_, fun y hy ry ly r hr => ?_⟩, ?_⟩
  · unfold putN
    by_cases e : r = d.p
    · rw [if_pos e, e]
      unfold nbp
      exact List.mem_cons_of_mem _ (List.mem_map.mpr ⟨d, List.mem_filter.mpr ⟨hd, decide_eq_true rfl⟩, rfl⟩)
    · rw [if_neg e]
      exact h.sh r hr
  · unfold putN
    by_cases e : r = d.p
    · have := h.le d.p po
      rw [if_pos e, e]
      omega
    · rw [if_neg e]
      exact h.le r hr
  · unfold putN
    by_cases e : r = d.p
    · rw [if_pos e, e]
      have h1 := h.gr y hy ry ly p pp
      rcases Nat.lt_or_ge (y d.p) d.n with z | z
      · have := rt_iff.mp ry d hd z p hp
        omega
      · exact z
    · rw [if_neg e]
      exact h.gr y hy ry ly r hr
  · have := sum_put (pgs_asc ds) (x := x) (n := d.n) po
    omega
theorem tk_notin {ds : List Dd} {i : Nat} (h : i < (pgs ds).length) : (pgs ds)[i] ∉ (pgs ds).take i := fun m => by
  obtain ⟨j, lj, e⟩ := List.getElem_of_mem m
  rw [List.getElem_take] at e
  rw [List.length_take] at lj
  have := List.pairwise_iff_getElem.mp (pgs_asc ds) j i (by omega) h (by omega)
  omega
theorem tk_snoc {ds : List Dd} {i : Nat} (h : i < (pgs ds).length) : (pgs ds).take (i + 1) = (pgs ds).take i ++ [(pgs ds)[i]] := by
  rw [List.take_succ, List.getElem?_eq_getElem h]
  rfl
end K21
set_option Elab.async false
set_option linter.all false
set_option maxRecDepth 100000
set_option maxHeartbeats 8000000
namespace K21
open PySem PySem.Spec PyProof.Rows L2 KB RZ
abbrev s_exact : Stmt := top 43
abbrev N_exact : List Str := ["_law_mine", "_law_theirs", "_law_alike", "_law_a", "_law_b", "_law_key"]
theorem sc_exact : FnScope N_exact ["_law_mine", "_law_theirs"] (defScope s_exact) := ⟨rfl, rfl, rfl, by decide +kernel, rfl, by decide +kernel, by decide +kernel⟩
/-- as Tr, with dictionaries of marks -/
def TD (H : Hp) : Nat → V → PyData → Prop
  | 0, x, d => FlatD x d
  | n + 1, x, d => FlatD x d ∨ (∃ (a : Addr) (xs : List V) (ds : List PyData), x = .ref a ∧ xs.length = ds.length ∧ ds.length ≤ 1000 ∧ ((H a = some (.lst xs) ∧ d = .list ds) ∨ (H a = some (.tup xs) ∧ d = .tuple ds)) ∧
      ∀ (i : Nat) (u : V) (e : PyData), xs[i]? = some u → ds[i]? = some e → TD H n u e) ∨ ∃ (a : Addr) (ps : List Nat) (fv : Nat → V) (g : Nat → PyData), x = .ref a ∧ (1 ≤ n ∧ ps.length ≤ 1000) ∧ H a = some (.dK (dV ps fv)) ∧ d = .dict (ps.map fun p : Nat => (.int (p : Int), g p)) ∧ ∀ p ∈ ps, Tr H n (fv p) (g p)
theorem TD.same {H H' : Hp} (k : Same H H') : ∀ {n : Nat} {x : V} {d : PyData}, TD H n x d → TD H' n x d
  | 0, _, _, h => h
  | n + 1, _, _, h => by
    rcases h with h | ⟨a, xs, ds, e, l, l1, t, c⟩ | ⟨a, ps, fv, g, e, n1, ha, ed, kf⟩
    · exact .inl h
    · refine .inr (.inl ⟨a, xs, ds, e, l, l1, ?_, fun i u v e1 e2 => TD.same k (c i u v e1 e2)⟩)
      rcases t with ⟨t1, t2⟩ | ⟨t1, t2⟩
      · exact .inl ⟨k _ _ t1, t2⟩
      · exact .inr ⟨k _ _ t1, t2⟩
    · exact .inr (.inr ⟨a, ps, fv, g, e, n1, k _ _ ha, ed, fun p hp => (kf p hp).same k⟩)
theorem TD.of {H : Hp} : ∀ {n : Nat} {x : V} {d : PyData}, Tr H n x d → TD H n x d
  | 0, _, _, h => h
  | n + 1, _, _, h => by
    rcases h with h | ⟨a, xs, ds, e, l, l1, t, c⟩
    · exact .inl h
    · exact .inr (.inl ⟨a, xs, ds, e, l, l1, t, fun i u v e1 e2 => TD.of (c i u v e1 e2)⟩)
theorem TD.up {H : Hp} : ∀ {n : Nat} {x : V} {d : PyData}, TD H n x d → TD H (n + 1) x d
  | 0, _, _, h => .inl h
  | n + 1, _, _, h => by
    rcases h with h | ⟨a, xs, ds, e, l, l1, t, c⟩ | h
    · exact .inl h
    · exact .inr (.inl ⟨a, xs, ds, e, l, l1, t, fun i u v e1 e2 => TD.up (c i u v e1 e2)⟩)
    · obtain ⟨a, ps, fv, g, e, n1, ha, ed, kf⟩ := h
      exact .inr (.inr ⟨a, ps, fv, g, e, ⟨by omega, n1.2⟩, ha, ed, fun p hp => (kf p hp).up⟩)
theorem TD.lst {H : Hp} {n : Nat} {a : Addr} {xs : List V} {ds : List PyData} (h : H a = some (.lst xs)) (l : xs.length = ds.length) (s : ds.length ≤ 1000) (k : ∀ (i : Nat) (u : V) (e : PyData), xs[i]? = some u → ds[i]? = some e → TD H n u e) : TD H (n + 1) (.ref a) (.list ds) :=
  .inr (.inl ⟨a, xs, ds, rfl, l, s, .inl ⟨h, rfl⟩, k⟩)
theorem TD.dct {H : Hp} {n : Nat} {a : Addr} {ps : List Nat} {m : Nat → Nat} (h : H a = some (.dK (mV ps m))) (l : ps.length ≤ 1000) : TD H (n + 2) (.ref a) (.dict (ps.map fun p : Nat => (.int (p : Int), .int (m p : Int)))) := .inr (.inr ⟨a, ps, _, fun p => .int (m p : Int), rfl, ⟨by omega, l⟩, h, rfl, fun p _ => Tr.flat (.int _)⟩)
theorem TD.dctV {H : Hp} {n : Nat} {a : Addr} {ps : List Nat} {fv : Nat → V} {g : Nat → PyData} (h : H a = some (.dK (dV ps fv))) (l : ps.length ≤ 1000) (k : ∀ p ∈ ps, Tr H (n + 1) (fv p) (g p)) : TD H (n + 2) (.ref a) (.dict (ps.map fun p : Nat => (.int (p : Int), g p))) := .inr (.inr ⟨a, ps, _, g, rfl, ⟨by omega, l⟩, h, rfl, k⟩)
theorem TD.flat {H : Hp} {n : Nat} {x : V} {d : PyData} (h : FlatD x d) : TD H n x d := by
  cases n with
  | zero => exact h
  | succ n => exact .inl h
theorem td_cons {H : Hp} {n : Nat} {x : V} {xs : List V} {d : PyData} {ds : List PyData} (h : TD H n x d) (k : ∀ (i : Nat) (u : V) (e : PyData), xs[i]? = some u → ds[i]? = some e → TD H n u e) : ∀ (i : Nat) (u : V) (e : PyData), (x :: xs)[i]? = some u → (d :: ds)[i]? = some e → TD H n u e := fun i u e h1 h2 => by
  cases i with
  | zero =>
    cases h1
    cases h2
    exact h
  | succ i => exact k i u e h1 h2
theorem td_nil {H : Hp} {n : Nat} : ∀ (i : Nat) (u : V) (e : PyData), ([] : List V)[i]? = some u → ([] : List PyData)[i]? = some e → TD H n u e := fun i u e h1 h2 => by simp at h1
theorem dict_inj : ∀ {ps qs : List Nat} {g g' : Nat → PyData}, (ps.map fun p : Nat => (PyData.int (p : Int), g p)) = (qs.map fun p : Nat => (PyData.int (p : Int), g' p)) → ps = qs ∧ ∀ p ∈ ps, g p = g' p
  | [], [], _, _, _ => ⟨rfl, fun p h => nomatch h⟩
  | [], q :: qs, _, _, e => by cases e
  | p :: ps, [], _, _, e => by cases e
  | p :: ps, q :: qs, g, g', e => by
    rw [List.map_cons, List.map_cons] at e
    obtain ⟨e1, e2⟩ := List.cons.inj e
    have h1 := PyData.int.inj (congrArg Prod.fst e1)
    have h2 := congrArg Prod.snd e1
    have hp : p = q := by omega
    subst hp
    obtain ⟨h3, h4⟩ := dict_inj e2
    refine ⟨by rw [h3], fun r hr => ?_⟩
    rcases List.mem_cons.mp hr with rfl | hr
    · exact h2
    · exact h4 r hr
/-- lists and tuples stay -/
def KeepLT (H H' : Hp) : Prop := ∀ c xs, (H c = some (.lst xs) → H' c = some (.lst xs)) ∧ (H c = some (.tup xs) → H' c = some (.tup xs))
theorem Tr.keep {H H' : Hp} (k : KeepLT H H') : ∀ {n : Nat} {x : V} {d : PyData}, Tr H n x d → Tr H' n x d
  | 0, _, _, h => h
  | n + 1, _, _, h => by
    rcases h with h | ⟨a, xs, ds, e1, e2, e3, e4, e5⟩
    · exact .inl h
    · exact .inr ⟨a, xs, ds, e1, e2, e3, e4.elim (fun z => .inl ⟨(k a xs).1 z.1, z.2⟩) (fun z => .inr ⟨(k a xs).2 z.1, z.2⟩), fun i u e h1 h2 => Tr.keep k (e5 i u e h1 h2)⟩
theorem keep_dict {B : Hp} {b : Addr} {kvs : List (Key × V)} {o : HO} (hb : B b = some (.dK kvs)) : KeepLT B (upd B b o) := fun c xs => ⟨fun e => by
  rw [upd_ne (fun z => by
    rw [z, hb] at e
    cases e)]
  exact e, fun e => by
  rw [upd_ne (fun z => by
    rw [z, hb] at e
    cases e)]
  exact e⟩
theorem Same.keep {H H' : Hp} (s : Same H H') : KeepLT H H' := fun c xs => ⟨fun e => s _ _ e, fun e => s _ _ e⟩
theorem KeepLT.trans {H H' H'' : Hp} (k : KeepLT H H') (l : KeepLT H' H'') : KeepLT H H'' := fun c xs => ⟨fun e => (l c xs).1 ((k c xs).1 e), fun e => (l c xs).2 ((k c xs).2 e)⟩
theorem mV_val {ps : List Nat} {m : Nat → Nat} {p : Nat} (h : p ∈ ps) : valV (mV ps m) (ky p) = some (.int (m p : Int)) := dV_val h
def spExactD (n : Nat) : Sp := fun vs H Q _ => ∃ (x y : V) (d : PyData), vs = [x, y] ∧ TD H n x d ∧ TD H n y d ∧ ∀ H', Same H H' → Q (.bl true) H'
section
variable {P : Program} {w : World} {K : PySem.W.Frag} {mg : Str → Option Value} {base : Heap} {f : Addr} {fd : FuncData}
theorem ok_exact (F : FnP K "_law_exact" s_exact f fd) (Z : FreeS mg) (gE : mg "_law_exact" = some (.ref f)) : ∀ n : Nat, FnOk P w K mg base CX0 (n + 1) f fd ["_law_mine", "_law_theirs"] (spExactD n) := by
  have bE : Binds K fd ["_law_mine", "_law_theirs"] [] := F.bindsN fun _ _ _ _ _ _ us hl => match us, hl with | [_, _], _ => rfl
  have kitF : ∀ {t : String}, kitB t "list" = some false → kitB t "tuple" = some false → PySem.W.kitAny K (.type t) [.type "list", .type "tuple"] = some false := fun h1 h2 =>
    kitAny_cons (kit_ty h1) (fun _ => kitAny_cons (kit_ty h2) (fun _ => kitAny_nil) (fun z => nomatch z)) (fun z => nomatch z)
  have la : kitB "list" "list" = some true := by decide +kernel
  have lt : kitB "list" "tuple" = some false := by decide +kernel
  have ta : kitB "tuple" "tuple" = some true := by decide +kernel
  have tl : kitB "tuple" "list" = some false := by decide +kernel
  intro n
  induction n with
  | zero =>
    refine F.ok sc_exact (fun vs H Q E h => ?_) (fun cdv A outer s H vs Q E hr h => ?_)
    · obtain ⟨x, y, d, rfl, _⟩ := h
      rfl
    · obtain ⟨x, y, d, rfl, hx, hy, k⟩ := h
      have hx : FlatD x d := hx
      obtain rfl : y = x := FlatD.eq hy hx
      have nd := sc_exact.nd
      refine ⟨_, PSs.nox (pss_cons (ps_if (pt_val (pe_callB call_isiT (by rfl) Z.isi (by decide +kernel) (pa_cons (pv 0) (pa_cons (pe_tup (pa_cons (pe_bltn (v := .ty "list") (by rfl) Z.tlist (by decide +kernel) rfl) (pa_cons (pe_bltn (v := .ty "tuple") (by rfl) Z.ttuple (by decide +kernel) rfl) (pa_nil)))) pa_nil)))) (pss_cons ps_dead (pss_one ps_dead)) (pss_nil))
      (pss_cons (ps_if (pt_val (pe_callB call_isi (by rfl) Z.isi (by decide +kernel) (pa_cons (pv 0) (pa_cons (pe_bltn (v := .ty "dict") (by rfl) Z.tdict (by decide +kernel) rfl) pa_nil)))) (pss_cons ps_dead (pss_one ps_dead)) (pss_nil))
      (pss_cons (ps_set (i := 2) nd rfl (Or.inl rfl) (pe_cmpR op_eq (pe_callB call_isi (by rfl) Z.isi (by decide +kernel) (pa_cons (pv 0) (pa_cons (pe_bltn (v := .ty "int") (by rfl) Z.int (by decide +kernel) rfl) pa_nil))) (pe_callB call_isi (by rfl) Z.isi (by decide +kernel) (pa_cons (pv 1) (pa_cons (pe_bltn (v := .ty "int") (by rfl) Z.int (by decide +kernel) rfl) pa_nil))) (nomark _)))
      (pss_one (ps_ret (pe_and (pv 2) (pe_and (pe_cmpR op_eq (pe_callB call_isi (by rfl) Z.isi (by decide +kernel) (pa_cons (pv 0) (pa_cons (pe_bltn (v := .ty "bool") (by rfl) Z.tbool (by decide +kernel) rfl) pa_nil))) (pe_callB call_isi (by rfl) Z.isi (by decide +kernel) (pa_cons (pv 1) (pa_cons (pe_bltn (v := .ty "bool") (by rfl) Z.tbool (by decide +kernel) rfl) pa_nil))) (nomark _)) (pe_one (pe_cmpR op_eq (pv 0) (pv 1) (nomark _)))))))))), ?_⟩
      refine ⟨_, rfl, (by show 2 ≤ sizeLine; decide), fun T hT => ?_⟩
      have s1 : Same H (upd H T (.tup [.ty "list", .ty "tuple"])) := Same.updf hT
      obtain ⟨t', ty', k1', k2', k3', i', b', k4', k5'⟩ := FlatD.ty (K := K) (H := upd H T (.tup [.ty "list", .ty "tuple"])) hx
      refine ⟨y, T, [.ty "list", .ty "tuple"], .type t', [.type "list", .type "tuple"], false, rfl, upd_same, .cons (.ty _) (.cons (.ty _) .nil), ty', kitF k1' k2', false, rfl, iteF ?_⟩
      refine ⟨_, rfl, y, .ty "dict", .type t', .type "dict", false, rfl, .ty _, ty', kit_ty k3', false, rfl, iteF ?_⟩
      refine ⟨_, rfl, y, .ty "int", .type t', .type "int", i', rfl, .ty _, ty', kit_ty k4', _, rfl, y, .ty "int", .type t', .type "int", i', rfl, .ty _, ty', kit_ty k4', rfl, ?_⟩
      rw [decide_eq_true (rfl : V.bl i' = V.bl i')]
      refine ⟨_, rfl, true, rfl, iteT ?_⟩
      refine ⟨_, rfl, y, .ty "bool", .type t', .type "bool", b', rfl, .ty _, ty', kit_ty k5', _, rfl, y, .ty "bool", .type t', .type "bool", b', rfl, .ty _, ty', kit_ty k5', rfl, ?_⟩
      rw [decide_eq_true (rfl : V.bl b' = V.bl b')]
      refine ⟨true, rfl, iteT ?_⟩
      refine ⟨_, rfl, _, rfl, FlatD.scal hx, ?_⟩
      rw [decide_eq_true (rfl : y = y)]
      exact k _ s1
  | succ n ih =>
    refine F.ok sc_exact (fun vs H Q E h => ?_) (fun cdv A outer s H vs Q E hr h => ?_)
    · obtain ⟨x, y, d, rfl, _⟩ := h
      rfl
    · obtain ⟨x, y, d, rfl, hx, hy, k⟩ := h
      have hu : (A.deeper (envOfC "_law_exact" (defScope s_exact) s.heap.objs.size f cdv)).units + 1 < cLine := by
        have := hr.units
        omega
      have nd := sc_exact.nd
      refine ⟨_, PSs.nox (pss_cons (ps_if (pt_val (pe_callB call_isiT (by rfl) Z.isi (by decide +kernel) (pa_cons (pv 0) (pa_cons (pe_tup (pa_cons (pe_bltn (v := .ty "list") (by rfl) Z.tlist (by decide +kernel) rfl) (pa_cons (pe_bltn (v := .ty "tuple") (by rfl) Z.ttuple (by decide +kernel) rfl) (pa_nil)))) pa_nil)))) (pss_cons (ps_set (i := 2) nd rfl (Or.inl rfl) (pe_and (pe_cmpR op_eq (pe_callB call_isi (by rfl) Z.isi (by decide +kernel) (pa_cons (pv 1) (pa_cons (pe_bltn (v := .ty "list") (by rfl) Z.tlist (by decide +kernel) rfl) pa_nil))) (pe_callB call_isi (by rfl) Z.isi (by decide +kernel) (pa_cons (pv 0) (pa_cons (pe_bltn (v := .ty "list") (by rfl) Z.tlist (by decide +kernel) rfl) pa_nil))) (nomark _)) (pe_one (pe_cmpR op_eq (pe_callB call_isi (by rfl) Z.isi (by decide +kernel) (pa_cons (pv 1) (pa_cons (pe_bltn (v := .ty "tuple") (by rfl) Z.ttuple (by decide +kernel) rfl) pa_nil))) (pe_callB call_isi (by rfl) Z.isi (by decide +kernel) (pa_cons (pv 0) (pa_cons (pe_bltn (v := .ty "tuple") (by rfl) Z.ttuple (by decide +kernel) rfl) pa_nil))) (nomark _)))))
      (pss_one (ps_ret (pe_and (pv 2) (pe_and (pe_cmpR op_eq (pe_callB call_len_seq (by rfl) Z.len (by decide +kernel) (pa_cons (pv 0) (pa_nil))) (pe_callB call_len_seq (by rfl) Z.len (by decide +kernel) (pa_cons (pv 1) (pa_nil))) (nomark _)) (pe_one (pe_callB (cr_all rfl) (by rfl) Z.all (by decide +kernel) (pa_cons (pe_lc (own := [("_law_a", 3), ("_law_b", 4)]) (g := gTup K 2 (gCons (gName 3) (gCons (gName 4) (gNil)))) (tt := tYes) (te := tCall (spExactD n) [] E0 (tCons (tVar 3) (tCons (tVar 4) tNil))) (by rfl) nd (pi_zipA (by rfl) Z.zip (pa_cons (pv 0) (pa_cons (pv 1) pa_nil)))
          (blkOk_by (own := [("_law_a", 3), ("_law_b", 4)]) (N := N_exact) (sc := defScope s_exact) (by decide +kernel)) (fun _ _ _ _ _ => pg_tup rfl (pgs_cons (pg_name (i := 3) nd rfl (Or.inl rfl)) (pgs_cons (pg_name (i := 4) nd rfl (Or.inl rfl)) (pgs_nil)))) (fun _ _ _ _ _ => pts_nil)
          (fun _ _ _ _ _ => pe_call ih hr rfl gE F.kp bE .nil pass0 (pa_cons (pv 3) (pa_cons (pv 4) pa_nil)))) (pa_nil))))))))) (pss_nil))
      (pss_cons (ps_if (pt_val (pe_callB call_isi (by rfl) Z.isi (by decide +kernel) (pa_cons (pv 0) (pa_cons (pe_bltn (v := .ty "dict") (by rfl) Z.tdict (by decide +kernel) rfl) pa_nil)))) (pss_cons (ps_set (i := 2) nd rfl (Or.inl rfl) (pe_and (pe_callB call_isi (by rfl) Z.isi (by decide +kernel) (pa_cons (pv 1) (pa_cons (pe_bltn (v := .ty "dict") (by rfl) Z.tdict (by decide +kernel) rfl) pa_nil))) (pe_one (pe_call ih hr rfl gE F.kp bE .nil pass0 (pa_cons (pe_callTy (call_list_dK rfl) (by rfl) Z.tlist (by decide +kernel) (pa_cons (pv 0) pa_nil)) (pa_cons (pe_callTy (call_list_dK rfl) (by rfl) Z.tlist (by decide +kernel) (pa_cons (pv 1) pa_nil)) pa_nil))))))
      (pss_one (ps_ret (pe_and (pv 2) (pe_one (pe_callB (cr_all rfl) (by rfl) Z.all (by decide +kernel) (pa_cons (pe_lock (pe_lc (own := [("_law_key", 5)]) (g := gName 5) (tt := tYes) (te := tCall (spExactD n) [] E0 (tCons (tDGet (tVar 0) (tVar 5)) (tCons (tDGet (tVar 1) (tVar 5)) tNil))) (by rfl) nd (pi_keys (pv 0))
          (blkOk_by (own := [("_law_key", 5)]) (N := N_exact) (sc := defScope s_exact) (by decide +kernel)) (fun _ _ _ _ _ => pg_name (i := 5) nd rfl (Or.inl rfl)) (fun _ _ _ _ _ => pts_nil)
          (fun _ _ _ _ _ => pe_call ih hr rfl gE F.kp bE .nil pass0 (pa_cons (pe_dget hu (pv 0) (pv 5) (fun _ _ => rfl)) (pa_cons (pe_dget hu (pv 1) (pv 5) (fun _ _ => rfl)) pa_nil))))) (pa_nil)))))))) (pss_nil))
      (pss_cons (ps_set (i := 2) nd rfl (Or.inl rfl) (pe_cmpR op_eq (pe_callB call_isi (by rfl) Z.isi (by decide +kernel) (pa_cons (pv 0) (pa_cons (pe_bltn (v := .ty "int") (by rfl) Z.int (by decide +kernel) rfl) pa_nil))) (pe_callB call_isi (by rfl) Z.isi (by decide +kernel) (pa_cons (pv 1) (pa_cons (pe_bltn (v := .ty "int") (by rfl) Z.int (by decide +kernel) rfl) pa_nil))) (nomark _)))
      (pss_one (ps_ret (pe_and (pv 2) (pe_and (pe_cmpR op_eq (pe_callB call_isi (by rfl) Z.isi (by decide +kernel) (pa_cons (pv 0) (pa_cons (pe_bltn (v := .ty "bool") (by rfl) Z.tbool (by decide +kernel) rfl) pa_nil))) (pe_callB call_isi (by rfl) Z.isi (by decide +kernel) (pa_cons (pv 1) (pa_cons (pe_bltn (v := .ty "bool") (by rfl) Z.tbool (by decide +kernel) rfl) pa_nil))) (nomark _)) (pe_one (pe_cmpR op_eq (pv 0) (pv 1) (nomark _)))))))))), ?_⟩
      rcases hx with hx | ⟨a, xs, ds, rfl, lx, l1, tx, kx⟩ | ⟨a, ps, fv, g, rfl, n1, ha, rfl, kf⟩
      · have hy : FlatD y d := by
          rcases hy with hy | ⟨b, ys, es, rfl, ly, l2, ty, ky⟩ | ⟨b, qs, fv', g', rfl, _, hb, rfl, kf'⟩
          · exact hy
          · rcases ty with ⟨_, rfl⟩ | ⟨_, rfl⟩
            · exact (FlatD.noL hx).elim
            · exact (FlatD.noT hx).elim
          · cases hx
        obtain rfl : y = x := FlatD.eq hy hx
        refine ⟨_, rfl, (by show 2 ≤ sizeLine; decide), fun T hT => ?_⟩
        have s1 : Same H (upd H T (.tup [.ty "list", .ty "tuple"])) := Same.updf hT
        obtain ⟨t', ty', k1', k2', k3', i', b', k4', k5'⟩ := FlatD.ty (K := K) (H := upd H T (.tup [.ty "list", .ty "tuple"])) hx
        refine ⟨y, T, [.ty "list", .ty "tuple"], .type t', [.type "list", .type "tuple"], false, rfl, upd_same, .cons (.ty _) (.cons (.ty _) .nil), ty', kitF k1' k2', false, rfl, iteF ?_⟩
        refine ⟨_, rfl, y, .ty "dict", .type t', .type "dict", false, rfl, .ty _, ty', kit_ty k3', false, rfl, iteF ?_⟩
        refine ⟨_, rfl, y, .ty "int", .type t', .type "int", i', rfl, .ty _, ty', kit_ty k4', _, rfl, y, .ty "int", .type t', .type "int", i', rfl, .ty _, ty', kit_ty k4', rfl, ?_⟩
        rw [decide_eq_true (rfl : V.bl i' = V.bl i')]
        refine ⟨_, rfl, true, rfl, iteT ?_⟩
        refine ⟨_, rfl, y, .ty "bool", .type t', .type "bool", b', rfl, .ty _, ty', kit_ty k5', _, rfl, y, .ty "bool", .type t', .type "bool", b', rfl, .ty _, ty', kit_ty k5', rfl, ?_⟩
        rw [decide_eq_true (rfl : V.bl b' = V.bl b')]
        refine ⟨true, rfl, iteT ?_⟩
        refine ⟨_, rfl, _, rfl, FlatD.scal hx, ?_⟩
        rw [decide_eq_true (rfl : y = y)]
        exact k _ s1
      · rcases hy with hy | ⟨b, ys, es, rfl, ly, l2, ty, ky⟩ | ⟨b, qs, fv', g', rfl, _, hb, e, kf'⟩
        · rcases tx with ⟨_, rfl⟩ | ⟨_, rfl⟩
          · exact (FlatD.noL hy).elim
          · exact (FlatD.noT hy).elim
        rotate_left
        · rcases tx with ⟨_, rfl⟩ | ⟨_, rfl⟩ <;> cases e
        refine ⟨_, rfl, (by show 2 ≤ sizeLine; decide), fun T hT => ?_⟩
        have s1 : Same H (upd H T (.tup [.ty "list", .ty "tuple"])) := Same.updf hT
        have ll : (1000 : Nat) ≤ 100000 := by decide
        have fin : ∀ (H2 : Hp), Same H H2 → ∀ (D : Addr), H2 D = some (.lst ((List.range xs.length).filterMap fun _ => some (V.bl true))) → ∃ (a : Addr) (bs : List Bool), [V.ref D] = [V.ref a] ∧ SqL K H2 a (bs.map V.bl) ∧ Q (.bl (bs.all id)) H2 := fun H2 s2 D hR => by
          obtain ⟨bs, hB, hb'⟩ := all_bits (K := K) hR
          refine ⟨D, bs, rfl, hB, ?_⟩
          rw [hb']
          exact k H2 s2
        rcases tx with ⟨ha, rfl⟩ | ⟨ha, rfl⟩
        · rcases ty with ⟨hb, e⟩ | ⟨hb, e⟩
          · cases e
            have ha1 := s1 _ _ ha
            have hb1 := s1 _ _ hb
            refine ⟨.ref a, T, [.ty "list", .ty "tuple"], .type "list", [.type "list", .type "tuple"], true, rfl, upd_same, .cons (.ty _) (.cons (.ty _) .nil), .base (.lst ha1), kitAny_cons (kit_ty la) (fun z => nomatch z) (fun _ => rfl), true, rfl, iteT ?_⟩
            refine ⟨_, rfl, .ref b, .ty "list", .type "list", .type "list", true, rfl, .ty _, .base (.lst hb1), kit_ty la, _, rfl, .ref a, .ty "list", .type "list", .type "list", true, rfl, .ty _, .base (.lst ha1), kit_ty la, rfl, true, rfl, iteT ?_⟩
            refine ⟨_, rfl, .ref b, .ty "tuple", .type "list", .type "tuple", false, rfl, .ty _, .base (.lst hb1), kit_ty lt, _, rfl, .ref a, .ty "tuple", .type "list", .type "tuple", false, rfl, .ty _, .base (.lst ha1), kit_ty lt, rfl, ?_⟩
            refine ⟨_, rfl, true, rfl, iteT ?_⟩
            refine ⟨_, rfl, a, xs, rfl, Or.inl (SqL.of ha1), _, rfl, b, ys, rfl, Or.inl (SqL.of hb1), rfl, ?_⟩
            rw [decide_eq_true (show V.int (xs.length : Int) = V.int (ys.length : Int) by rw [lx, ly])]
            refine ⟨true, rfl, iteT ?_⟩
            refine ⟨_, rfl, _, rfl, a, b, xs, ys, rfl, Or.inl ⟨SqL.of ha1, SqL.of hb1, fun D hD => ?_⟩⟩
            refine lc_sel (n := xs.length) (walk_zip (K := K) (a := a) (b := b) (xs := xs) (ys := ys) (by omega)) (fun _ => some (.bl true)) (by omega) hD (fun H2 s2 => ⟨SqL.of (s2 _ _ ha1), SqL.of (s2 _ _ hb1)⟩) ?_ ?_
            · rintro i v H2 H3 Qy Qn hi sH ⟨T2, x1, x2, rfl, nT, rfl, g1, g2⟩ ky' kn
              dsimp only at g1 g2
              refine ⟨T2, [_, _], rfl, .inl (.inl upd_same), rfl, _, [_], rfl, _, [], rfl, rfl, ?_⟩
              have sT : Same H2 (upd H2 T2 (.tup [x1, x2])) := Same.updf nT
              have gd : ds[i]? = some (ds[i]'(by omega)) := List.getElem?_eq_getElem _
              exact ⟨rfl, _, rfl, _, rfl, x1, x2, _, rfl, (kx i x1 _ g1 gd).same (s1.trans (sH.trans sT)), (ky i x2 _ g2 gd).same (s1.trans (sH.trans sT)), fun H5 s5 => ky' _ _ (sT.trans s5) rfl⟩
            · intro H2 s2 hR
              exact fin H2 (s1.trans s2) D hR
          · cases e
        · rcases ty with ⟨hb, e⟩ | ⟨hb, e⟩
          · cases e
          · cases e
            have ha1 := s1 _ _ ha
            have hb1 := s1 _ _ hb
            refine ⟨.ref a, T, [.ty "list", .ty "tuple"], .type "tuple", [.type "list", .type "tuple"], true, rfl, upd_same, .cons (.ty _) (.cons (.ty _) .nil), .base (.tup ha1), kitAny_cons (kit_ty tl) (fun _ => kitAny_cons (kit_ty ta) (fun z => nomatch z) (fun _ => rfl)) (fun z => nomatch z), true, rfl, iteT ?_⟩
            refine ⟨_, rfl, .ref b, .ty "list", .type "tuple", .type "list", false, rfl, .ty _, .base (.tup hb1), kit_ty tl, _, rfl, .ref a, .ty "list", .type "tuple", .type "list", false, rfl, .ty _, .base (.tup ha1), kit_ty tl, rfl, true, rfl, iteT ?_⟩
            refine ⟨_, rfl, .ref b, .ty "tuple", .type "tuple", .type "tuple", true, rfl, .ty _, .base (.tup hb1), kit_ty ta, _, rfl, .ref a, .ty "tuple", .type "tuple", .type "tuple", true, rfl, .ty _, .base (.tup ha1), kit_ty ta, rfl, ?_⟩
            refine ⟨_, rfl, true, rfl, iteT ?_⟩
            refine ⟨_, rfl, a, xs, rfl, Or.inr (Or.inl (.inl ha1)), _, rfl, b, ys, rfl, Or.inr (Or.inl (.inl hb1)), rfl, ?_⟩
            rw [decide_eq_true (show V.int (xs.length : Int) = V.int (ys.length : Int) by rw [lx, ly])]
            refine ⟨true, rfl, iteT ?_⟩
            refine ⟨_, rfl, _, rfl, a, b, xs, ys, rfl, Or.inr ⟨SqT.of ha1, SqT.of hb1, fun D hD => ?_⟩⟩
            refine lc_sel (n := xs.length) (walk_zipT (K := K) (a := a) (b := b) (xs := xs) (ys := ys) (by omega)) (fun _ => some (.bl true)) (by omega) hD (fun H2 s2 => ⟨SqT.of (s2 _ _ ha1), SqT.of (s2 _ _ hb1)⟩) ?_ ?_
            · rintro i v H2 H3 Qy Qn hi sH ⟨T2, x1, x2, rfl, nT, rfl, g1, g2⟩ ky' kn
              dsimp only at g1 g2
              refine ⟨T2, [_, _], rfl, .inl (.inl upd_same), rfl, _, [_], rfl, _, [], rfl, rfl, ?_⟩
              have sT : Same H2 (upd H2 T2 (.tup [x1, x2])) := Same.updf nT
              have gd : ds[i]? = some (ds[i]'(by omega)) := List.getElem?_eq_getElem _
              exact ⟨rfl, _, rfl, _, rfl, x1, x2, _, rfl, (kx i x1 _ g1 gd).same (s1.trans (sH.trans sT)), (ky i x2 _ g2 gd).same (s1.trans (sH.trans sT)), fun H5 s5 => ky' _ _ (sT.trans s5) rfl⟩
            · intro H2 s2 hR
              exact fin H2 (s1.trans s2) D hR
      · rcases hy with hy | ⟨b, ys, es, rfl, ly, l2, ty, ky⟩ | ⟨b, qs, fv', g', rfl, _, hb, e, kf'⟩
        · cases hy
        · rcases ty with ⟨_, e⟩ | ⟨_, e⟩ <;> cases e
        obtain ⟨rfl, em⟩ := dict_inj (PyData.dict.inj e)
        refine ⟨_, rfl, (by show 2 ≤ sizeLine; decide), fun T hT => ?_⟩
        have s1 : Same H (upd H T (.tup [.ty "list", .ty "tuple"])) := Same.updf hT
        have ha1 := s1 _ _ ha
        have hb1 := s1 _ _ hb
        have dl : kitB "dict" "list" = some false := by decide +kernel
        have dt : kitB "dict" "tuple" = some false := by decide +kernel
        refine ⟨.ref a, T, [.ty "list", .ty "tuple"], .type "dict", [.type "list", .type "tuple"], false, rfl, upd_same, .cons (.ty _) (.cons (.ty _) .nil), .base (.dK ha1), kitF dl dt, false, rfl, iteF ?_⟩
        refine ⟨_, rfl, .ref a, .ty "dict", .type "dict", .type "dict", true, rfl, .ty _, .base (.dK ha1), kit_ty (by decide +kernel), true, rfl, iteT ?_⟩
        refine ⟨_, rfl, .ref b, .ty "dict", .type "dict", .type "dict", true, rfl, .ty _, .base (.dK hb1), kit_ty (by decide +kernel), true, rfl, iteT ?_⟩
        have kl : ∀ f : Nat → V, ((dV ps f).map fun kv => kV kv.1) = numsV ps := fun f => by
          unfold dV numsV
          rw [List.map_map]
          rfl
        refine ⟨_, rfl, a, _, rfl, ha1, fun l1 hl1 => ?_⟩
        rw [kl]
        have s2 := Same.updf (o := .lst (numsV ps)) hl1
        refine ⟨_, rfl, b, _, rfl, s2 _ _ hb1, fun l2 hl2 => ?_⟩
        rw [kl]
        have s3 := Same.updf (o := .lst (numsV ps)) hl2
        have tdl : ∀ (G : Hp) (l : Addr), G l = some (.lst (numsV ps)) → TD G n (.ref l) (.list (ps.map fun p : Nat => .int (p : Int))) := fun G l e => by
          obtain ⟨n', rfl⟩ : ∃ n', n = n' + 1 := ⟨n - 1, by omega⟩
          refine TD.lst e (by unfold numsV; rw [List.length_map, List.length_map]) (by rw [List.length_map]; exact n1.2) fun i u v e1 e2 => ?_
          unfold numsV at e1
          rw [List.getElem?_map] at e1 e2
          obtain ⟨p, q1, rfl⟩ := Option.map_eq_some_iff.mp e1
          rw [q1] at e2
          cases e2
          exact TD.flat (.int _)
        refine ⟨.ref l1, .ref l2, _, rfl, tdl _ _ (s3 _ _ upd_same), tdl _ _ upd_same, fun G s4 => ?_⟩
        have s14 := s1.trans ((s2.trans s3).trans s4)
        have haG := s14 _ _ ha
        have hbG := s14 _ _ hb
        refine ⟨_, rfl, true, rfl, iteT ?_⟩
        refine ⟨a, _, haG, trivial, fun od => ?_⟩
        refine ⟨_, rfl, a, od, rfl, .inl ⟨_, upd_same, fun D hD => ?_⟩⟩
        have nDa : D ≠ a := fun z => by
          rw [z, upd_same] at hD
          cases hD
        have hDG : G D = none := by
          rw [upd_ne nDa] at hD
          exact hD
        refine lc_sel (n := ps.length) (by have := walk_keys (d := a) (o := od) (kvs := dV ps fv); rw [dV_len] at this; exact this) (fun _ => some (.bl true)) (by have := n1.2; omega) hD (fun H2 q2 => q2 _ _ upd_same) ?_ ?_
        · rintro i v H2 H3 Qy Qn hi sH ⟨rfl, k', v', ek, rfl⟩ ky' kn
          have ei : (dV ps fv)[i]? = some (ky ps[i], fv ps[i]) := by
            unfold dV
            rw [List.getElem?_map, List.getElem?_eq_getElem hi]
            rfl
          rw [ei] at ek
          cases ek
          have mp := List.getElem_mem hi
          have fa := sH _ _ upd_same
          have da : DGet H3 a (.int (ps[i] : Int)) (some (fv ps[i])) := .inl ⟨_, ky ps[i], .inr ⟨od, fa⟩, rfl, (dV_val mp).symm⟩
          have kG : KeepLT H (upd G a (.frz od (.dK (dV ps fv)))) := (Same.keep s14).trans (keep_dict haG)
          have k3 : KeepLT H H3 := kG.trans (Same.keep sH)
          have db : ∃ y, DGet H3 b (.int (ps[i] : Int)) (some y) ∧ Tr H n y (g' ps[i]) := by
            by_cases z : b = a
            · subst z
              exact ⟨_, da, by rw [← em _ mp]; exact kf _ mp⟩
            · exact ⟨fv' ps[i], .inl ⟨_, ky ps[i], .inl (sH _ _ (by rw [upd_ne z]; exact hbG)), rfl, (dV_val mp).symm⟩, kf' _ mp⟩
          obtain ⟨y, db, ty⟩ := db
          refine ⟨rfl, _, rfl, _, rfl, a, _, rfl, da, _, rfl, _, rfl, b, _, rfl, db, ?_⟩
          rw [← em _ mp] at ty
          exact ⟨_, _, _, rfl, TD.of (Tr.keep k3 (kf _ mp)), TD.of (Tr.keep k3 ty), fun H5 s5 => ky' _ _ s5 rfl⟩
        · intro H2 q2 hR
          refine ⟨q2 _ _ upd_same, ?_⟩
          obtain ⟨bs, hB, hb'⟩ := all_bits (K := K) hR
          have hR2 : (upd H2 a (.dK (dV ps fv))) D = some (.lst ((List.range ps.length).filterMap fun _ => some (V.bl true))) := by
            rw [upd_ne nDa]
            exact hR
          obtain ⟨bs, hB, hb'⟩ := all_bits (K := K) hR2
          refine ⟨D, bs, rfl, hB, ?_⟩
          rw [hb']
          refine k _ fun c o e => ?_
          by_cases z : c = a
          · rw [z, ha] at e
            cases e
            rw [z, upd_same]
          · rw [upd_ne z]
            exact q2 _ _ (by rw [upd_ne z]; exact s14 _ _ e)
end
end K21
set_option Elab.async false
set_option linter.all false
set_option maxRecDepth 100000
set_option maxHeartbeats 8000000
namespace K21
open PySem PySem.Spec PyProof.Rows L2 KB
theorem pe_dead {X : Cx} {e : Expr} : PE X e (fun _ _ _ => False) := ⟨fun _ _ _ _ _ _ h => h.elim⟩
/-- what is new in H' -/
def nw (H H' : Hp) : Hp := fun b => match H b with
  | none => H' b
  | some _ => none
theorem nw_at {H H' : Hp} {b : Addr} (h : H b = none) : nw H H' b = H' b := by
  unfold nw
  rw [h]
theorem nw_le (H H' : Hp) : Same (nw H H') H' := fun b o e => by
  unfold nw at e
  split at e
  · exact e
  · cases e
theorem nw_none {H H' : Hp} {b : Addr} {o : HO} (h : nw H H' b = some o) : H b = none := by
  unfold nw at h
  split at h
  · assumption
  · cases h
theorem nw_same {H G G2 : Hp} (k : Same G G2) : Same (nw H G) (nw H G2) := fun b o e => by
  rw [nw_at (nw_none e)]
  exact k _ _ (nw_le _ _ _ _ e)
theorem nw_sub {H G G2 : Hp} (k : Same H G) : Same (nw G G2) (nw H G2) := fun b o e => by
  rw [nw_at (none_back k (nw_none e))]
  exact nw_le _ _ _ _ e
def spSame (n : Nat) : Sp := fun vs H Q _ => ∃ (x : V) (d : PyData), vs = [x] ∧ Tr H n x d ∧ ∀ y H', Same H H' → Tr (nw H H') n y d → Q y H'
abbrev s_same : Stmt := top 42
abbrev N_same : List Str := ["_law_thing", "_law_item", "_law_key"]
theorem sc_same : FnScope N_same ["_law_thing"] (defScope s_same) := ⟨rfl, rfl, rfl, by decide +kernel, rfl, by decide +kernel, by decide +kernel⟩
section
variable {P : Program} {w : World} {K : PySem.W.Frag} {mg : Str → Option Value} {base : Heap} {f : Addr} {fd : FuncData}
theorem ok_same (F : FnP K "_law_same" s_same f fd) (Z : FreeS mg) (gS : mg "_law_same" = some (.ref f)) : ∀ n : Nat, FnOk P w K mg base CX0 (n + 1) f fd ["_law_thing"] (spSame n) := by
  have bS : Binds K fd ["_law_thing"] [] := F.bindsN fun _ _ _ _ _ _ us hl => match us, hl with | [_], _ => rfl
  intro n
  induction n with
  | zero =>
    refine F.ok sc_same (fun vs H Q E h => ?_) (fun cdv A outer s H vs Q E hr h => ?_)
    · obtain ⟨x, d, rfl, _⟩ := h
      rfl
    · obtain ⟨x, d, rfl, hx, k⟩ := h
      have hx : FlatD x d := hx
      have nd := sc_same.nd
      refine ⟨_, PSs.nox (pss_cons (ps_if (pt_val (pe_callB call_isi (by rfl) Z.isi (by decide +kernel) (pa_cons (pv 0) (pa_cons (pe_bltn (v := .ty "dict") (by rfl) Z.tdict (by decide +kernel) rfl) pa_nil)))) (pss_one ps_dead) (pss_nil))
      (pss_cons (ps_if (pt_val (pe_callB call_isi (by rfl) Z.isi (by decide +kernel) (pa_cons (pv 0) (pa_cons (pe_bltn (v := .ty "list") (by rfl) Z.tlist (by decide +kernel) rfl) pa_nil)))) (pss_one ps_dead) (pss_nil))
      (pss_one (ps_ret (pe_ifExp (pt_val (pe_callB call_isi (by rfl) Z.isi (by decide +kernel) (pa_cons (pv 0) (pa_cons (pe_bltn (v := .ty "tuple") (by rfl) Z.ttuple (by decide +kernel) rfl) pa_nil)))) (pe_dead) (pv 0)))))), ?_⟩
      obtain ⟨t', ty', k1', k2', k3', i', b', k4', k5'⟩ := FlatD.ty (K := K) (H := H) hx
      refine ⟨_, rfl, x, .ty "dict", .type t', .type "dict", false, rfl, .ty _, ty', kit_ty k3', false, rfl, iteF ?_⟩
      refine ⟨_, rfl, x, .ty "list", .type t', .type "list", false, rfl, .ty _, ty', kit_ty k1', false, rfl, iteF ?_⟩
      refine ⟨_, rfl, x, .ty "tuple", .type t', .type "tuple", false, rfl, .ty _, ty', kit_ty k2', false, rfl, iteF ?_⟩
      exact ⟨_, rfl, k x H (Same.refl H) (Tr.flat hx)⟩
  | succ n ih =>
    refine F.ok sc_same (fun vs H Q E h => ?_) (fun cdv A outer s H vs Q E hr h => ?_)
    · obtain ⟨x, d, rfl, _⟩ := h
      rfl
    · obtain ⟨x, d, rfl, hx, k⟩ := h
      have nd := sc_same.nd
      have sl : (2000 : Nat) ≤ sizeLine := by decide
      refine ⟨_, PSs.nox (pss_cons (ps_if (pt_val (pe_callB call_isi (by rfl) Z.isi (by decide +kernel) (pa_cons (pv 0) (pa_cons (pe_bltn (v := .ty "dict") (by rfl) Z.tdict (by decide +kernel) rfl) pa_nil)))) (pss_one ps_dead) (pss_nil))
      (pss_cons (ps_if (pt_val (pe_callB call_isi (by rfl) Z.isi (by decide +kernel) (pa_cons (pv 0) (pa_cons (pe_bltn (v := .ty "list") (by rfl) Z.tlist (by decide +kernel) rfl) pa_nil)))) (pss_one (ps_ret (pe_lc (own := [("_law_item", 1)]) (g := gName 1) (tt := tYes) (te := tCall (spSame n) [] E0 (tCons (tVar 1) tNil)) (by rfl) nd (pi_list (pv 0))
          (blkOk_by (own := [("_law_item", 1)]) (N := N_same) (sc := defScope s_same) (by decide +kernel)) (fun _ _ _ _ _ => pg_name (i := 1) nd rfl (Or.inl rfl)) (fun _ _ _ _ _ => pts_nil)
          (fun _ _ _ _ _ => pe_call ih hr rfl gS F.kp bS .nil pass0 (pa_cons (pv 1) pa_nil))))) (pss_nil))
      (pss_one (ps_ret (pe_ifExp (pt_val (pe_callB call_isi (by rfl) Z.isi (by decide +kernel) (pa_cons (pv 0) (pa_cons (pe_bltn (v := .ty "tuple") (by rfl) Z.ttuple (by decide +kernel) rfl) pa_nil)))) (pe_callTy call_tuple_of (by rfl) Z.ttuple (by decide +kernel) (pa_cons (pe_lc (own := [("_law_item", 1)]) (g := gName 1) (tt := tYes) (te := tCall (spSame n) [] E0 (tCons (tVar 1) tNil)) (by rfl) nd (pi_tup (pv 0))
          (blkOk_by (own := [("_law_item", 1)]) (N := N_same) (sc := defScope s_same) (by decide +kernel)) (fun _ _ _ _ _ => pg_name (i := 1) nd rfl (Or.inl rfl)) (fun _ _ _ _ _ => pts_nil)
          (fun _ _ _ _ _ => pe_call ih hr rfl gS F.kp bS .nil pass0 (pa_cons (pv 1) pa_nil))) pa_nil)) (pv 0)))))), ?_⟩
      rcases hx with hx | ⟨a, xs, ds, rfl, lx, l1, tx, kx⟩
      · skip
        obtain ⟨t', ty', k1', k2', k3', i', b', k4', k5'⟩ := FlatD.ty (K := K) (H := H) hx
        refine ⟨_, rfl, x, .ty "dict", .type t', .type "dict", false, rfl, .ty _, ty', kit_ty k3', false, rfl, iteF ?_⟩
        refine ⟨_, rfl, x, .ty "list", .type t', .type "list", false, rfl, .ty _, ty', kit_ty k1', false, rfl, iteF ?_⟩
        refine ⟨_, rfl, x, .ty "tuple", .type t', .type "tuple", false, rfl, .ty _, ty', kit_ty k2', false, rfl, iteF ?_⟩
        exact ⟨_, rfl, k x H (Same.refl H) (Tr.flat hx)⟩
      · rcases tx with ⟨ha, rfl⟩ | ⟨ha, rfl⟩
        · refine ⟨_, rfl, .ref a, .ty "dict", .type "list", .type "dict", false, rfl, .ty _, .base (.lst ha), kit_ty (by decide +kernel), false, rfl, iteF ?_⟩
          refine ⟨_, rfl, .ref a, .ty "list", .type "list", .type "list", true, rfl, .ty _, .base (.lst ha), kit_ty (by decide +kernel), true, rfl, iteT ?_⟩
          refine ⟨_, rfl, a, rfl, ⟨_, SqL.of ha⟩, fun D hD => ?_⟩
          refine lc_it (walk_list (K := K) (a := a) (xs := xs)) (fun i G => Same H G ∧ ∃ ys : List V, G D = some (.lst ys) ∧ ys.length = i ∧ ∀ (j : Nat) (u : V) (e : PyData), ys[j]? = some u → ds[j]? = some e → Tr (off (nw H G) D) n u e)
            ⟨Same.updf hD, [], upd_same, rfl, fun j u e h => by simp at h⟩ (fun i G _ hh => SqL.of (hh.1 _ _ ha)) ?_ ?_
          · rintro i v G G' hi ⟨sG, ys, hy, ly, ky'⟩ ⟨rfl, hv⟩
            have hd : ds[i]? = some ds[i] := List.getElem?_eq_getElem (by omega)
            refine ⟨rfl, _, rfl, v, _, rfl, (kx i v _ hv hd).same sG, fun y G2 s2 hy2 => ?_⟩
            refine ⟨ys, s2 _ _ hy, by omega, fun c o e => ?_, ys ++ [y], upd_same, by rw [List.length_append, ly]; rfl, fun j u e h1 h2 => ?_⟩
            · rw [upd_ne (ne_of_none e hD)]
              exact s2 _ _ (sG _ _ e)
            · have eo : off (nw H (upd G2 D (.lst (ys ++ [y])))) D = off (nw H G2) D := by
                funext c
                unfold off
                by_cases c1 : c = D
                · rw [if_pos c1, if_pos c1]
                · rw [if_neg c1, if_neg c1]
                  unfold nw
                  rw [upd_ne c1]
              rw [eo]
              by_cases hj : j < ys.length
              · rw [List.getElem?_append_left hj] at h1
                exact (ky' j u e h1 h2).same (off_same D (nw_same s2))
              · rw [List.getElem?_append_right (by omega)] at h1
                have hz : j - ys.length < 1 := by
                  have := (List.getElem?_eq_some_iff.mp h1).1
                  simpa using this
                have q1 := List.mem_of_getElem? h1
                rw [List.mem_singleton] at q1
                rw [show j = i by omega, hd] at h2
                rw [q1, ← Option.some.inj h2]
                refine hy2.same fun c o e => ?_
                have c1 : c ≠ D := fun z => by
                  have := nw_none e
                  rw [z, hy] at this
                  cases this
                rw [off_at c1]
                exact nw_sub sG _ _ e
          · rintro G ⟨sG, ys, hy, ly, ky'⟩
            refine k (.ref D) G sG ?_
            exact Tr.lst (by rw [nw_at hD]; exact hy) (by omega) l1 fun j u e h1 h2 => (ky' j u e h1 h2).same (off_le _ D)
        · refine ⟨_, rfl, .ref a, .ty "dict", .type "tuple", .type "dict", false, rfl, .ty _, .base (.tup ha), kit_ty (by decide +kernel), false, rfl, iteF ?_⟩
          refine ⟨_, rfl, .ref a, .ty "list", .type "tuple", .type "list", false, rfl, .ty _, .base (.tup ha), kit_ty (by decide +kernel), false, rfl, iteF ?_⟩
          refine ⟨_, rfl, .ref a, .ty "tuple", .type "tuple", .type "tuple", true, rfl, .ty _, .base (.tup ha), kit_ty (by decide +kernel), true, rfl, iteT ?_⟩
          refine ⟨_, rfl, a, rfl, ⟨_, SqT.of ha⟩, fun D hD => ?_⟩
          refine lc_it (walk_tup (K := K) (a := a) (xs := xs)) (fun i G => Same H G ∧ ∃ ys : List V, G D = some (.lst ys) ∧ ys.length = i ∧ ∀ (j : Nat) (u : V) (e : PyData), ys[j]? = some u → ds[j]? = some e → Tr (off (nw H G) D) n u e)
            ⟨Same.updf hD, [], upd_same, rfl, fun j u e h => by simp at h⟩ (fun i G _ hh => SqT.of (hh.1 _ _ ha)) ?_ ?_
          · rintro i v G G' hi ⟨sG, ys, hy, ly, ky'⟩ ⟨rfl, hv⟩
            have hd : ds[i]? = some ds[i] := List.getElem?_eq_getElem (by omega)
            refine ⟨rfl, _, rfl, v, _, rfl, (kx i v _ hv hd).same sG, fun y G2 s2 hy2 => ?_⟩
            refine ⟨ys, s2 _ _ hy, by omega, fun c o e => ?_, ys ++ [y], upd_same, by rw [List.length_append, ly]; rfl, fun j u e h1 h2 => ?_⟩
            · rw [upd_ne (ne_of_none e hD)]
              exact s2 _ _ (sG _ _ e)
            · have eo : off (nw H (upd G2 D (.lst (ys ++ [y])))) D = off (nw H G2) D := by
                funext c
                unfold off
                by_cases c1 : c = D
                · rw [if_pos c1, if_pos c1]
                · rw [if_neg c1, if_neg c1]
                  unfold nw
                  rw [upd_ne c1]
              rw [eo]
              by_cases hj : j < ys.length
              · rw [List.getElem?_append_left hj] at h1
                exact (ky' j u e h1 h2).same (off_same D (nw_same s2))
              · rw [List.getElem?_append_right (by omega)] at h1
                have hz : j - ys.length < 1 := by
                  have := (List.getElem?_eq_some_iff.mp h1).1
                  simpa using this
                have q1 := List.mem_of_getElem? h1
                rw [List.mem_singleton] at q1
                rw [show j = i by omega, hd] at h2
                rw [q1, ← Option.some.inj h2]
                refine hy2.same fun c o e => ?_
                have c1 : c ≠ D := fun z => by
                  have := nw_none e
                  rw [z, hy] at this
                  cases this
                rw [off_at c1]
                exact nw_sub sG _ _ e
          · rintro G ⟨sG, ys, hy, ly, ky'⟩
            refine ⟨D, ys, rfl, .inl ⟨SqL.of hy, fun T hT => ?_⟩⟩
            have sT := Same.updf (o := .tup ys) hT
            refine k (.ref T) _ (sG.trans sT) ?_
            exact Tr.tup (by rw [nw_at (none_back sG hT), upd_same]) (by omega) l1 fun j u e h1 h2 => ((ky' j u e h1 h2).same (off_le _ D)).same (nw_same sT)
end
end K21
set_option Elab.async false
set_option linter.all false
set_option maxRecDepth 100000
set_option maxHeartbeats 8000000
namespace K21
open PySem PySem.Spec PyProof.Rows L2 KB
def spLWord : Sp := fun vs H Q _ => ∃ (pu : Addr) (N : Nat), vs = [.ref pu] ∧ Purse H pu N ∧ N ≤ 2 ^ 40 ∧ ∀ z H', But pu H H' → Purse H' pu (N + 12) → wordS z = true → Q (.str z) H'
theorem joinL_nil : ∀ ls : List (List Nat), TL.joinL [] ls = ls.flatten
  | [] => rfl
  | [p] => by simp [TL.joinL]
  | p :: q :: r => by
    rw [TL.joinL, joinL_nil (q :: r)]
    simp
theorem word_join {ys : List Str} (h : ∀ y ∈ ys, ∃ c ∈ abc, y = ⟨#[c]⟩) (l1 : 1 ≤ ys.length) (l8 : ys.length ≤ 8) : wordS (Txt.join Str.empty ys) = true := by
  have e : (Txt.join Str.empty ys).cps.toList = (ys.map fun y => y.cps.toList).flatten := by
    have := TL.tl_join Str.empty ys
    rw [← TL.join_eq] at this
    rw [show TL.tl Str.empty = [] from rfl, joinL_nil] at this
    exact this
  have e2 : (ys.map fun y => y.cps.toList).flatten.length = ys.length := by
    clear e l1 l8
    induction ys with
    | nil => rfl
    | cons y ys ih =>
      obtain ⟨c, _, rfl⟩ := h y List.mem_cons_self
      rw [List.map_cons, List.flatten_cons, List.length_append, ih fun z hz => h z (List.mem_cons_of_mem _ hz), List.length_cons]
      simp
      omega
  have l : (Txt.join Str.empty ys).length = ys.length := by
    rw [← e2, ← e, Array.length_toList]
    rfl
  unfold wordS
  rw [l, Bool.and_eq_true, decide_eq_true_eq, List.all_eq_true]
  refine ⟨⟨l1, l8⟩, fun c hc => ?_⟩
  rw [e] at hc
  obtain ⟨q, hq, hcq⟩ := List.mem_flatten.mp hc
  obtain ⟨y, hy, rfl⟩ := List.mem_map.mp hq
  obtain ⟨d, hd, rfl⟩ := h y hy
  simp at hcq
  exact decide_eq_true (hcq ▸ hd)
theorem one_sum : ∀ {ys : List Str}, (∀ y ∈ ys, ∃ c ∈ abc, y = ⟨#[c]⟩) → (ys.map (·.length)).sum = ys.length
  | [], _ => rfl
  | y :: ys, h => by
    obtain ⟨c, _, rfl⟩ := h y List.mem_cons_self
    rw [List.map_cons, List.sum_cons, one_sum fun z hz => h z (List.mem_cons_of_mem _ hz), List.length_cons]
    show 1 + _ = _
    omega
theorem abc_at {r : Int} (h0 : 0 ≤ r) (h1 : r < 26) : ∃ c ∈ abc, atI (Str.ofString "abcdefghijklmnopqrstuvwxyz").cps.toList r = some c := by
  obtain ⟨n, rfl⟩ : ∃ n : Nat, r = n := ⟨r.toNat, by omega⟩
  have e : (Str.ofString "abcdefghijklmnopqrstuvwxyz").cps.toList = abc := by decide +kernel
  have l : n < abc.length := by
    have : abc.length = 26 := by decide
    omega
  refine ⟨abc[n], List.getElem_mem l, ?_⟩
  rw [e]
  exact atI_nat (List.getElem?_eq_getElem l)
section
variable {P : Program} {w : World} {K : PySem.W.Frag} {mg : Str → Option Value} {base : Heap}
abbrev s_word : Stmt := top 44
abbrev N_word : List Str := ["_law_purse_here", "_law_size", "_law_spin"]
theorem sc_word : FnScope N_word ["_law_purse_here"] (defScope s_word) := ⟨rfl, rfl, rfl, by decide +kernel, rfl, by decide +kernel, by decide +kernel⟩
theorem ok_word {f : Addr} {fd : FuncData} (F : FnP K "_law_word" s_word f fd) (Z : FreeS mg)
    {f_draw : Addr} {d_draw : FuncData} (g_draw : mg "_law_draw" = some (.ref f_draw)) (F_draw : FnP K "_law_draw" s_draw f_draw d_draw) (G_draw : FnOk P w K mg base CX0 2 f_draw d_draw ["_law_purse_here", "_law_many"] spDraw) :
    FnOk P w K mg base CX0 3 f fd ["_law_purse_here"] spLWord := by
  have b_draw : Binds K d_draw ["_law_purse_here", "_law_many"] [] := F_draw.bindsN fun _ _ _ _ _ _ us hl => match us, hl with | [_, _], _ => rfl
  refine F.ok sc_word (fun vs H Q E h => ?_) (fun cdv A outer s H vs Q E hr h => ?_)
  · obtain ⟨pu, N, rfl, _⟩ := h
    rfl
  · obtain ⟨pu, N, rfl, hP, hN, k⟩ := h
    have mx : ∀ m : Int, 1 ≤ m → m < 100 → mixes m = 1 := fun m h1 h2 => mixes_one h1 (by omega)
    have nd := sc_word.nd
    refine ⟨_, PSs.nox (pss_cons (ps_set (i := 1) nd rfl (Or.inl rfl) (pe_op op_add (pe_int) (pe_call G_draw (hr.mono (by decide)) rfl g_draw F_draw.kp b_draw .nil pass0 (pa_cons (pv 0) (pa_cons (pe_ifExp (pt_cmpR op_eq (pe_call G_draw (hr.mono (by decide)) rfl g_draw F_draw.kp b_draw .nil pass0 (pa_cons (pv 0) (pa_cons (pe_int) (pa_nil)))) (pe_int) (nomark _)) (pe_int) (pe_int)) (pa_nil))))))
      (pss_one (ps_ret (pe_join pe_str (pe_lc (own := [("_law_spin", 2)]) (g := gName 2) (tt := tYes) (te := tOp rIxS (tC (.str "abcdefghijklmnopqrstuvwxyz")) (tCall spDraw [] E0 (tCons (tVar 0) (tCons (tC (.int 26)) tNil)))) (by rfl) nd (pi_range1 (by rfl) Z.range (pa_cons (pv 1) pa_nil)) (blkOk_by (own := [("_law_spin", 2)]) (N := N_word) (sc := defScope s_word) (by decide +kernel)) (fun _ _ _ _ _ => pg_name (i := 2) nd rfl (Or.inl rfl)) (fun _ _ _ _ _ => pts_nil) (fun _ _ _ _ _ => pe_ix ix_str pe_str (pe_call G_draw (hr.mono (by decide)) rfl g_draw F_draw.kp b_draw .nil pass0 (pa_cons (pv 0) (pa_cons pe_int pa_nil))) (fun _ _ => rfl))))))), ?_⟩
    have one : ∀ m : Int, 1 ≤ m → m < 100 → ∀ M, M ≤ 2 ^ 41 → M + mixes m ≤ 2 ^ 50 ∧ mixes m ≤ 2 ^ 50 := fun m h1 h2 M hM => by
      rw [mx m h1 h2]
      omega
    refine ⟨_, rfl, _, rfl, pu, 3, N, rfl, by decide, log_small (by decide) (by decide), hP, (one 3 (by decide) (by decide) N (by omega)).1, (one 3 (by decide) (by decide) N (by omega)).2, fun r H1 r0 r1 b1 P1 => ?_⟩
    rw [mx 3 (by decide) (by decide)] at P1
    refine ⟨rfl, _, rfl, ?_⟩
    have fin : ∀ (n : Nat) (H2 : Hp), 1 ≤ n → n ≤ 8 → But pu H H2 → Purse H2 pu (N + 2) → ∀ D, H2 D = none → D ≠ pu → ∀ (ys : List Str) (H3 : Hp), But pu H2 H3 → (∃ M, Purse H3 pu M ∧ M ≤ N + 2 + n) → ys.length = n → (∀ y ∈ ys, ∃ c ∈ abc, y = ⟨#[c]⟩) → Q (.str (Txt.join Str.empty ys)) H3 := fun n H2 n1 n8 b2 P2 D hD nD ys H3 b3 ⟨M, PM, lM⟩ ly cy =>
      k _ H3 (b2.trans b3) (PM.mono (by omega)) (word_join cy (by omega) (by omega))
    have go : ∀ (r2 : Int) (H2 : Hp), 0 ≤ r2 → r2 < 8 → But pu H1 H2 → Purse H2 pu (N + 1 + 1) →
        tRet (tM1 (fun x xs H_1 Q => ∃ a p, ∃ ys : List Str, x = V.str a ∧ xs = [V.ref p] ∧ (SqL K H_1 p (List.map V.str ys) ∨ SqT K H_1 p (List.map V.str ys)) ∧ (List.map (fun x => x.length) ys).sum + ys.length * a.length ≤ 16777216 ∧ Q (V.str (Txt.join a ys)) H_1) (tC (V.str (Str.ofString "")))
          (tLc (iRng1 (tCons (tVar 1) tNil)) (gName 2) tYes (tOp rIxS (tC (V.str (Str.ofString "abcdefghijklmnopqrstuvwxyz"))) (tCall spDraw [] E0 (tCons (tVar 0) (tCons (tC (V.int 26)) tNil)))) [2]))
          { nx := fun x H' => Q V.non H', rt := Q } [some (.ref pu), some (.int (1 + r2)), none] H2 := fun r2 H2 q0 q1 b2 P2 => by
      obtain ⟨n, hn⟩ : ∃ n : Nat, 1 + r2 = (n : Int) := ⟨(1 + r2).toNat, by omega⟩
      rw [hn]
      refine ⟨⟨_, rfl⟩, _, rfl, (n : Int), rfl, by omega, by omega, fun D hD => ?_⟩
      have nD : D ≠ pu := fresh_ne P2 hD
      have b12 := b1.trans b2
      rw [Int.toNat_natCast]
      refine lc_it (walk_range (lo := 0) (n := n)) (fun i G => But pu H2 G ∧ (∃ M, Purse G pu M ∧ M ≤ N + 2 + i) ∧ ∃ ys : List Str, G D = some (.lst (ys.map V.str)) ∧ ys.length = i ∧ ∀ y ∈ ys, ∃ c ∈ abc, y = ⟨#[c]⟩)
        ⟨But.of (Same.updf hD), ⟨N + 2, P2.same (Same.updf hD), Nat.le_refl _⟩, [], upd_same, rfl, fun y hy => nomatch hy⟩ (fun i G _ _ => trivial) ?_ ?_
      · rintro i x G G' hi ⟨bG, ⟨M, PM, lM⟩, ys, hy, ly, cy⟩ ⟨rfl, rfl⟩
        refine ⟨rfl, ?_⟩
        refine ⟨_, rfl, pu, 26, M, rfl, by decide, log_small (by decide) (by decide), PM, (one 26 (by decide) (by decide) M (by omega)).1, (one 26 (by decide) (by decide) M (by omega)).2, fun s G2 s0 s1 b3 P3 => ?_⟩
        rw [mx 26 (by decide) (by decide)] at P3
        obtain ⟨c, hc, ec⟩ := abc_at s0 s1
        have sl : (100 : Nat) ≤ sizeLine := by decide
        refine ⟨_, s, c, rfl, rfl, (by show 26 ≤ sizeLine; omega), ec, ys.map V.str, b3 _ _ nD hy, by rw [List.length_map]; omega, (fun d o n1 e => by
          rw [upd_ne (ne_of_none e hD)]
          exact (bG.trans b3) d o n1 e), ⟨M + 1, P3.same' (upd_ne nD.symm), by omega⟩, ys ++ [⟨#[c]⟩], by rw [upd_same, List.map_append]; rfl, by rw [List.length_append, ly]; rfl, fun y hy' => ?_⟩
        · rcases List.mem_append.mp hy' with h | h
          · exact cy y h
          · rw [List.mem_singleton] at h
            exact ⟨c, hc, h⟩
      · rintro G ⟨bG, ⟨M, PM, lM⟩, ys, hy, ly, cy⟩
        refine ⟨_, D, ys, rfl, rfl, Or.inl (SqL.of hy), ?_, fin n H2 (by omega) (by omega) b12 P2 D hD nD ys G bG ⟨M, PM, lM⟩ ly cy⟩
        rw [one_sum cy]
        show ys.length + ys.length * 0 ≤ 16777216
        omega
    by_cases e : r = 0
    · rw [decide_eq_true (congrArg V.int e)]
      refine iteT ?_
      refine ⟨pu, 8, N + 1, rfl, by decide, log_small (by decide) (by decide), P1, (one 8 (by decide) (by decide) (N + 1) (by omega)).1, (one 8 (by decide) (by decide) (N + 1) (by omega)).2, fun r2 H2 q0 q1 b2 P2 => ?_⟩
      rw [mx 8 (by decide) (by decide)] at P2
      exact ⟨_, _, rfl, rfl, go r2 H2 q0 (by omega) b2 P2⟩
    · rw [decide_eq_false fun z => e (V.int.inj z)]
      refine iteF ?_
      refine ⟨pu, 3, N + 1, rfl, by decide, log_small (by decide) (by decide), P1, (one 3 (by decide) (by decide) (N + 1) (by omega)).1, (one 3 (by decide) (by decide) (N + 1) (by omega)).2, fun r2 H2 q0 q1 b2 P2 => ?_⟩
      rw [mx 3 (by decide) (by decide)] at P2
      exact ⟨_, _, rfl, rfl, go r2 H2 q0 (by omega) b2 P2⟩
end
end K21
set_option Elab.async false
set_option linter.all false
set_option maxRecDepth 100000
set_option maxHeartbeats 8000000
namespace K21
open PySem PySem.Spec PyProof.Rows L2 KB
/-- two words, in a new list -/
def spLWords : Sp := fun vs H Q _ => ∃ (pu : Addr) (N : Nat), vs = [.ref pu, .int 2] ∧ Purse H pu N ∧ N ≤ 2 ^ 39 ∧
  ∀ p y1 y2 H', But pu H H' → Purse H' pu (N + 50) → H p = none → H' p = some (.lst [.str y1, .str y2]) → wordS y1 = true → wordS y2 = true → Q (.ref p) H'
theorem word_len {z : Str} (h : wordS z = true) : 1 ≤ z.length ∧ z.length ≤ 8 := by
  unfold wordS at h
  rw [Bool.and_eq_true, decide_eq_true_eq] at h
  exact h.1
theorem word_abc {z : Str} (h : wordS z = true) {c : Nat} (m : c ∈ z.cps.toList) : c ∈ abc := by
  unfold wordS at h
  rw [Bool.and_eq_true, List.all_eq_true] at h
  exact of_decide_eq_true (h.2 c m)
theorem word_of {l : List Nat} (h1 : 1 ≤ l.length) (h8 : l.length ≤ 8) (h : ∀ c ∈ l, c ∈ abc) : wordS (SX.S l) = true := by
  unfold wordS
  rw [SX.S_len, Bool.and_eq_true, decide_eq_true_eq, List.all_eq_true]
  exact ⟨⟨h1, h8⟩, fun c m => decide_eq_true (h c m)⟩
/-- a word with another letter at one place -/
theorem word_near {z : Str} (h : wordS z = true) {s : Int} (s0 : 0 ≤ s) (s1 : s < z.length) {c : Nat} (hc : c ∈ abc) :
    wordS (Txt.slice z none (some s) ++ ⟨#[c]⟩ ++ Txt.slice z (some (s + 1)) none) = true := by
  obtain ⟨l, rfl⟩ : ∃ l, z = SX.S l := ⟨_, (SX.S_tl z).symm⟩
  rw [SX.S_len] at s1
  have l8 := word_len h
  rw [SX.S_len] at l8
  rw [SX.slice_to s0, SX.slice_from (by omega), show (⟨#[c]⟩ : Str) = SX.S [c] from rfl, SX.S_cat, SX.S_cat]
  refine word_of ?_ ?_ fun d m => ?_
  · simp
    omega
  · simp
    omega
  · rcases List.mem_append.mp m with m | m
    · rcases List.mem_append.mp m with m | m
      · exact word_abc h (List.mem_of_mem_take m)
      · rw [List.mem_singleton.mp m]
        exact hc
    · exact word_abc h (List.mem_of_mem_drop m)
theorem near_len {z : Str} (h : wordS z = true) {s : Int} (s0 : 0 ≤ s) (s1 : s < z.length) (c : Nat) :
    (Txt.slice z none (some s)).length + (⟨#[c]⟩ : Str).length ≤ 20 ∧ (Txt.slice z none (some s) ++ ⟨#[c]⟩).length + (Txt.slice z (some (s + 1)) none).length ≤ 20 := by
  obtain ⟨l, rfl⟩ : ∃ l, z = SX.S l := ⟨_, (SX.S_tl z).symm⟩
  rw [SX.S_len] at s1
  have l8 := word_len h
  rw [SX.S_len] at l8
  rw [SX.slice_to s0, SX.slice_from (by omega), show (⟨#[c]⟩ : Str) = SX.S [c] from rfl, SX.S_cat, SX.S_len, SX.S_len, SX.S_len, SX.S_len]
  simp
  omega
theorem ite_by {b : Bool} {A B : Prop} (a : b = true → A) (f : b = false → B) : if b = true then A else B := by
  cases b with
  | true => exact iteT (a rfl)
  | false => exact iteF (f rfl)
theorem cutW {R : Str → Hp → Prop} {C : Str → Hp → Prop} {T : Prop} (a : (∀ y H, C y H → R y H) → T) (b : ∀ y H, C y H → R y H) : T := a b
def ltr (j : Nat) : V := .str ⟨#[97 + j]⟩
theorem signs_abc : signsV (Str.ofString "abcdefghijklmnopqrstuvwxyz") = (List.range 26).map ltr := by decide +kernel
theorem ltr_word {j : Nat} (h : j < 26) : wordS ⟨#[97 + j]⟩ = true := word_of (l := [97 + j]) (by simp) (by simp) fun c m => by
  rw [List.mem_singleton.mp m]
  unfold abc
  exact List.mem_map.mpr ⟨j, List.mem_range.mpr h, by omega⟩
theorem sel_head {ys : List Str} (l : ys.length ≤ 1) : ∃ (y : Str) (rest : List V), wordS y = true ∧ ((List.range 26).filterMap fun j => if inV (ltr j) (ys.map V.str) then none else some (ltr j)) = .str y :: rest := by
  cases e : ((List.range 26).filterMap fun j => if inV (ltr j) (ys.map V.str) then none else some (ltr j)) with
  | nil =>
    rw [List.filterMap_eq_nil_iff] at e
    have e0 := e 0 (by decide)
    have e1 := e 1 (by decide)
    exfalso
    match ys, l with
    | [], _ => simp [inV] at e0
    | [y], _ =>
      simp [inV, ltr, eqV] at e0 e1
      rw [e0] at e1
      exact absurd e1 (by decide)
  | cons v rest =>
    have m : v ∈ ((List.range 26).filterMap fun j => if inV (ltr j) (ys.map V.str) then none else some (ltr j)) := by
      rw [e]
      exact List.mem_cons_self
    obtain ⟨j, hj, ej⟩ := List.mem_filterMap.mp m
    refine ⟨⟨#[97 + j]⟩, rest, ltr_word (List.mem_range.mp hj), ?_⟩
    split at ej
    · cases ej
    · cases ej
      rfl
theorem flat_strs (ys : List Str) : (ys.map V.str).all flatV = true := by
  rw [List.all_eq_true]
  intro v m
  obtain ⟨y, _, rfl⟩ := List.mem_map.mp m
  rfl
section
variable {P : Program} {w : World} {K : PySem.W.Frag} {mg : Str → Option Value} {base : Heap}
abbrev s_words : Stmt := top 45
abbrev N_words : List Str := ["_law_purse_here", "_law_many", "_law_base", "_law_near", "_law_spot", "_law_found", "_law_spin", "_law_word_here", "_law_letter"]
theorem sc_words : FnScope N_words ["_law_purse_here", "_law_many"] (defScope s_words) := ⟨rfl, rfl, rfl, by decide +kernel, rfl, by decide +kernel, by decide +kernel⟩
theorem ok_words {f : Addr} {fd : FuncData} (F : FnP K "_law_words" s_words f fd) (Z : FreeS mg)
    {f_word : Addr} {d_word : FuncData} (g_word : mg "_law_word" = some (.ref f_word)) (F_word : FnP K "_law_word" s_word f_word d_word) (G_word : FnOk P w K mg base CX0 3 f_word d_word ["_law_purse_here"] spLWord)
    {f_draw : Addr} {d_draw : FuncData} (g_draw : mg "_law_draw" = some (.ref f_draw)) (F_draw : FnP K "_law_draw" s_draw f_draw d_draw) (G_draw : FnOk P w K mg base CX0 2 f_draw d_draw ["_law_purse_here", "_law_many"] spDraw) :
    FnOk P w K mg base CX0 4 f fd ["_law_purse_here", "_law_many"] spLWords := by
  have b_word : Binds K d_word ["_law_purse_here"] [] := F_word.bindsN fun _ _ _ _ _ _ us hl => match us, hl with | [_], _ => rfl
  have b_draw : Binds K d_draw ["_law_purse_here", "_law_many"] [] := F_draw.bindsN fun _ _ _ _ _ _ us hl => match us, hl with | [_, _], _ => rfl
  refine F.ok sc_words (fun vs H Q E h => ?_) (fun cdv A outer s H vs Q E hr h => ?_)
  · obtain ⟨pu, N, rfl, _⟩ := h
    rfl
  · obtain ⟨pu, N, rfl, hP, hN, k⟩ := h
    have mx : ∀ m : Int, 1 ≤ m → m < 100 → mixes m = 1 := fun m h1 h2 => mixes_one h1 (by omega)
    have one : ∀ m : Int, 1 ≤ m → m < 100 → ∀ M, M ≤ 2 ^ 41 → M + mixes m ≤ 2 ^ 50 ∧ mixes m ≤ 2 ^ 50 := fun m h1 h2 M hM => by
      rw [mx m h1 h2]
      omega
    have nd := sc_words.nd
    refine ⟨_, PSs.nox (pss_cons (ps_par (i := 2) (j := 3) rfl nd rfl rfl (by decide) rfl rfl (pa_cons (pe_call G_word (hr.mono (by decide)) rfl g_word F_word.kp b_word .nil pass0 (pa_cons (pv 0) (pa_nil))) (pa_cons (pe_cmpR op_eq (pe_call G_draw (hr.mono (by decide)) rfl g_draw F_draw.kp b_draw .nil pass0 (pa_cons (pv 0) (pa_cons (pe_int) (pa_nil)))) (pe_int) (nomark _)) (pa_nil))) rfl)
      (pss_cons (ps_asg (pe_tup (pa_cons (pe_call G_draw (hr.mono (by decide)) rfl g_draw F_draw.kp b_draw .nil pass0 (pa_cons (pv 0) (pa_cons (pe_callB call_len_str (by rfl) Z.len (by decide +kernel) (pa_cons (pv 2) (pa_nil))) (pa_nil)))) (pa_cons (pe_lst (pa_nil)) (pa_nil)))) (pg_tup rfl (pgs_cons (pg_name (i := 4) nd rfl (Or.inl rfl)) (pgs_cons (pg_name (i := 5) nd rfl (Or.inr rfl)) (pgs_nil)))))
      (pss_cons (ps_for PassesOwn.never rfl (pi_range1 (by rfl) Z.range (pa_cons (pv 1) (pa_nil))) (pg_name (i := 6) nd rfl (Or.inl rfl))
        (pss_cons (ps_set (i := 7) nd rfl (Or.inl rfl) (pe_op op_add_str (pe_op op_add_str (pe_slice C8.sl_txt (pv 2) po_none (po_some (pv 4))) (pe_ix ix_str pe_str (pe_call G_draw (hr.mono (by decide)) rfl g_draw F_draw.kp b_draw .nil pass0 (pa_cons (pv 0) (pa_cons pe_int pa_nil))) (fun _ _ => rfl))) (pe_slice C8.sl_txt (pv 2) (po_some (pe_op op_add (pv 4) pe_int)) po_none)))
      (pss_cons (ps_if (pt_not (pt_truth (pv 3) (fun _ => rfl))) (pss_one (ps_set (i := 7) nd rfl (Or.inl rfl) (pe_call G_word (hr.mono (by decide)) rfl g_word F_word.kp b_word .nil pass0 (pa_cons (pv 0) (pa_nil))))) (pss_nil))
      (pss_cons (ps_if (pt_cmpR op_in_seq (pv 7) (pv 5) (by rfl)) (pss_one (ps_set (i := 7) nd rfl (Or.inl rfl) (pe_ix ix_list (pe_lc (own := [("_law_letter", 8)]) (g := gName 8) (tt := tTest (tOp (rIn K true) (tVar 8) (tVar 5))) (te := tVar 8) (by rfl) nd (pi_list (pe_callTy (cr_listS rfl) (by rfl) Z.tlist (by decide +kernel) (pa_cons pe_str pa_nil)))
          (blkOk_by (own := [("_law_letter", 8)]) (N := N_words) (sc := defScope s_words) (by decide +kernel)) (fun _ _ _ _ _ => pg_name (i := 8) nd rfl (Or.inl rfl)) (fun _ _ _ _ _ => pts_one (pt_cmpR op_notIn_seq (pv 8) (pv 5) (by rfl)))
          (fun _ _ _ _ _ => pv 8)) (pe_int) (fun _ _ => rfl)))) (pss_nil))
      (pss_one (ps_expr (pe_bm PySem.F.plainAttrs_list PySem.F.slot_list_append PySem.F.type_list_append mt_append (pv 5) (pa_cons (pv 7) (pa_nil)))))))))
      (pss_one (ps_ret (pv 5)))))), ?_⟩
    refine ⟨_, rfl, pu, N, rfl, hP, by omega, fun z H1 b1 P1 hz => ?_⟩
    refine ⟨_, rfl, pu, 3, N + 12, rfl, by decide, log_small (by decide) (by decide), P1, (one 3 (by decide) (by decide) _ (by omega)).1, (one 3 (by decide) (by decide) 0 (by omega)).2, fun r H2 r0 r1 b2 P2 => ?_⟩
    rw [mx 3 (by decide) (by decide)] at P2
    refine ⟨rfl, ?_⟩
    have l8 := word_len hz
    refine ⟨_, _, rfl, ?_⟩
    generalize decide (V.int r = V.int 0) = nb
    refine ⟨_, rfl, _, rfl, z, rfl, by have : (100 : Nat) ≤ sizeLine := by decide
                                       omega, pu, z.length, N + 13, rfl, by omega, log_small (by omega) (by omega), P2, (one z.length (by omega) (by omega) _ (by omega)).1, (one z.length (by omega) (by omega) 0 (by omega)).2, fun sp H3 s0 s1 b3 P3 => ?_⟩
    rw [mx z.length (by omega) (by omega)] at P3
    have sl : (100 : Nat) ≤ sizeLine := by decide
    refine ⟨Nat.zero_le _, fun L hL => ⟨(by show 2 ≤ sizeLine; omega), fun T hT => ⟨T, _, rfl, .inl (.inl upd_same), rfl, _, [_], rfl, _, [], rfl, rfl, ?_⟩⟩⟩
    have nL : L ≠ pu := fresh_ne P3 hL
    have hL0 : H L = none := ((b1.trans b2).trans b3).none nL hL
    have nTL : T ≠ L := fun z => by
      rw [z, upd_same] at hT
      cases hT
    have hT3 : H3 T = none := by
      rw [upd_ne nTL] at hT
      exact hT
    have nT : T ≠ pu := fresh_ne P3 hT3
    have b123 := (b1.trans b2).trans b3
    refine ⟨_, rfl, 2, rfl, by decide, by decide, ?_⟩
    refine for_it (walk_range (lo := 0) (n := 2)) (fun i σ G => But pu H3 G ∧ (∃ M, Purse G pu M ∧ M ≤ N + 14 + 13 * i) ∧ (∃ ys : List Str, G L = some (.lst (ys.map V.str)) ∧ ys.length = i ∧ ∀ y ∈ ys, wordS y = true) ∧
        ∃ v6 v7 v8, σ = [some (.ref pu), some (.int 2), some (.str z), some (.bl nb), some (.int sp), some (.ref L), v6, v7, v8])
      ⟨fun c o n1 e => by rw [upd_ne (ne_of_none e hT3), upd_ne (ne_of_none e hL)]; exact e, ⟨N + 14, P3.same' (by rw [upd_ne nT.symm, upd_ne nL.symm]), by omega⟩, ⟨[], by rw [upd_ne nTL.symm, upd_same]; rfl, rfl, fun y hy => nomatch hy⟩, _, _, _, rfl⟩ (fun i σ G _ _ => trivial) ?_ ?_
    · rintro i x σ G G' hi ⟨bG, ⟨M, PM, lM⟩, ⟨ys, hy, ly, wy'⟩, v6, v7, v8, rfl⟩ ⟨rfl, rfl⟩
      have l20 : (20 : Nat) ≤ sizeLine := by omega
      have zl : z.length ≤ sizeLine := by omega
      have iN : N + 14 + 13 * i ≤ 2 ^ 41 := by omega
      refine ⟨_, rfl, _, rfl, _, rfl, z, rfl, zl, ?_⟩
      refine ⟨_, rfl, pu, 26, M, rfl, by decide, log_small (by decide) (by decide), PM, (one 26 (by decide) (by decide) M (by omega)).1, (one 26 (by decide) (by decide) 0 (by omega)).2, fun t G1 t0 t1 b4 P4 => ?_⟩
      rw [mx 26 (by decide) (by decide)] at P4
      obtain ⟨c, hc, ec⟩ := abc_at t0 t1
      obtain ⟨n1, n2⟩ := near_len hz s0 s1 c
      refine ⟨_, t, c, rfl, rfl, (by show 26 ≤ sizeLine; omega), ec, _, _, rfl, rfl, by omega, ?_⟩
      refine ⟨_, rfl, _, rfl, sp, 1, rfl, rfl, _, rfl, z, rfl, zl, _, _, rfl, rfl, by omega, ?_⟩
      apply cutW (C := fun y G2 => wordS y = true ∧ But pu G' G2 ∧ ∃ M2, Purse G2 pu M2 ∧ M2 ≤ N + 14 + 13 * i + 13)
      · intro tail
        refine ⟨_, rfl, nb, rfl, ?_⟩
        refine ite_by (fun _ => ?_) (fun _ => ?_)
        · refine ⟨_, rfl, pu, M + 1, rfl, P4, by omega, fun y G2 b5 P5 wy => ?_⟩
          exact tail y G2 ⟨wy, b4.trans b5, _, P5, by omega⟩
        · exact tail _ _ ⟨word_near hz s0 s1 hc, b4, _, P4, by omega⟩
      · rintro y G2 ⟨wy, b5, M2, P5, lM2⟩
        have hy2 := b5 _ _ nL hy
        apply cutW (C := fun y3 G3 => wordS y3 = true ∧ Same G2 G3)
        · intro tail
          refine ⟨_, rfl, _, rfl, L, ys.map V.str, rfl, Or.inl (SqL.of hy2), rfl, flat_strs ys, _, rfl, ?_⟩
          refine ite_by (fun _ => ?_) (fun _ => ?_)
          · refine ⟨_, rfl, (by show 26 ≤ sizeLine; omega), fun q hq => ?_⟩
            rw [signs_abc]
            have sq : Same G2 (upd G2 q (.lst ((List.range 26).map ltr))) := Same.updf hq
            refine ⟨q, rfl, ⟨_, SqL.of upd_same⟩, fun D hD => ?_⟩
            refine lc_sel (walk_list (K := K) (a := q) (xs := (List.range 26).map ltr)) (fun j => if inV (ltr j) (ys.map V.str) then none else some (ltr j)) (by decide) hD (fun H2 s2 => SqL.of (s2 _ _ upd_same)) ?_ ?_
            · rintro j v H5 H6 Qy Qn hj s5 ⟨rfl, hv⟩ ky kn
              have j26 : j < 26 := hj
              rw [List.getElem?_map, List.getElem?_range j26] at hv
              obtain rfl := Option.some.inj hv
              refine ⟨rfl, _, rfl, _, rfl, L, ys.map V.str, rfl, Or.inl (SqL.of (s5 _ _ (sq _ _ hy2))), rfl, flat_strs ys, _, rfl, ?_⟩
              cases e2 : inV (ltr j) (ys.map V.str) with
              | false => exact iteT ⟨_, rfl, ky _ _ (Same.refl _) (by simp [e2])⟩
              | true => exact iteF (kn _ (Same.refl _) (by simp [e2]))
            · intro H5 s5 hR
              obtain ⟨y4, rest, w4, ej⟩ := sel_head (ys := ys) (by omega)
              have hR2 : H5 D = some (.lst (((List.range 26).filterMap fun j => if inV (ltr j) (ys.map V.str) then none else some (ltr j)))) := hR
              rw [ej] at hR2
              refine ⟨D, _, 0, .str y4, rfl, rfl, SqL.of hR2, atI_nat (j := 0) rfl, ?_⟩
              exact tail y4 H5 ⟨w4, sq.trans s5⟩
          · exact tail y G2 ⟨wy, Same.refl _⟩
        · rintro y3 G3 ⟨w3, s3⟩
          refine ⟨_, rfl, .inl ⟨rfl, _, SqL.of (s3 _ _ hy2)⟩, _, rfl, L, ys.map V.str, .str y3, rfl, rfl, s3 _ _ hy2, by rw [List.length_map]; omega, ?_⟩
          refine ⟨fun c o n1 e => ?_, ⟨M2, (P5.same s3).same' (upd_ne nL.symm), by omega⟩, ⟨ys ++ [y3], by rw [upd_same, List.map_append]; rfl, by rw [List.length_append, ly]; rfl, fun u hu => ?_⟩, _, _, _, rfl⟩
          · rw [upd_ne (ne_of_none e hL)]
            exact s3 _ _ (b5 _ _ n1 (bG _ _ n1 e))
          · rcases List.mem_append.mp hu with h | h
            · exact wy' u h
            · rw [List.mem_singleton.mp h]
              exact w3
    · rintro σ G ⟨bG, ⟨M, PM, lM⟩, ⟨ys, hy, ly, wy⟩, v6, v7, v8, rfl⟩
      refine ⟨_, rfl, ?_⟩
      match ys, ly with
      | [y1, y2], _ => exact k L y1 y2 G (b123.trans bG) (PM.mono (by omega)) hL0 hy (wy _ (by simp)) (wy _ (by simp))
end
end K21
set_option Elab.async false
set_option linter.all false
set_option maxRecDepth 100000
set_option maxHeartbeats 8000000
namespace K21
open PySem PySem.Spec PyProof.Rows L2 KB
/-- ascending pages, in a new list -/
def spSheets : Sp := fun vs H Q _ => ∃ (pu : Addr) (n N : Nat), vs = [.ref pu, .int (n : Int)] ∧ n ≤ 5 ∧ Purse H pu N ∧ N ≤ 2 ^ 39 ∧
  ∀ p ps H', But pu H H' → Purse H' pu (N + 10) → H p = none → H' p = some (.lst (numsV ps)) → ps.length = n → ps.Pairwise (· < ·) → (∀ x ∈ ps, x ≤ 30) → Q (.ref p) H'
theorem numsV_snoc (l : List Nat) (x : Nat) : numsV (l ++ [x]) = numsV l ++ [V.int (x : Int)] := by
  unfold numsV
  rw [List.map_append]
  rfl
theorem asc_snoc {l : List Nat} {x : Nat} (h : l.Pairwise (· < ·)) (k : ∀ y ∈ l, y < x) : (l ++ [x]).Pairwise (· < ·) :=
  List.pairwise_append.mpr ⟨h, List.pairwise_singleton _ _, fun a m b n => by rw [List.mem_singleton.mp n]; exact k a m⟩
section
variable {P : Program} {w : World} {K : PySem.W.Frag} {mg : Str → Option Value} {base : Heap}
abbrev s_sheets : Stmt := top 49
abbrev N_sheets : List Str := ["_law_purse_here", "_law_many", "_law_found", "_law_page", "_law_spin"]
theorem sc_sheets : FnScope N_sheets ["_law_purse_here", "_law_many"] (defScope s_sheets) := ⟨rfl, rfl, rfl, by decide +kernel, rfl, by decide +kernel, by decide +kernel⟩
theorem ok_sheets {f : Addr} {fd : FuncData} (F : FnP K "_law_sheets" s_sheets f fd) (Z : FreeS mg)
    {f_draw : Addr} {d_draw : FuncData} (g_draw : mg "_law_draw" = some (.ref f_draw)) (F_draw : FnP K "_law_draw" s_draw f_draw d_draw) (G_draw : FnOk P w K mg base CX0 2 f_draw d_draw ["_law_purse_here", "_law_many"] spDraw) :
    FnOk P w K mg base CX0 3 f fd ["_law_purse_here", "_law_many"] spSheets := by
  have b_draw : Binds K d_draw ["_law_purse_here", "_law_many"] [] := F_draw.bindsN fun _ _ _ _ _ _ us hl => match us, hl with | [_, _], _ => rfl
  refine F.ok sc_sheets (fun vs H Q E h => ?_) (fun cdv A outer s H vs Q E hr h => ?_)
  · obtain ⟨pu, n, N, rfl, _⟩ := h
    rfl
  · obtain ⟨pu, n, N, rfl, n4, hP, hN, k⟩ := h
    have mx : ∀ m : Int, 1 ≤ m → m < 100 → mixes m = 1 := fun m h1 h2 => mixes_one h1 (by omega)
    have one : ∀ m : Int, 1 ≤ m → m < 100 → ∀ M, M ≤ 2 ^ 41 → M + mixes m ≤ 2 ^ 50 ∧ mixes m ≤ 2 ^ 50 := fun m h1 h2 M hM => by
      rw [mx m h1 h2]
      omega
    have nd := sc_sheets.nd
    refine ⟨_, PSs.nox (pss_cons (ps_par (i := 2) (j := 3) rfl nd rfl rfl (by decide) rfl rfl (pa_cons (pe_lst (pa_nil)) (pa_cons (pe_call G_draw (hr.mono (by decide)) rfl g_draw F_draw.kp b_draw .nil pass0 (pa_cons (pv 0) (pa_cons (pe_int) (pa_nil)))) (pa_nil))) rfl)
      (pss_cons (ps_for PassesOwn.never rfl (pi_range1 (by rfl) Z.range (pa_cons (pv 1) (pa_nil))) (pg_name (i := 4) nd rfl (Or.inl rfl))
        (pss_cons (ps_expr (pe_bm PySem.F.plainAttrs_list PySem.F.slot_list_append PySem.F.type_list_append mt_append (pv 2) (pa_cons (pv 3) (pa_nil))))
      (pss_one (ps_set (i := 3) nd rfl (Or.inl rfl) (pe_op op_add (pe_op op_add (pv 3) (pe_int)) (pe_call G_draw (hr.mono (by decide)) rfl g_draw F_draw.kp b_draw .nil pass0 (pa_cons (pv 0) (pa_cons (pe_int) (pa_nil)))))))))
      (pss_one (ps_ret (pv 2))))), ?_⟩
    have sl : (100 : Nat) ≤ sizeLine := by decide
    refine ⟨Nat.zero_le _, fun L hL => ?_⟩
    have nL : L ≠ pu := fresh_ne hP hL
    have PL : Purse (upd H L (.lst [])) pu N := hP.same (Same.updf hL)
    refine ⟨_, rfl, pu, 3, N, rfl, by decide, log_small (by decide) (by decide), PL, (one 3 (by decide) (by decide) _ (by omega)).1, (one 3 (by decide) (by decide) 0 (by omega)).2, fun r H2 r0 r1 b2 P2 => ?_⟩
    rw [mx 3 (by decide) (by decide)] at P2
    obtain ⟨r, rfl⟩ : ∃ q : Nat, r = (q : Int) := ⟨r.toNat, by omega⟩
    refine ⟨_, _, rfl, ?_⟩
    refine ⟨_, rfl, (n : Int), rfl, by omega, by omega, ?_⟩
    rw [Int.toNat_natCast]
    have hL2 : H2 L = some (.lst (numsV [])) := b2 _ _ nL upd_same
    have bH : But pu H H2 := (But.of (Same.updf hL)).trans b2
    refine for_it (walk_range (lo := 0) (n := n)) (fun i σ G => But pu H G ∧ (∃ M, Purse G pu M ∧ M ≤ N + 1 + i) ∧ ∃ (ys : List Nat) (g : Nat) (v4 : Option V), G L = some (.lst (numsV ys)) ∧ ys.length = i ∧ ys.Pairwise (· < ·) ∧ (∀ y ∈ ys, y < g) ∧ g ≤ 2 + 4 * i ∧
        σ = [some (.ref pu), some (.int (n : Int)), some (.ref L), some (.int (g : Int)), v4])
      ⟨bH, ⟨_, P2, Nat.le_refl _⟩, [], r, _, hL2, rfl, .nil, (fun y hy => nomatch hy), by omega, rfl⟩ (fun i σ G _ _ => trivial) ?_ ?_
    · rintro i x σ G G' hi ⟨bG, ⟨M, PM, lM⟩, ys, g, v4, hy, ly, ay, cy, lg, rfl⟩ ⟨rfl, rfl⟩
      refine ⟨_, rfl, .inl ⟨rfl, _, SqL.of hy⟩, _, rfl, L, numsV ys, .int (g : Int), rfl, rfl, hy, by unfold numsV; rw [List.length_map]; omega, ?_⟩
      have P4 : Purse (upd G' L (.lst (numsV ys ++ [.int (g : Int)]))) pu M := PM.same' (upd_ne nL.symm)
      refine ⟨_, rfl, _, 1, rfl, rfl, ?_⟩
      refine ⟨_, rfl, pu, 4, M, rfl, by decide, log_small (by decide) (by decide), P4, (one 4 (by decide) (by decide) _ (by omega)).1, (one 4 (by decide) (by decide) 0 (by omega)).2, fun t G4 t0 t1 b4 P5 => ?_⟩
      rw [mx 4 (by decide) (by decide)] at P5
      obtain ⟨t, rfl⟩ : ∃ q : Nat, t = (q : Int) := ⟨t.toNat, by omega⟩
      refine ⟨_, _, rfl, rfl, ?_⟩
      refine ⟨fun c o n1 e => b4 _ _ n1 (by rw [upd_ne (ne_of_none e hL)]; exact bG _ _ n1 e), ⟨_, P5, by omega⟩, ys ++ [g], g + 1 + t, _, b4 _ _ nL (by rw [upd_same, numsV_snoc]), by rw [List.length_append, ly]; rfl, asc_snoc ay cy, fun y m => ?_, by omega, rfl⟩
      rcases List.mem_append.mp m with m | m
      · have := cy y m
        omega
      · rw [List.mem_singleton.mp m]
        omega
    · rintro σ G ⟨bG, ⟨M, PM, lM⟩, ys, g, v4, hy, ly, ay, cy, lg, rfl⟩
      exact ⟨_, rfl, k L ys G bG (PM.mono (by omega)) hL hy ly ay fun x m => by
        have := cy x m
        omega⟩
end
end K21
set_option Elab.async false
set_option linter.all false
set_option maxRecDepth 100000
set_option maxHeartbeats 8000000
namespace K21
open PySem PySem.Spec PyProof.Rows L2 KB
abbrev s_one_of : Stmt := sOne
def spSpeech : Sp := fun vs H Q _ => ∃ (pu : Addr) (N : Nat), vs = [.ref pu] ∧ Purse H pu N ∧ N ≤ 2 ^ 38 ∧
  ∀ a ds H', But pu H H' → Purse H' pu (N + 60) → Tr H' 5 (.ref a) (.tuple ds) → okWs ds = true → szWs ds ≤ 20 → Q (.ref a) H'
def TA2 (H : Hp) (n : Nat) : List V → List PyData → Prop
  | [], [] => True
  | x :: xs, d :: ds => Tr H n x d ∧ TA2 H n xs ds
  | _, _ => False
theorem TA2.len {H : Hp} {n : Nat} : ∀ {xs : List V} {ds : List PyData}, TA2 H n xs ds → xs.length = ds.length
  | [], [], _ => rfl
  | _ :: _, _ :: _, h => congrArg (· + 1) (TA2.len h.2)
  | [], _ :: _, h => h.elim
  | _ :: _, [], h => h.elim
theorem TA2.get {H : Hp} {n : Nat} : ∀ {xs : List V} {ds : List PyData}, TA2 H n xs ds → ∀ (i : Nat) (u : V) (e : PyData), xs[i]? = some u → ds[i]? = some e → Tr H n u e
  | x :: xs, d :: ds, h, 0, u, e, h1, h2 => by
    cases h1
    cases h2
    exact h.1
  | _ :: _, _ :: _, h, i + 1, u, e, h1, h2 => TA2.get h.2 i u e h1 h2
theorem TA2.tup {H : Hp} {n : Nat} {p : Addr} {xs : List V} {ds : List PyData} (hp : H p = some (.tup xs)) (a : TA2 H n xs ds) (l : ds.length ≤ 1000) : Tr H (n + 1) (.ref p) (.tuple ds) :=
  Tr.tup hp a.len l a.get
theorem tr_but {pu : Addr} {H H' : Hp} {M : Nat} (hP : Purse H pu M) (b : But pu H H') : ∀ {n : Nat} {x : V} {d : PyData}, okW d = true → Tr H n x d → Tr H' n x d
  | 0, _, _, _, h => h
  | n + 1, x, d, k, h => by
    rcases h with h | ⟨a, xs, ds, rfl, l, l2, t, c⟩
    · exact .inl h
    · rcases t with ⟨_, rfl⟩ | ⟨ha, rfl⟩
      · exact absurd k Bool.false_ne_true
      · have na : a ≠ pu := fun z => by
          rw [z] at ha
          obtain ⟨_, _, _, _, e, _⟩ := hP
          rw [ha] at e
          cases e
        exact .inr ⟨a, xs, ds, rfl, l, l2, .inr ⟨b _ _ na ha, rfl⟩, fun i u e h1 h2 => tr_but hP b (okWs_iff.mp k e (List.mem_of_getElem? h2)) (c i u e h1 h2)⟩
/-- what stands while a speech is made -/
structure Sg (pu nl : Addr) (H0 : Hp) (o : HO) (H : Hp) (M : Nat) (fs : List (Nat × V × PyData)) : Prop where
  b : But pu H0 H
  P : Purse H pu M
  l : H nl = some o
  n : nl ≠ pu
  t : ∀ f ∈ fs, okW f.2.2 = true ∧ Tr H f.1 f.2.1 f.2.2
variable {pu nl : Addr} {H0 H : Hp} {o : HO} {M : Nat} {fs : List (Nat × V × PyData)}
theorem Sg.new (S : Sg pu nl H0 o H M fs) {T : Addr} (q : HO) (h : H T = none) : Sg pu nl H0 o (upd H T q) M fs :=
  ⟨S.b.trans (But.of (Same.updf h)), S.P.same (Same.updf h), Same.updf h _ _ S.l, S.n, fun f m => ⟨(S.t f m).1, (S.t f m).2.same (Same.updf h)⟩⟩
theorem Sg.draw (S : Sg pu nl H0 o H M fs) {H' : Hp} {M' : Nat} (b : But pu H H') (P : Purse H' pu M') : Sg pu nl H0 o H' M' fs :=
  ⟨S.b.trans b, P, b _ _ S.n S.l, S.n, fun f m => ⟨(S.t f m).1, tr_but S.P b (S.t f m).1 (S.t f m).2⟩⟩
theorem Sg.tup (S : Sg pu nl H0 o H M fs) {T : Addr} (h : H T = none) (n : Nat) (xs : List V) (ds : List PyData) (k : okWs ds = true) (a : TA2 (upd H T (.tup xs)) n xs ds) (l : ds.length ≤ 1000) :
    Sg pu nl H0 o (upd H T (.tup xs)) M ((n + 1, .ref T, .tuple ds) :: fs) :=
  ⟨(S.new _ h).b, (S.new _ h).P, (S.new _ h).l, S.n, fun f m => by
    rcases List.mem_cons.mp m with rfl | m
    · exact ⟨k, TA2.tup upd_same a l⟩
    · exact (S.new _ h).t f m⟩
theorem Sg.at (S : Sg pu nl H0 o H M fs) (n : Nat) (x : V) (d : PyData) (m : (n, x, d) ∈ fs) : Tr H n x d := (S.t _ m).2
theorem ti {H : Hp} {n : Nat} (i : Int) : Tr H n (.int i) (.int i) := Tr.flat (.int i)
theorem ts {H : Hp} {n : Nat} (i : Str) : Tr H n (.str i) (.str i) := Tr.flat (.str i)
theorem tn {H : Hp} {n : Nat} : Tr H n .non .none := Tr.flat .non
section
variable {P : Program} {w : World} {K : PySem.W.Frag} {mg : Str → Option Value} {base : Heap}
abbrev s_speech : Stmt := top 47
abbrev N_speech : List Str := ["_law_purse_here", "_law_names", "_law_some"]
theorem sc_speech : FnScope N_speech ["_law_purse_here"] (defScope s_speech) := ⟨rfl, rfl, rfl, by decide +kernel, rfl, by decide +kernel, by decide +kernel⟩
theorem ok_speech {f : Addr} {fd : FuncData} (F : FnP K "_law_speech" s_speech f fd) (Z : FreeS mg)
    {f_words : Addr} {d_words : FuncData} (g_words : mg "_law_words" = some (.ref f_words)) (F_words : FnP K "_law_words" s_words f_words d_words) (G_words : FnOk P w K mg base CX0 4 f_words d_words ["_law_purse_here", "_law_many"] spLWords)
    {f_one_of : Addr} {d_one_of : FuncData} (g_one_of : mg "_law_one_of" = some (.ref f_one_of)) (F_one_of : FnP K "_law_one_of" s_one_of f_one_of d_one_of) (G_one_of : FnOk P w K mg base CX0 3 f_one_of d_one_of ["_law_purse_here", "_law_some"] (spOne K))
    {f_draw : Addr} {d_draw : FuncData} (g_draw : mg "_law_draw" = some (.ref f_draw)) (F_draw : FnP K "_law_draw" s_draw f_draw d_draw) (G_draw : FnOk P w K mg base CX0 2 f_draw d_draw ["_law_purse_here", "_law_many"] spDraw) :
    FnOk P w K mg base CX0 5 f fd ["_law_purse_here"] spSpeech := by
  have b_words : Binds K d_words ["_law_purse_here", "_law_many"] [] := F_words.bindsN fun _ _ _ _ _ _ us hl => match us, hl with | [_, _], _ => rfl
  have b_one_of : Binds K d_one_of ["_law_purse_here", "_law_some"] [] := F_one_of.bindsN fun _ _ _ _ _ _ us hl => match us, hl with | [_, _], _ => rfl
  have b_draw : Binds K d_draw ["_law_purse_here", "_law_many"] [] := F_draw.bindsN fun _ _ _ _ _ _ us hl => match us, hl with | [_, _], _ => rfl
  refine F.ok sc_speech (fun vs H Q E h => ?_) (fun cdv A outer s H vs Q E hr h => ?_)
  · obtain ⟨pu, N, rfl, _⟩ := h
    rfl
  · obtain ⟨pu, N, rfl, hP, hN, k⟩ := h
    have mx : ∀ m : Int, 1 ≤ m → m < 100 → mixes m = 1 := fun m h1 h2 => mixes_one h1 (by omega)
    have one : ∀ m : Int, 1 ≤ m → m < 100 → ∀ M, M ≤ 2 ^ 41 → M + mixes m ≤ 2 ^ 50 ∧ mixes m ≤ 2 ^ 50 := fun m h1 h2 M hM => by
      rw [mx m h1 h2]
      omega
    have nd := sc_speech.nd
    refine ⟨_, PSs.nox (pss_cons (ps_set (i := 1) nd rfl (Or.inl rfl) (pe_call G_words (hr.mono (by decide)) rfl g_words F_words.kp b_words .nil pass0 (pa_cons (pv 0) (pa_cons (pe_int) (pa_nil)))))
      (pss_cons (ps_set (i := 2) nd rfl (Or.inl rfl) (pe_lst (pa_cons (pe_tup (pa_cons (pe_str) (pa_cons (pe_tup (pa_cons (pe_ix ix_list (pv 1) (pe_int) (fun _ _ => rfl)) (pa_cons (pe_call G_draw (hr.mono (by decide)) rfl g_draw F_draw.kp b_draw .nil pass0 (pa_cons (pv 0) (pa_cons (pe_int) (pa_nil)))) (pa_nil)))) (pa_cons (pe_op op_add (pe_int) (pe_call G_draw (hr.mono (by decide)) rfl g_draw F_draw.kp b_draw .nil pass0 (pa_cons (pv 0) (pa_cons (pe_int) (pa_nil))))) (pa_cons (pe_non) (pa_nil)))))) (pa_cons (pe_tup (pa_cons (pe_str) (pa_cons (pe_tup (pa_cons (pe_ix ix_list (pv 1) (pe_int) (fun _ _ => rfl)) (pa_nil))) (pa_cons (pe_int) (pa_nil))))) (pa_cons (pe_tup (pa_cons (pe_str) (pa_cons (pe_tup (pa_cons (pe_ix ix_list (pv 1) (pe_int) (fun _ _ => rfl)) (pa_nil))) (pa_nil)))) (pa_cons (pe_tup (pa_nil)) (pa_cons (pe_tup (pa_cons (pe_int) (pa_cons (pe_non) (pa_cons (pe_ix ix_list (pv 1) (pe_int) (fun _ _ => rfl)) (pa_nil))))) (pa_nil))))))))
      (pss_one (ps_ret (pe_call G_one_of (hr.mono (by decide)) rfl g_one_of F_one_of.kp b_one_of .nil pass0 (pa_cons (pv 0) (pa_cons (pe_op op_cat (pv 2) (pe_lst (pa_cons (pe_tup (pa_cons (pe_str) (pa_cons (pe_tup (pa_cons (pe_int) (pa_cons (pe_int) (pa_nil)))) (pa_cons (pe_int) (pa_nil))))) (pa_cons (pe_tup (pa_cons (pe_tup (pa_cons (pe_tup (pa_cons (pe_tup (pa_nil)) (pa_nil))) (pa_nil))) (pa_nil))) (pa_cons (pe_tup (pa_cons (pe_str) (pa_cons (pe_ix ix_list (pv 1) (pe_int) (fun _ _ => rfl)) (pa_cons (pe_call G_draw (hr.mono (by decide)) rfl g_draw F_draw.kp b_draw .nil pass0 (pa_cons (pv 0) (pa_cons (pe_int) (pa_nil)))) (pa_nil))))) (pa_nil)))))) (pa_nil)))))))), ?_⟩
    have sl : (100 : Nat) ≤ sizeLine := by decide
    have dr : ∀ m : Int, 1 ≤ m → m < 100 → ∀ M, M ≤ N + 60 → ∀ H', Purse H' pu M → 1 ≤ m ∧ m.natAbs.log2 < 9000 ∧ Purse H' pu M ∧ M + mixes m ≤ 2 ^ 50 ∧ mixes m ≤ 2 ^ 50 := fun m h1 h2 M hM H' hP' =>
      ⟨h1, log_small h1 (by omega), hP', (one m h1 h2 M (by omega)).1, (one m h1 h2 0 (by omega)).2⟩
    refine ⟨_, rfl, pu, N, rfl, hP, by omega, fun nl n0 n1 H1 b1 P1 nfr hl w0 w1 => ?_⟩
    have S1 : Sg pu nl H (.lst [.str n0, .str n1]) H1 (N + 50) [] := ⟨b1, P1, hl, fresh_ne hP nfr, fun f m => nomatch m⟩
    have a0 : ∀ {x y : V}, atI [x, y] 0 = some x := atI_nat (j := 0) rfl
    have a1 : ∀ {x y : V}, atI [x, y] 1 = some y := atI_nat (j := 1) rfl
    have le : ∀ n : Nat, n ≤ 100 → n ≤ sizeLine := fun n h => by omega
    obtain ⟨d1, d2, d3, d4, d5⟩ := dr 99 (by decide) (by decide) (N + 50) (by omega) H1 S1.P
    refine ⟨_, rfl, nl, _, 0, .str n0, rfl, rfl, SqL.of S1.l, a0, _, rfl, pu, 99, N + 50, rfl, d1, d2, d3, d4, d5, fun r1 H2 r10 r11 b2 P2 => ?_⟩
    rw [mx 99 (by decide) (by decide)] at P2
    have S2 := S1.draw b2 P2
    refine ⟨le _ (by simp), fun T1 h1 => ?_⟩
    have S3 := S2.tup h1 3 [.str n0, .int r1] [.str n0, .int r1] (by simp [okWs, okW, w0, r10]) ⟨ts _, ti _, trivial⟩ (by simp)
    obtain ⟨d1, d2, d3, d4, d5⟩ := dr 9 (by decide) (by decide) (N + 51) (by omega) _ S3.P
    refine ⟨_, rfl, pu, 9, N + 51, rfl, d1, d2, d3, d4, d5, fun r2 H4 r20 r21 b4 P4 => ⟨_, _, rfl, rfl, le _ (by simp), fun T2 h2 => ?_⟩⟩
    rw [mx 9 (by decide) (by decide)] at P4
    have S4 := S3.draw b4 P4
    have S5 := S4.tup h2 4 [.str (Str.ofString "put"), .ref T1, .int (1 + r2), .non] [.str (Str.ofString "put"), .tuple [.str n0, .int r1], .int (1 + r2), .none] (by simp [okWs, okW, w0, r10]; exact ⟨by decide +kernel, by omega⟩) ⟨ts _, (S4.new _ h2).at 4 _ _ (by simp), ti _, tn, trivial⟩ (by simp)
    refine ⟨_, rfl, nl, _, 0, .str n0, rfl, rfl, SqL.of S5.l, a0, le _ (by simp), fun T3 h3 => ?_⟩
    have S6 := S5.tup h3 3 [.str n0] [.str n0] (by simp [okWs, okW, w0]) ⟨ts _, trivial⟩ (by simp)
    refine ⟨le _ (by simp), fun T4 h4 => ?_⟩
    have S7 := S6.tup h4 4 [.str (Str.ofString "copy"), .ref T3, .int 3] [.str (Str.ofString "copy"), .tuple [.str n0], .int 3] (by simp [okWs, okW, w0]; decide +kernel) ⟨ts _, (S6.new _ h4).at 4 _ _ (by simp), ti _, trivial⟩ (by simp)
    refine ⟨_, rfl, nl, _, 1, .str n1, rfl, rfl, SqL.of S7.l, a1, le _ (by simp), fun T5 h5 => ?_⟩
    have S8 := S7.tup h5 3 [.str n1] [.str n1] (by simp [okWs, okW, w1]) ⟨ts _, trivial⟩ (by simp)
    refine ⟨le _ (by simp), fun T6 h6 => ?_⟩
    have S9 := S8.tup h6 4 [.str (Str.ofString "trim"), .ref T5] [.str (Str.ofString "trim"), .tuple [.str n1]] (by simp [okWs, okW, w1]; decide +kernel) ⟨ts _, (S8.new _ h6).at 4 _ _ (by simp), trivial⟩ (by simp)
    refine ⟨le _ (by simp), fun T7 h7 => ?_⟩
    have S10 := S9.tup h7 4 [] [] rfl trivial (by simp)
    refine ⟨_, rfl, nl, _, 0, .str n0, rfl, rfl, SqL.of S10.l, a0, le _ (by simp), fun T8 h8 => ?_⟩
    have S11 := S10.tup h8 4 [.int 0, .non, .str n0] [.int 0, .none, .str n0] (by simp [okWs, okW, w0]) ⟨ti _, tn, ts _, trivial⟩ (by simp)
    refine ⟨le _ (by simp), fun L1 hL1 => ?_⟩
    have S12 := S11.new (.lst [.ref T2, .ref T4, .ref T6, .ref T7, .ref T8]) hL1
    have nL1 : L1 ≠ pu := fresh_ne S11.P hL1
    have R12 : Sg pu L1 H (.lst [.ref T2, .ref T4, .ref T6, .ref T7, .ref T8]) _ _ [] := ⟨S12.b, S12.P, upd_same, nL1, fun f m => nomatch m⟩
    refine ⟨_, rfl, _, rfl, le _ (by simp), fun T9 h9 => ?_⟩
    have R13 := R12.new (.tup [.int 0, .int 3]) h9
    have S13 := S12.tup h9 3 [.int 0, .int 3] [.int 0, .int 3] (by simp [okWs, okW]) ⟨ti _, ti _, trivial⟩ (by simp)
    refine ⟨le _ (by simp), fun T10 h10 => ?_⟩
    have R14 := R13.new (.tup [.str (Str.ofString "clear"), .ref T9, .int 7]) h10
    have S14 := S13.tup h10 4 [.str (Str.ofString "clear"), .ref T9, .int 7] [.str (Str.ofString "clear"), .tuple [.int 0, .int 3], .int 7] (by simp [okWs, okW]; decide +kernel) ⟨ts _, (S13.new _ h10).at 4 _ _ (by simp), ti _, trivial⟩ (by simp)
    refine ⟨le _ (by simp), fun T11 h11 => ?_⟩
    have R15 := R14.new (.tup []) h11
    have S15 := S14.tup h11 1 [] [] rfl trivial (by simp)
    refine ⟨le _ (by simp), fun T12 h12 => ?_⟩
    have R16 := R15.new (.tup [.ref T11]) h12
    have S16 := S15.tup h12 2 [.ref T11] [.tuple []] rfl ⟨(S15.new _ h12).at 2 _ _ (by simp), trivial⟩ (by simp)
    refine ⟨le _ (by simp), fun T13 h13 => ?_⟩
    have R17 := R16.new (.tup [.ref T12]) h13
    have S17 := S16.tup h13 3 [.ref T12] [.tuple [.tuple []]] rfl ⟨(S16.new _ h13).at 3 _ _ (by simp), trivial⟩ (by simp)
    refine ⟨le _ (by simp), fun T14 h14 => ?_⟩
    have R18 := R17.new (.tup [.ref T13]) h14
    have S18 := S17.tup h14 4 [.ref T13] [.tuple [.tuple [.tuple []]]] rfl ⟨(S17.new _ h14).at 4 _ _ (by simp), trivial⟩ (by simp)
    obtain ⟨d1, d2, d3, d4, d5⟩ := dr 9 (by decide) (by decide) (N + 52) (by omega) _ S18.P
    refine ⟨_, rfl, nl, _, 0, .str n0, rfl, rfl, SqL.of S18.l, a0, _, rfl, pu, 9, N + 52, rfl, d1, d2, d3, d4, d5, fun r3 H19 r30 r31 b19 P19 => ⟨le _ (by simp), fun T15 h15 => ?_⟩⟩
    rw [mx 9 (by decide) (by decide)] at P19
    have R19 := (R18.draw b19 P19).new (.tup [.str (Str.ofString "pin"), .str n0, .int r3]) h15
    have S19 := (S18.draw b19 P19).tup h15 4 [.str (Str.ofString "pin"), .str n0, .int r3] [.str (Str.ofString "pin"), .str n0, .int r3] (by simp [okWs, okW, w0, r30]; decide +kernel) ⟨ts _, ts _, ti _, trivial⟩ (by simp)
    refine ⟨le _ (by simp), fun L2 hL2 => ?_⟩
    have R20 := R19.new (.lst [.ref T10, .ref T14, .ref T15]) hL2
    have S20 := S19.new (.lst [.ref T10, .ref T14, .ref T15]) hL2
    refine ⟨L1, L2, _, _, rfl, rfl, R20.l, upd_same, le _ (by simp), fun L3 hL3 => ?_⟩
    have S21 := S20.new (.lst ([.ref T2, .ref T4, .ref T6, .ref T7, .ref T8] ++ [.ref T10, .ref T14, .ref T15])) hL3
    refine ⟨pu, L3, _, N + 53, rfl, fresh_ne S20.P hL3, SqL.of upd_same, by simp, by simp, S21.P, by omega, fun x H' m b P => ?_⟩
    have S := S21.draw b P
    have fin : ∀ T ds, (5, V.ref T, PyData.tuple ds) ∈ _ → szWs ds ≤ 20 → Q (.ref T) H' := fun T ds m z => k T ds H' S.b (S.P.mono (by omega)) (S.t _ m).2 (S.t _ m).1 z
    simp at m
    rcases m with rfl | rfl | rfl | rfl | rfl | rfl | rfl | rfl
    · exact fin T2 [.str (Str.ofString "put"), .tuple [.str n0, .int r1], .int (1 + r2), .none] (by simp) (by simp [szWs, szW])
    · exact fin T4 [.str (Str.ofString "copy"), .tuple [.str n0], .int 3] (by simp) (by simp [szWs, szW])
    · exact fin T6 [.str (Str.ofString "trim"), .tuple [.str n1]] (by simp) (by simp [szWs, szW])
    · exact fin T7 [] (by simp) (by simp [szWs])
    · exact fin T8 [.int 0, .none, .str n0] (by simp) (by simp [szWs, szW])
    · exact fin T10 [.str (Str.ofString "clear"), .tuple [.int 0, .int 3], .int 7] (by simp) (by simp [szWs, szW])
    · exact fin T14 [.tuple [.tuple [.tuple []]]] (by simp) (by simp [szWs, szW])
    · exact fin T15 [.str (Str.ofString "pin"), .str n0, .int r3] (by simp) (by simp [szWs, szW])
end
end K21
set_option Elab.async false
set_option linter.all false
set_option maxRecDepth 100000
set_option maxHeartbeats 8000000
namespace K21
open PySem PySem.Spec PyProof.Rows L2 KB
/-- the pages of a log, in a new list -/
def spOfP : Sp := fun vs H Q _ => ∃ (a : Addr) (ds : List Dd), vs = [.ref a] ∧ LogAt H a ds ∧ Lg ds ∧ ∀ q H', Same H H' → H q = none → H' q = some (.lst (numsV (pgs ds))) → Q (.ref q) H'
theorem sel_not (r l : List Nat) : ((List.range r.length).filterMap fun j => (r[j]?).bind fun x => if x ∈ l then none else some (V.int (x : Int))) = numsV (r.filter fun x => decide (x ∉ l)) := by
  induction r with
  | nil => rfl
  | cons x r ih =>
    rw [List.length_cons, List.range_succ_eq_map, List.filterMap_cons, List.filterMap_map, List.filter_cons]
    have e : ((fun j => ((x :: r)[j]?).bind fun x => if x ∈ l then none else some (V.int (x : Int))) ∘ Nat.succ) = fun j => (r[j]?).bind fun x => if x ∈ l then none else some (V.int (x : Int)) := rfl
    rw [e, ih]
    by_cases h : x ∈ l
    · simp [h]
    · simp [h, numsV]
theorem flat_nums2 (l : List Nat) : (numsV l).all flatV = true := by
  rw [List.all_eq_true]
  intro v m
  obtain ⟨y, _, rfl⟩ := List.mem_map.mp m
  rfl
theorem inV_nums2 (x : Nat) : ∀ l : List Nat, inV (.int (x : Int)) (numsV l) = decide (x ∈ l)
  | [] => by simp [inV, numsV]
  | y :: l => by
    have ih := inV_nums2 x l
    have e : eqV (.int (y : Int)) (.int (x : Int)) = decide (x = y) := by
      show ((y : Int) == (x : Int)) = _
      by_cases h : x = y
      · subst h
        simp
      · simp [h]
        omega
    unfold inV numsV at *
    rw [List.map_cons, List.any_cons, ih, e]
    simp [List.mem_cons]
theorem numsV_app (l m : List Nat) : numsV l ++ numsV m = numsV (l ++ m) := by
  unfold numsV
  rw [List.map_append]
theorem le_uniq : ∀ {l m : List Int}, l.Perm m → l.Pairwise (· ≤ ·) → m.Pairwise (· ≤ ·) → l = m
  | [], m, p, _, _ => (List.nil_perm.mp p).symm
  | x :: l, [], p, _, _ => by
    have := p.length_eq
    cases this
  | x :: l, y :: m, p, hl, hm => by
    obtain ⟨l1, l2⟩ := List.pairwise_cons.mp hl
    obtain ⟨m1, m2⟩ := List.pairwise_cons.mp hm
    have e : x = y := by
      have a : x ∈ y :: m := p.mem_iff.mp List.mem_cons_self
      have b : y ∈ x :: l := p.mem_iff.mpr List.mem_cons_self
      rcases List.mem_cons.mp a with a | a
      · exact a
      · rcases List.mem_cons.mp b with b | b
        · exact b.symm
        · have := m1 _ a
          have := l1 _ b
          omega
    subst e
    rw [le_uniq (List.Perm.cons_inv p) l2 m2]
section
variable {P : Program} {w : World} {K : PySem.W.Frag} {mg : Str → Option Value} {base : Heap}
abbrev s_of_pages : Stmt := top 50
abbrev N_of_pages : List Str := ["_law_log_here", "_law_found", "_law_deed", "_law_page"]
theorem sc_of_pages : FnScope N_of_pages ["_law_log_here"] (defScope s_of_pages) := ⟨rfl, rfl, rfl, by decide +kernel, rfl, by decide +kernel, by decide +kernel⟩
theorem ok_of_pages {f : Addr} {fd : FuncData} (F : FnP K "_law_of_pages" s_of_pages f fd) (Z : FreeS mg) :
    FnOk P w K mg base CX0 1 f fd ["_law_log_here"] spOfP := by
  refine F.ok sc_of_pages (fun vs H Q E h => ?_) (fun cdv A outer s H vs Q E hr h => ?_)
  · obtain ⟨a, ds, rfl, _⟩ := h
    rfl
  · obtain ⟨a, ds, rfl, hL, hG, k⟩ := h
    obtain ⟨xs, ha, lx, hx⟩ := id hL
    have l60 := hG.len
    have pl := hG.pl
    have sl : (2000 : Nat) ≤ sizeLine := by decide
    have nd := sc_of_pages.nd
    refine ⟨_, PSs.nox (pss_cons (ps_set (i := 1) nd rfl (Or.inr rfl) (pe_lst (pa_nil)))
      (pss_cons (ps_for PassesOwn.never rfl (pi_list (pv 0)) (pg_name (i := 2) nd rfl (Or.inl rfl))
        (pss_one (ps_set (i := 1) nd rfl (Or.inr rfl) (pe_op op_cat (pv 1) (pe_lc (own := [("_law_page", 3)]) (g := gName 3) (tt := tTest (tOp (rIn K true) (tVar 3) (tVar 1))) (te := tVar 3) (by rfl) nd (pi_list (pe_ix ix_tup (pv 2) (pe_int) (fun _ _ => rfl)))
          (blkOk_by (own := [("_law_page", 3)]) (N := N_of_pages) (sc := defScope s_of_pages) (by decide +kernel)) (fun _ _ _ _ _ => pg_name (i := 3) nd rfl (Or.inl rfl)) (fun _ _ _ _ _ => pts_one (pt_cmpR op_notIn_seq (pv 3) (pv 1) (by rfl)))
          (fun _ _ _ _ _ => pv 3))))))
      (pss_one (ps_ret (pe_callB (cr_sorted) (by rfl) Z.sorted (by decide +kernel) (pa_cons (pv 1) pa_nil)))))), ?_⟩
    refine ⟨Nat.zero_le _, fun L0 hL0 => ?_⟩
    have s0 : Same H (upd H L0 (.lst [])) := Same.updf hL0
    refine ⟨_, rfl, a, rfl, ⟨_, SqL.of (s0 _ _ ha)⟩, ?_⟩
    have sub : ∀ {l : List Nat} {i : Nat}, l.Nodup → (∀ x, x ∈ l ↔ ∃ d ∈ ds.take i, x ∈ d.r) → l.length ≤ 30 := fun {l i} nl ml => by
      have := List.Nodup.length_le_of_subset (l₂ := pgs ds) nl fun x m => by
        obtain ⟨d, hd, hx⟩ := (ml x).mp m
        exact pgs_mem.mpr ⟨d, List.mem_of_mem_take hd, hx⟩
      omega
    refine for_it (walk_list (K := K) (a := a) (xs := xs)) (fun i σ G => Same H G ∧ ∃ (L : Addr) (l : List Nat) (v2 v3 : Option V), G L = some (.lst (numsV l)) ∧ l.Nodup ∧ (∀ x, x ∈ l ↔ ∃ d ∈ ds.take i, x ∈ d.r) ∧ σ = [some (.ref a), some (.ref L), v2, v3])
      ⟨s0, L0, [], _, _, upd_same, .nil, (fun x => by simp), rfl⟩ (fun i σ G _ hh => SqL.of (hh.1 _ _ ha)) ?_ ?_
    · rintro i x σ G G' hi ⟨sG, L, l, v2, v3, hl, nl, ml, rfl⟩ ⟨rfl, hv⟩
      have li : i < ds.length := by omega
      have hd : ds[i]? = some ds[i] := List.getElem?_eq_getElem li
      obtain ⟨t, rd, tw, rfl, ht, hr1, _⟩ := (hx i x _ hv hd).same sG
      have okd := hG.ok ds[i] (List.getElem_mem li)
      have l20 := okd.len
      have l30 := sub nl ml
      refine ⟨_, rfl, ?_⟩
      refine ⟨_, rfl, t, _, 2, .ref rd, rfl, rfl, SqT.of ht, rfl, rd, rfl, ⟨_, SqL.of hr1⟩, fun D hD => ?_⟩
      have ln : (numsV ds[i].r).length = ds[i].r.length := List.length_map _
      refine lc_sel (n := (numsV ds[i].r).length) (walk_list (K := K) (a := rd) (xs := numsV ds[i].r)) (fun j => (ds[i].r[j]?).bind fun x => if x ∈ l then none else some (V.int (x : Int))) (by omega) hD (fun H2 s2 => SqL.of (s2 _ _ hr1)) ?_ ?_
      · rintro j v H5 H6 Qy Qn hj s5 ⟨rfl, hy⟩ ky kn
        have lj : j < ds[i].r.length := by omega
        unfold numsV at hy
        rw [List.getElem?_map, List.getElem?_eq_getElem lj] at hy
        obtain rfl := Option.some.inj hy
        refine ⟨rfl, _, rfl, _, rfl, L, numsV l, rfl, .inl (SqL.of (s5 _ _ hl)), rfl, flat_nums2 l, _, rfl, ?_⟩
        rw [inV_nums2]
        by_cases e : ds[i].r[j] ∈ l
        · rw [decide_eq_true e]
          exact iteF (kn _ (Same.refl _) (by rw [List.getElem?_eq_getElem lj]; exact if_pos e))
        · rw [decide_eq_false e]
          exact iteT ⟨_, rfl, ky _ _ (Same.refl _) (by rw [List.getElem?_eq_getElem lj]; exact if_neg e)⟩
      · intro H5 s5 hR
        rw [ln, sel_not] at hR
        have fl := List.length_filter_le (fun x => decide (x ∉ l)) ds[i].r
        refine ⟨L, D, _, _, rfl, rfl, s5 _ _ hl, hR, (by unfold numsV; rw [List.length_map, List.length_map]; omega), fun q hq => ?_⟩
        refine ⟨fun b o e => Same.updf hq _ _ (s5 _ _ (sG _ _ e)), q, l ++ ds[i].r.filter (fun x => decide (x ∉ l)), _, _, by rw [upd_same, numsV_app], ?_, fun x => ?_, rfl⟩
        · rw [List.nodup_append]
          refine ⟨nl, (okd.asc.imp fun h => Nat.ne_of_lt h).filter _, fun x m y n z => ?_⟩
          have := (List.mem_filter.mp n).2
          rw [← z] at this
          exact of_decide_eq_true this m
        · rw [List.mem_append, ml x, List.mem_filter, decide_eq_true_eq, List.take_succ, hd]
          constructor
          · rintro (⟨d, m, n⟩ | ⟨m, _⟩)
            · exact ⟨d, List.mem_append_left _ m, n⟩
            · exact ⟨_, List.mem_append_right _ (by simp), m⟩
          · rintro ⟨d, m, n⟩
            rcases List.mem_append.mp m with m | m
            · exact .inl ⟨d, m, n⟩
            · simp at m
              subst m
              by_cases z : x ∈ l
              · exact .inl ((ml x).mp z)
              · exact .inr ⟨n, z⟩
    · rintro σ G ⟨sG, L, l, v2, v3, hl, nl, ml, rfl⟩
      rw [lx, List.take_length] at ml
      have l30 := sub (i := ds.length) nl (by rw [List.take_length]; exact ml)
      have mm : ∀ m : List Nat, (m.map fun x : Nat => (x : Int)).map V.int = numsV m := fun m => by
        rw [List.map_map]
        rfl
      refine ⟨_, rfl, L, l.map fun x : Nat => (x : Int), rfl, SqL.of (by rw [mm]; exact hl), by rw [List.length_map]; omega, fun ns p hp hs hn => ?_⟩
      have pe : l.Perm (pgs ds) := (List.perm_ext_iff_of_nodup nl ((pgs_asc ds).imp fun h => Nat.ne_of_lt h)).mpr fun x => by rw [ml x, pgs_mem]
      have e : ns = (pgs ds).map fun x : Nat => (x : Int) := le_uniq (hp.trans (pe.map _)) hs (List.pairwise_map.mpr ((pgs_asc ds).imp fun h => by omega))
      refine k p _ (sG.trans (Same.updf hn)) (none_back sG hn) ?_
      rw [upd_same, e, mm]
end
end K21
set_option Elab.async false
set_option linter.all false
set_option maxRecDepth 100000
set_option maxHeartbeats 8000000
namespace K21
open PySem PySem.Spec PyProof.Rows L2 KB
/-- a right log, in a new list; none of it is the purse -/
def spLog : Sp := fun vs H Q _ => ∃ (pu pg : Addr) (n N : Nat) (ps : List Nat), vs = [.ref pu, .int (n : Int), .ref pg] ∧ n ≤ 10 ∧ Purse H pu N ∧ N ≤ 2 ^ 36 ∧ pg ≠ pu ∧ H pg = some (.lst (numsV ps)) ∧ 1 ≤ ps.length ∧ ps.length ≤ 6 ∧ ps.Pairwise (· < ·) ∧
  ∀ q ds H', But pu H H' → Purse H' pu (N + 100 * n) → H q = none → LogAt (off H' pu) q ds → Lg ds → ds.length = n → (∀ d ∈ ds, ∀ x ∈ d.r, x ∈ ps) → (∀ d ∈ ds, d.n ≤ 100) → Q (.ref q) H'
theorem but_off {p : Addr} {A B : Hp} (k : But p A B) : Same (off A p) (off B p) := fun c o e => by
  by_cases n : c = p
  · unfold off at e
    rw [if_pos n] at e
    cases e
  · rw [off_at n] at e ⊢
    exact k c o n e
theorem off2_upd (X : Hp) (p L : Addr) (o : HO) : off (off (upd X L o) p) L = off (off X p) L := by
  funext c
  by_cases c1 : c = L
  · unfold off
    rw [if_pos c1, if_pos c1]
  · unfold off
    rw [if_neg c1, if_neg c1, upd_ne c1]
theorem tr_tup {H H' : Hp} (k : ∀ a xs, H a = some (.tup xs) → H' a = some (.tup xs)) : ∀ {n : Nat} {x : V} {d : PyData}, okW d = true → Tr H n x d → Tr H' n x d
  | 0, _, _, _, h => h
  | n + 1, x, d, o, h => by
    rcases h with h | ⟨a, xs, ds, rfl, l, l2, t, c⟩
    · exact .inl h
    · rcases t with ⟨_, rfl⟩ | ⟨ha, rfl⟩
      · exact absurd o Bool.false_ne_true
      · exact .inr ⟨a, xs, ds, rfl, l, l2, .inr ⟨k _ _ ha, rfl⟩, fun i u e h1 h2 => tr_tup k (okWs_iff.mp o e (List.mem_of_getElem? h2)) (c i u e h1 h2)⟩
section
variable {P : Program} {w : World} {K : PySem.W.Frag} {mg : Str → Option Value} {base : Heap}
abbrev s_log : Stmt := top 48
abbrev N_log : List Str := ["_law_purse_here", "_law_many", "_law_pages", "_law_found", "_law_number", "_law_spin", "_law_page", "_law_reads", "_law_late"]
theorem sc_log : FnScope N_log ["_law_purse_here", "_law_many", "_law_pages"] (defScope s_log) := ⟨rfl, rfl, rfl, by decide +kernel, rfl, by decide +kernel, by decide +kernel⟩
theorem ok_log {f : Addr} {fd : FuncData} (F : FnP K "_law_log" s_log f fd) (Z : FreeS mg)
    {f_one_of : Addr} {d_one_of : FuncData} (g_one_of : mg "_law_one_of" = some (.ref f_one_of)) (F_one_of : FnP K "_law_one_of" s_one_of f_one_of d_one_of) (G_one_of : FnOk P w K mg base CX0 3 f_one_of d_one_of ["_law_purse_here", "_law_some"] (spOne K))
    {f_draw : Addr} {d_draw : FuncData} (g_draw : mg "_law_draw" = some (.ref f_draw)) (F_draw : FnP K "_law_draw" s_draw f_draw d_draw) (G_draw : FnOk P w K mg base CX0 2 f_draw d_draw ["_law_purse_here", "_law_many"] spDraw)
    {f_speech : Addr} {d_speech : FuncData} (g_speech : mg "_law_speech" = some (.ref f_speech)) (F_speech : FnP K "_law_speech" s_speech f_speech d_speech) (G_speech : FnOk P w K mg base CX0 5 f_speech d_speech ["_law_purse_here"] spSpeech) :
    FnOk P w K mg base CX0 6 f fd ["_law_purse_here", "_law_many", "_law_pages"] spLog := by
  have b_one_of : Binds K d_one_of ["_law_purse_here", "_law_some"] [] := F_one_of.bindsN fun _ _ _ _ _ _ us hl => match us, hl with | [_, _], _ => rfl
  have b_draw : Binds K d_draw ["_law_purse_here", "_law_many"] [] := F_draw.bindsN fun _ _ _ _ _ _ us hl => match us, hl with | [_, _], _ => rfl
  have b_speech : Binds K d_speech ["_law_purse_here"] [] := F_speech.bindsN fun _ _ _ _ _ _ us hl => match us, hl with | [_], _ => rfl
  refine F.ok sc_log (fun vs H Q E h => ?_) (fun cdv A outer s H vs Q E hr h => ?_)
  · obtain ⟨pu, pg, n, N, ps, rfl, _⟩ := h
    rfl
  · obtain ⟨pu, pg, n, N, ps, rfl, n10, hP, hN, npg, hpg, p1, p6, ap, k⟩ := h
    have mx : ∀ m : Int, 1 ≤ m → m < 100 → mixes m = 1 := fun m h1 h2 => mixes_one h1 (by omega)
    have one : ∀ m : Int, 1 ≤ m → m < 100 → ∀ M, M ≤ 2 ^ 41 → M + mixes m ≤ 2 ^ 50 ∧ mixes m ≤ 2 ^ 50 := fun m h1 h2 M hM => by
      rw [mx m h1 h2]
      omega
    have sl : (2000 : Nat) ≤ sizeLine := by decide
    have nd := sc_log.nd
    refine ⟨_, PSs.nox (pss_cons (ps_par (i := 3) (j := 4) rfl nd rfl rfl (by decide) rfl rfl (pa_cons (pe_lst (pa_nil)) (pa_cons (pe_int) (pa_nil))) rfl)
      (pss_cons (ps_for PassesOwn.never rfl (pi_range1 (by rfl) Z.range (pa_cons (pv 1) (pa_nil))) (pg_name (i := 5) nd rfl (Or.inl rfl))
        (pss_cons (ps_set (i := 4) nd rfl (Or.inl rfl) (pe_op op_add (pe_op op_add (pv 4) (pe_int)) (pe_op op_mul (pe_call G_draw (hr.mono (by decide)) rfl g_draw F_draw.kp b_draw .nil pass0 (pa_cons (pv 0) (pa_cons (pe_int) (pa_nil)))) (pe_callTy call_int1 (by rfl) Z.int (by decide +kernel) (pa_cons (pe_cmpR op_eq (pe_call G_draw (hr.mono (by decide)) rfl g_draw F_draw.kp b_draw .nil pass0 (pa_cons (pv 0) (pa_cons (pe_int) (pa_nil)))) (pe_int) (nomark _)) (pa_nil))))))
      (pss_cons (ps_set (i := 6) nd rfl (Or.inr rfl) (pe_call G_one_of (hr.mono (by decide)) rfl g_one_of F_one_of.kp b_one_of .nil pass0 (pa_cons (pv 0) (pa_cons (pv 2) (pa_nil)))))
      (pss_cons (ps_set (i := 7) nd rfl (Or.inl rfl) (pe_callB (cr_sorted) (by rfl) Z.sorted (by decide +kernel) (pa_cons (pe_op op_cat (pe_lst (pa_cons (pv 6) (pa_nil))) (pe_lc (own := [("_law_late", 8)]) (g := gName 8) (tt := tAnd (tTest (tOp rNe (tVar 8) (tVar 6))) (tTest (tOp rEq (tCall spDraw [] E0 (tCons (tVar 0) (tCons (tC (.int 3)) (tNil)))) (tC (.int 0))))) (te := tVar 8) (by rfl) nd (pi_list (pv 2))
          (blkOk_by (own := [("_law_late", 8)]) (N := N_log) (sc := defScope s_log) (by decide +kernel)) (fun _ _ _ _ _ => pg_name (i := 8) nd rfl (Or.inl rfl)) (fun _ _ _ _ _ => pts_one (PW.pt (pw_and (pt_cmpR op_ne (pv 8) (pv 6) (nomark _)) (pw_and1 (pt_cmpR op_eq (pe_call G_draw (hr.mono (by decide)) rfl g_draw F_draw.kp b_draw .nil pass0 (pa_cons (pv 0) (pa_cons (pe_int) (pa_nil)))) (pe_int) (nomark _))))))
          (fun _ _ _ _ _ => pv 8))) (pa_nil))))
      (pss_one (ps_expr (pe_bm PySem.F.plainAttrs_list PySem.F.slot_list_append PySem.F.type_list_append mt_append (pv 3) (pa_cons (pe_tup (pa_cons (pv 4) (pa_cons (pv 6) (pa_cons (pv 7) (pa_cons (pe_call G_speech (hr.mono (by decide)) rfl g_speech F_speech.kp b_speech .nil pass0 (pa_cons (pv 0) (pa_nil))) (pa_nil)))))) (pa_nil)))))))))
      (pss_one (ps_ret (pv 3))))), ?_⟩
    have dr : ∀ m : Int, 1 ≤ m → m < 100 → ∀ M, M ≤ N + 2000 → ∀ H', Purse H' pu M → 1 ≤ m ∧ m.natAbs.log2 < 9000 ∧ Purse H' pu M ∧ M + mixes m ≤ 2 ^ 50 ∧ mixes m ≤ 2 ^ 50 := fun m h1 h2 M hM H' hP' =>
      ⟨h1, log_small h1 (by omega), hP', (one m h1 h2 M (by omega)).1, (one m h1 h2 0 (by omega)).2⟩
    refine ⟨Nat.zero_le _, fun L hL => ⟨_, _, rfl, ?_⟩⟩
    have nL : L ≠ pu := fresh_ne hP hL
    have nLg : pg ≠ L := ne_of_none hpg hL
    have PL : Purse (upd H L (.lst [])) pu N := hP.same (Same.updf hL)
    refine ⟨_, rfl, (n : Int), rfl, by omega, by omega, ?_⟩
    rw [Int.toNat_natCast]
    refine for_it (walk_range (lo := 0) (n := n)) (fun i σ G => But pu H G ∧ (∃ M, Purse G pu M ∧ M ≤ N + 90 * i) ∧ ∃ (xs : List V) (ds : List Dd) (g : Nat) (v5 v6 v7 : Option V), G L = some (.lst xs) ∧ xs.length = ds.length ∧ ds.length = i ∧
        (∀ (j : Nat) (x : V) (d : Dd), xs[j]? = some x → ds[j]? = some d → DeedAt (off (off G pu) L) x d) ∧ (∀ d ∈ ds, d.Ok ∧ d.n ≤ g ∧ ∀ x ∈ d.r, x ∈ ps) ∧ (ds.Pairwise fun d e => d.n < e.n) ∧ g ≤ 3 * i ∧
        σ = [some (.ref pu), some (.int (n : Int)), some (.ref pg), some (.ref L), some (.int (g : Int)), v5, v6, v7, none])
      ⟨But.of (Same.updf hL), ⟨_, PL, by omega⟩, [], [], 0, _, _, _, upd_same, rfl, rfl, (fun j x d e => by simp at e), (fun d m => nomatch m), .nil, Nat.zero_le _, rfl⟩ (fun i σ G _ _ => trivial) ?_ ?_
    · rintro i x σ G G' hi ⟨bG, ⟨M, PM, lM⟩, xs, ds, g, v5, v6, v7, hx, lx, ld, dx, okx, ax, g3, rfl⟩ ⟨rfl, rfl⟩
      obtain ⟨d1, d2, d3, d4, d5⟩ := dr 3 (by decide) (by decide) M (by omega) _ PM
      refine ⟨_, rfl, _, _, rfl, rfl, _, rfl, pu, 3, M, rfl, d1, d2, d3, d4, d5, fun r1 G1 r10 r11 b1 P1 => ?_⟩
      rw [mx 3 (by decide) (by decide)] at P1
      obtain ⟨d1, d2, d3, d4, d5⟩ := dr 4 (by decide) (by decide) (M + 1) (by omega) _ P1
      refine ⟨_, rfl, pu, 4, M + 1, rfl, d1, d2, d3, d4, d5, fun r2 G2 r20 r21 b2 P2 => ?_⟩
      rw [mx 4 (by decide) (by decide)] at P2
      obtain ⟨r1, rfl⟩ : ∃ q : Nat, r1 = (q : Int) := ⟨r1.toNat, by omega⟩
      refine ⟨rfl, .inr ⟨_, rfl, _, _, rfl, rfl, .inl ⟨by omega, by omega⟩, _, _, rfl, rfl, ?_⟩⟩
      obtain ⟨g', eg, lg, lg3⟩ : ∃ g' : Nat, ((g : Int) + 1 + (r1 : Int) * (if decide (V.int r2 = V.int 0) = true then 1 else 0)) = (g' : Int) ∧ g < g' ∧ g' ≤ g + 3 := by
        split
        · exact ⟨g + 1 + r1, by omega, by omega, by omega⟩
        · exact ⟨g + 1, by omega, by omega, by omega⟩
      show gName 4 (V.int ((g : Int) + 1 + (r1 : Int) * (if decide (V.int r2 = V.int 0) = true then 1 else 0))) _ _ _
      rw [eg]
      have b12 := (bG.trans b1).trans b2
      have hp2 : G2 pg = some (.lst (numsV ps)) := b12 _ _ npg hpg
      have lnp : (numsV ps).length = ps.length := List.length_map _
      refine ⟨_, rfl, _, rfl, pu, pg, numsV ps, M + 2, rfl, npg, SqL.of hp2, by omega, by omega, P2, by omega, fun x G3 hxm b3 P3 => ?_⟩
      obtain ⟨pp, mpp, rfl⟩ := List.mem_map.mp hxm
      have hp3 := b3 _ _ npg hp2
      have hL3 : G3 L = some (.lst xs) := b3 _ _ nL (b2 _ _ nL (b1 _ _ nL hx))
      refine ⟨_, rfl, (by show 1 ≤ sizeLine; omega), fun A1 hA1 => ?_⟩
      have s4 := Same.updf (o := .lst [V.int (pp : Int)]) hA1
      have nA1 : A1 ≠ pu := fresh_ne P3 hA1
      refine ⟨_, rfl, pg, rfl, ⟨_, SqL.of (s4 _ _ hp3)⟩, fun D hD => ?_⟩
      have P4 : Purse (upd (upd G3 A1 (.lst [.int (pp : Int)])) D (.lst [])) pu (M + 3) := (P3.same s4).same (Same.updf hD)
      refine lc_it (walk_list (K := K) (a := pg) (xs := numsV ps)) (fun j H5 => But pu (upd G3 A1 (.lst [.int (pp : Int)])) H5 ∧ (∃ M', Purse H5 pu M' ∧ M' ≤ M + 3 + j) ∧ ∃ ys : List Nat, H5 D = some (.lst (numsV ys)) ∧ ys.Sublist (ps.take j) ∧ pp ∉ ys)
        ⟨But.of (Same.updf hD), ⟨_, P4, Nat.le_refl _⟩, [], upd_same, List.nil_sublist _, fun h => nomatch h⟩ (fun j H5 _ hh => SqL.of (hh.1 _ _ npg (s4 _ _ hp3))) ?_ ?_
      · rintro j x H5 H6 hj ⟨b5, ⟨M', P5, lM'⟩, ys, hys, sy, ny⟩ ⟨rfl, hv⟩
        have lj : j < ps.length := by omega
        unfold numsV at hv
        rw [List.getElem?_map, List.getElem?_eq_getElem lj] at hv
        obtain rfl := Option.some.inj hv
        have tk : ps.take (j + 1) = ps.take j ++ [ps[j]] := by
          rw [List.take_succ, List.getElem?_eq_getElem lj]
          rfl
        have nD : D ≠ pu := fresh_ne (P3.same s4) hD
        have ly : ys.length ≤ 6 := by
          have := sy.length_le
          rw [List.length_take] at this
          omega
        have stay : ∀ {H7 : Hp} {M7 : Nat}, But pu H6 H7 → Purse H7 pu M7 → M7 ≤ M + 3 + (j + 1) → But pu (upd G3 A1 (.lst [.int (pp : Int)])) H7 ∧ (∃ M', Purse H7 pu M' ∧ M' ≤ M + 3 + (j + 1)) ∧ ∃ ys : List Nat, H7 D = some (.lst (numsV ys)) ∧ ys.Sublist (ps.take (j + 1)) ∧ pp ∉ ys := fun b7 P7 l7 =>
          ⟨b5.trans b7, ⟨_, P7, l7⟩, ys, b7 _ _ nD hys, by rw [tk]; exact sy.trans (List.sublist_append_left _ _), ny⟩
        refine ⟨rfl, _, rfl, _, rfl, ⟨rfl, _, rfl, ?_⟩⟩
        by_cases e : ps[j] = pp
        · rw [e]
          simp only [decide_true, Bool.not_true]
          exact iteF (iteF (stay (But.refl _ _) P5 (by omega)))
        · have e1 : (!decide (V.int (ps[j] : Int) = V.int (pp : Int))) = true := by
            simp
            omega
          rw [e1]
          obtain ⟨d1, d2, d3, d4, d5⟩ := dr 3 (by decide) (by decide) M' (by omega) _ P5
          refine iteT ⟨_, rfl, pu, 3, M', rfl, d1, d2, d3, d4, d5, fun r3 H7 r30 r31 b7 P7 => ?_⟩
          rw [mx 3 (by decide) (by decide)] at P7
          refine ⟨rfl, _, rfl, ?_⟩
          by_cases e3 : r3 = 0
          · subst e3
            refine iteT ⟨_, rfl, numsV ys, b7 _ _ nD hys, (by unfold numsV; rw [List.length_map]; omega), ?_⟩
            refine ⟨fun c o n e => ?_, ⟨_, P7.same' (upd_ne nD.symm), by omega⟩, ys ++ [ps[j]], ?_, ?_, ?_⟩
            · rw [upd_ne (ne_of_none e hD)]
              exact b7 _ _ n (b5 _ _ n e)
            · rw [upd_same, numsV_snoc]
            · rw [tk]
              exact sy.append (List.Sublist.refl _)
            · intro m
              rcases List.mem_append.mp m with m | m
              · exact ny m
              · exact e (List.mem_singleton.mp m).symm
          · rw [decide_eq_false (fun z => e3 (V.int.inj z))]
            exact iteF (stay b7 P7 (by omega))
      · rintro H5 ⟨b5, ⟨M', P5, lM'⟩, ys, hys, sy, ny⟩
        rw [lnp, List.take_length] at sy
        have ly := sy.length_le
        have nyd : ys.Nodup := (ap.sublist sy).imp fun h => Nat.ne_of_lt h
        have hA5 := b5 _ _ nA1 upd_same
        have mm : ∀ m : List Nat, (m.map fun x : Nat => (x : Int)).map V.int = numsV m := fun m => by
          rw [List.map_map]
          rfl
        refine ⟨A1, D, [.int (pp : Int)], numsV ys, rfl, rfl, hA5, hys, (by unfold numsV; rw [List.length_map]; simp; omega), fun A2 hA2 => ?_⟩
        refine ⟨A2, (pp :: ys).map fun x : Nat => (x : Int), rfl, SqL.of (by rw [mm, upd_same]; rfl), (by rw [List.length_map, List.length_cons]; omega), fun ns A3 hpm hso hA3 => ?_⟩
        obtain ⟨rr, rfl⟩ : ∃ rr : List Nat, ns = rr.map fun x : Nat => (x : Int) := by
          refine ⟨ns.map Int.toNat, ?_⟩
          rw [List.map_map]
          conv => lhs; rw [← List.map_id ns]
          refine List.map_congr_left fun x mx => ?_
          obtain ⟨y, _, rfl⟩ := List.mem_map.mp (hpm.mem_iff.mp mx)
          simp
        have prr : rr.Perm (pp :: ys) := by
          have := hpm.map Int.toNat
          rw [List.map_map, List.map_map] at this
          have id1 : (Int.toNat ∘ fun x : Nat => (x : Int)) = id := by
            funext x
            simp
          rw [id1, List.map_id, List.map_id] at this
          exact this
        have ndr : rr.Nodup := prr.nodup_iff.mpr (List.nodup_cons.mpr ⟨ny, nyd⟩)
        have asr : rr.Pairwise (· < ·) := by
          have h1 : rr.Pairwise (· ≤ ·) := (List.pairwise_map.mp hso).imp fun h => by omega
          exact (h1.and ndr).imp fun h => by omega
        rw [mm]
        have lrr : rr.length = ys.length + 1 := by
          have := prr.length_eq
          simpa using this
        have s6 := (Same.updf (o := .lst ([.int (pp : Int)] ++ numsV ys)) hA2).trans (Same.updf (o := .lst (numsV rr)) hA3)
        have hL5 : H5 L = some (.lst xs) := b5 _ _ nL (s4 _ _ hL3)
        have s7 := Same.updf (o := .lst ([.int (pp : Int)] ++ numsV ys)) hA2
        have nLA3 : A3 ≠ L := (ne_of_none (s7 _ _ hL5) hA3).symm
        have nA3 : A3 ≠ pu := fresh_ne (P5.same s7) hA3
        refine ⟨_, rfl, .inl ⟨rfl, _, SqL.of (s6 _ _ hL5)⟩, _, rfl, _, rfl, _, rfl, _, rfl, pu, M', rfl, P5.same s6, by omega, fun tw ws H8 b8 P8 tr8 ok8 sz8 => ⟨(by show 4 ≤ sizeLine; omega), fun T hT => ?_⟩⟩
        have s9 := Same.updf (o := .tup [.int (g' : Int), .int (pp : Int), .ref A3, .ref tw]) hT
        have hL8 : H8 L = some (.lst xs) := b8 _ _ nL (s6 _ _ hL5)
        have nT : T ≠ pu := fresh_ne P8 hT
        have nTL : T ≠ L := (ne_of_none hL8 hT).symm
        refine ⟨L, xs, .ref T, rfl, rfl, s9 _ _ hL8, by omega, ?_⟩
        have bAll : But pu G' H8 := ((((b1.trans b2).trans b3).trans (But.of s4)).trans b5).trans ((But.of s6).trans b8)
        have bG9 : But pu H H8 := bG.trans bAll
        refine ⟨fun c o n e => ?_, ⟨_, P8.same' ((upd_ne nL.symm).trans (upd_ne nT.symm)), by omega⟩, xs ++ [.ref T], ds ++ [⟨g', pp, rr, ws⟩], g', _, _, _, upd_same, by rw [List.length_append, List.length_append, lx]; rfl, by rw [List.length_append, ld]; rfl, fun j x d e1 e2 => ?_, fun d m => ?_, ?_, by omega, rfl⟩
        · rw [upd_ne (ne_of_none e hL)]
          exact s9 _ _ (bG9 _ _ n e)
        · rw [off2_upd]
          have sG9 : Same (off (off G' pu) L) (off (off (upd H8 T (.tup [.int (g' : Int), .int (pp : Int), .ref A3, .ref tw])) pu) L) := off_same L (but_off (bAll.trans (But.of s9)))
          by_cases hj : j < xs.length
          · rw [List.getElem?_append_left hj] at e1
            rw [List.getElem?_append_left (by omega)] at e2
            exact (dx j x d e1 e2).same sG9
          · rw [List.getElem?_append_right (by omega)] at e1
            rw [List.getElem?_append_right (by omega)] at e2
            cases hz : j - xs.length with
            | succ z =>
              rw [hz] at e1
              simp at e1
            | zero =>
              rw [hz] at e1
              rw [show j - ds.length = 0 by omega] at e2
              cases e1
              cases e2
              refine ⟨T, A3, tw, rfl, ?_, ?_, ?_⟩
              · rw [off_at nTL, off_at nT, upd_same]
              · rw [off_at nLA3, off_at nA3]
                exact s9 _ _ (b8 _ _ nA3 upd_same)
              · refine tr_tup (H := H8) (fun a ys e => ?_) ok8 tr8
                have na : a ≠ pu := fun z => by
                  obtain ⟨_, _, _, _, e', _⟩ := P8
                  rw [z, e'] at e
                  cases e
                have nb : a ≠ L := fun z => by
                  rw [z, hL8] at e
                  cases e
                rw [off_at nb, off_at na]
                exact s9 _ _ e
        · rcases List.mem_append.mp m with m | m
          · obtain ⟨o1, o2, o3⟩ := okx d m
            exact ⟨o1, by omega, o3⟩
          · obtain rfl := List.mem_singleton.mp m
            refine ⟨⟨by show 1 ≤ g'; omega, asr, prr.mem_iff.mpr List.mem_cons_self, by show rr.length ≤ 20; omega, ok8, by show szWs ws ≤ 100; omega⟩, Nat.le_refl _, fun x hx => ?_⟩
            rcases List.mem_cons.mp (prr.mem_iff.mp hx) with rfl | hx
            · exact mpp
            · exact sy.mem hx
        · exact List.pairwise_append.mpr ⟨ax, List.pairwise_singleton _ _, fun a m b n => by
            rw [List.mem_singleton.mp n]
            have := (okx a m).2.1
            show a.n < g'
            omega⟩
    · rintro σ G ⟨bG, ⟨M, PM, lM⟩, xs, ds, g, v5, v6, v7, hx, lx, ld, dx, okx, ax, g3, rfl⟩
      have hpg' : ∀ x ∈ pgs ds, x ∈ ps := fun x m => by
        obtain ⟨d, hd, hx⟩ := pgs_mem.mp m
        exact (okx d hd).2.2 x hx
      have lp : (pgs ds).length ≤ ps.length := List.Nodup.length_le_of_subset ((pgs_asc ds).imp fun h => Nat.ne_of_lt h) hpg'
      refine ⟨_, rfl, k L ds G bG (PM.mono (by omega)) hL ⟨xs, by rw [off_at nL]; exact hx, lx, fun j x d e1 e2 => (dx j x d e1 e2).same (off_le _ L)⟩ ⟨fun d m => (okx d m).1, ax, by omega, by omega⟩ ld (fun d m => (okx d m).2.2) fun d m => by
        have := (okx d m).2.1
        omega⟩
end
end K21
set_option Elab.async false
set_option linter.all false
set_option maxRecDepth 100000
set_option maxHeartbeats 8000000
namespace K21
open PySem PySem.Spec PyProof.Rows L2 KB
/-- the marks behind the number n -/
def mkAt (ds : List Dd) (n : Int) (p : Nat) : Nat := ((ds.filter fun d => decide (d.p = p ∧ (d.n : Int) ≤ n)).map (·.n)).getLastD 0
theorem mkAt_snoc (ds : List Dd) (d : Dd) (n : Int) (p : Nat) : mkAt (ds ++ [d]) n p = if d.p = p ∧ (d.n : Int) ≤ n then d.n else mkAt ds n p := by
  unfold mkAt
  rw [List.filter_append, List.map_append]
  by_cases e : d.p = p ∧ (d.n : Int) ≤ n
  · rw [if_pos e, List.filter_cons, if_pos (decide_eq_true e)]
    simp
  · rw [if_neg e, List.filter_cons, if_neg (by simpa using e)]
    simp
theorem mkAt_mk (ds : List Dd) (n : Int) : Mk ds (mkAt ds n) := fun p _ => by
  unfold mkAt nbp
  rw [List.getLastD_eq_getLast?]
  cases h : ((ds.filter fun d => decide (d.p = p ∧ (d.n : Int) ≤ n)).map (·.n)).getLast? with
  | none => exact List.mem_cons_self
  | some x =>
    have m := List.mem_of_getLast? h
    obtain ⟨d, hd, rfl⟩ := List.mem_map.mp m
    obtain ⟨h1, h2⟩ := List.mem_filter.mp hd
    exact List.mem_cons_of_mem _ (List.mem_map.mpr ⟨d, List.mem_filter.mpr ⟨h1, decide_eq_true (of_decide_eq_true h2).1⟩, rfl⟩)
/-- marks of a log, in a new dictionary -/
def spMarksAt : Sp := fun vs H Q _ => ∃ (a : Addr) (n : Int) (ds : List Dd), vs = [.ref a, .int n] ∧ LogAt H a ds ∧ Lg ds ∧ ∀ q H', Same H H' → H q = none → MkAt H' q (pgs ds) (mkAt ds n) → Q (.ref q) H'
def spMarks : Sp := fun vs H Q _ => ∃ (a : Addr) (ds : List Dd), vs = [.ref a] ∧ LogAt H a ds ∧ Lg ds ∧ ∀ q H', Same H H' → H q = none → MkAt H' q (pgs ds) (mkAt ds 1000000000) → Q (.ref q) H'
theorem merge_dV : ∀ {qs ps : List Nat} {f : Nat → V}, (ps ++ qs).Nodup → mergeK (dV ps f) (dV qs f) = dV (ps ++ qs) f
  | [], ps, f, _ => by
    rw [List.append_nil]
    rfl
  | q :: qs, ps, f, h => by
    have nq : q ∉ ps := fun m => by
      have := List.nodup_append.mp h
      exact this.2.2 q m q List.mem_cons_self rfl
    have e : mergeK (dV ps f) (dV (q :: qs) f) = mergeK (putK (dV ps f) (ky q) (f q)) (dV qs f) := rfl
    have e2 : dV (ps ++ [q]) (put f q (f q)) = dV (ps ++ [q]) f := dV_congr fun p _ => by
      unfold put
      split
      · next z => rw [z]
      · rfl
    rw [e, dV_new nq, e2, merge_dV (by rw [List.append_assoc]; exact h), List.append_assoc]
    rfl
theorem merge_dV0 {qs : List Nat} {f : Nat → V} (h : qs.Nodup) : mergeK [] (dV qs f) = dV qs f := merge_dV (ps := []) h
theorem pgs_nd (ds : List Dd) : (pgs ds).Nodup := (pgs_asc ds).imp fun h => Nat.ne_of_lt h
theorem filter_true (n : Nat) : ((List.range n).filter fun _ => true) = List.range n := List.filter_eq_self.mpr fun _ _ => rfl
theorem range_map_get (l : List Nat) (f : Nat → V) : ((List.range l.length).map fun i => (ky (l.getD i 0), f (l.getD i 0))) = dV l f := by
  unfold dV
  refine List.ext_getElem (by simp) fun i h1 h2 => ?_
  have hi : i < l.length := by simpa using h1
  simp [hi]
section
variable {P : Program} {w : World} {K : PySem.W.Frag} {mg : Str → Option Value} {base : Heap}
abbrev s_marks_at : Stmt := top 51
abbrev N_marks_at : List Str := ["_law_log_here", "_law_number", "_law_found", "_law_deed", "_law_page"]
theorem sc_marks_at : FnScope N_marks_at ["_law_log_here", "_law_number"] (defScope s_marks_at) := ⟨rfl, rfl, rfl, by decide +kernel, rfl, by decide +kernel, by decide +kernel⟩
theorem ok_marks_at {f : Addr} {fd : FuncData} (F : FnP K "_law_marks_at" s_marks_at f fd) (Z : FreeS mg)
    {f_of_pages : Addr} {d_of_pages : FuncData} (g_of_pages : mg "_law_of_pages" = some (.ref f_of_pages)) (F_of_pages : FnP K "_law_of_pages" s_of_pages f_of_pages d_of_pages) (G_of_pages : FnOk P w K mg base CX0 1 f_of_pages d_of_pages ["_law_log_here"] spOfP) :
    FnOk P w K mg base CX0 2 f fd ["_law_log_here", "_law_number"] spMarksAt := by
  have b_of_pages : Binds K d_of_pages ["_law_log_here"] [] := F_of_pages.bindsN fun _ _ _ _ _ _ us hl => match us, hl with | [_], _ => rfl
  refine F.ok sc_marks_at (fun vs H Q E h => ?_) (fun cdv A outer s H vs Q E hr h => ?_)
  · obtain ⟨a, n, ds, rfl, _⟩ := h
    rfl
  · obtain ⟨a, n, ds, rfl, hL, hG, k⟩ := h
    obtain ⟨xs, ha, lx, hx⟩ := id hL
    have l60 := hG.len
    have pl := hG.pl
    have sl : (2000 : Nat) ≤ sizeLine := by decide
    have hu : (A.deeper (envOfC "_law_marks_at" (defScope s_marks_at) s.heap.objs.size f cdv)).units + 1 < cLine := by
      have := hr.units
      omega
    have nd := sc_marks_at.nd
    refine ⟨_, PSs.nox (pss_cons (ps_set (i := 2) nd rfl (Or.inl rfl) (pe_callTy (call_dictPR rfl) (by rfl) Z.tdict (by decide +kernel) (pa_cons (pe_lc (own := [("_law_page", 4)]) (g := gName 4) (tt := tYes) (te := tTup (tCons (tVar 4) (tCons (tC (.int 0)) (tNil)))) (by rfl) nd (pi_list (pe_call G_of_pages (hr.mono (by decide)) rfl g_of_pages F_of_pages.kp b_of_pages .nil pass0 (pa_cons (pv 0) (pa_nil))))
          (blkOk_by (own := [("_law_page", 4)]) (N := N_marks_at) (sc := defScope s_marks_at) (by decide +kernel)) (fun _ _ _ _ _ => pg_name (i := 4) nd rfl (Or.inl rfl)) (fun _ _ _ _ _ => pts_nil)
          (fun _ _ _ _ _ => pe_tup (pa_cons (pv 4) (pa_cons (pe_int) (pa_nil))))) (pa_nil))))
      (pss_cons (ps_for PassesOwn.never rfl (pi_list (pv 0)) (pg_name (i := 3) nd rfl (Or.inl rfl))
        (pss_one (ps_if (pt_cmpR op_le (pe_ix ix_tup (pv 3) (pe_int) (fun _ _ => rfl)) (pv 1) (nomark _)) (pss_one (ps_dput hu (pv 2) (pe_ix ix_tup (pv 3) (pe_int) (fun _ _ => rfl)) (pe_ix ix_tup (pv 3) (pe_int) (fun _ _ => rfl)) rfl)) (pss_nil))))
      (pss_one (ps_ret (pv 2))))), ?_⟩
    refine ⟨_, rfl, a, ds, rfl, hL, hG, fun pq G1 s1 npq hpq => ?_⟩
    refine ⟨pq, rfl, ⟨_, SqL.of hpq⟩, fun D hD => ?_⟩
    have ln : (numsV (pgs ds)).length = (pgs ds).length := List.length_map _
    refine lc_rel (walk_list (K := K) (a := pq) (xs := numsV (pgs ds))) (fun _ => true) (fun i y G => ∃ T, y = .ref T ∧ G T = some (.tup [kV (ky ((pgs ds).getD i 0)), .int 0])) (fun i y G G' s1 ⟨T, e, h⟩ => ⟨T, e, s1 _ _ h⟩) (by omega) hD (fun G s2 => SqL.of (s2 _ _ hpq)) ?_ ?_
    · rintro i x G G' Qy Qn hi s2 ⟨acc, hacc⟩ ⟨rfl, hv⟩ ky_ kn
      have li : i < (pgs ds).length := by omega
      unfold numsV at hv
      rw [List.getElem?_map, List.getElem?_eq_getElem li] at hv
      obtain rfl := Option.some.inj hv
      refine ⟨rfl, _, rfl, (by show 2 ≤ sizeLine; omega), fun T hT => ky_ _ _ rfl (Same.updf hT) ⟨T, rfl, ?_⟩⟩
      rw [off_at (ne_of_none hacc hT).symm, upd_same, List.getD_eq_getElem?_getD, List.getElem?_eq_getElem li]
      rfl
    · rintro G ys s2 hys py
      rw [ln, filter_true] at py
      obtain ⟨ts, rfl, pt⟩ := pairs_addr (K := K) (f := fun i => (ky ((pgs ds).getD i 0), V.int 0)) (paired_mono (fun i y ⟨T, e, h⟩ => ⟨T, e, off_le _ _ _ _ h⟩) py)
      rw [range_map_get (pgs ds) fun _ => V.int 0] at pt
      refine ⟨D, ts, _, rfl, SqL.of hys, pt, fun q hq => ?_⟩
      rw [merge_dV0 (pgs_nd ds)]
      have sH : Same H (upd G q (.dK (dV (pgs ds) fun _ => V.int 0))) := (s1.trans s2).trans (Same.updf hq)
      have nHq : H q = none := none_back (s1.trans s2) hq
      refine ⟨_, rfl, a, rfl, ⟨_, SqL.of (sH _ _ ha)⟩, ?_⟩
      refine for_it (walk_list (K := K) (a := a) (xs := xs)) (fun i σ G3 => Same H G3 ∧ ∃ v3, MkAt G3 q (pgs ds) (mkAt (ds.take i) n) ∧ σ = [some (.ref a), some (.int n), some (.ref q), v3, none]) ⟨sH, _, upd_same, rfl⟩ (fun i σ G3 _ hh => SqL.of (hh.1 _ _ ha)) ?_ ?_
      · rintro i x σ G3 G4 hi ⟨sG, v3, hm, rfl⟩ ⟨rfl, hv⟩
        have li : i < ds.length := by omega
        have hd : ds[i]? = some ds[i] := List.getElem?_eq_getElem li
        have md : ds[i] ∈ ds := List.getElem_mem li
        have etk : ds.take (i + 1) = ds.take i ++ [ds[i]] := by
          rw [List.take_succ, hd]
          rfl
        obtain ⟨t, rd, tw, rfl, ht, hr1, _⟩ := (hx i x _ hv hd).same sG
        refine ⟨_, rfl, t, _, 0, _, rfl, rfl, SqT.of ht, rfl, _, rfl, _, _, rfl, rfl, _, rfl, ?_⟩
        by_cases c : (ds[i].n : Int) ≤ n
        · rw [decide_eq_true c]
          refine iteT ⟨_, rfl, t, _, 0, _, rfl, rfl, SqT.of ht, rfl, _, rfl, _, rfl, t, _, 1, _, rfl, rfl, SqT.of ht, rfl, q, _, rfl, DPut.k (k := ky ds[i].p) hm (by rw [dV_len]; omega), ?_⟩
          rw [mV_put (own_pg hG md)]
          refine ⟨fun b o e => ?_, _, ?_, rfl⟩
          · rw [upd_ne (ne_of_none e nHq)]
            exact sG _ _ e
          · show _ = _
            rw [upd_same]
            refine congrArg (fun z => some (HO.dK z)) (dV_congr fun p hp => ?_)
            rw [etk, mkAt_snoc]
            unfold putN
            by_cases e : p = ds[i].p
            · rw [if_pos e, if_pos ⟨e.symm, c⟩]
            · rw [if_neg e, if_neg fun h => e h.1.symm]
        · rw [decide_eq_false c]
          refine iteF ⟨sG, _, ?_, rfl⟩
          rw [etk]
          unfold MkAt at hm ⊢
          rw [hm]
          refine congrArg (fun z => some (HO.dK z)) (dV_congr fun p hp => ?_)
          rw [mkAt_snoc, if_neg fun h => c h.2]
      · rintro σ G3 ⟨sG, v3, hm, rfl⟩
        rw [lx, List.take_length] at hm
        exact ⟨_, rfl, k q G3 sG nHq hm⟩
abbrev s_marks : Stmt := top 52
abbrev N_marks : List Str := ["_law_log_here"]
theorem sc_marks : FnScope N_marks ["_law_log_here"] (defScope s_marks) := ⟨rfl, rfl, rfl, by decide +kernel, rfl, by decide +kernel, by decide +kernel⟩
theorem ok_marks {f : Addr} {fd : FuncData} (F : FnP K "_law_marks" s_marks f fd) (Z : FreeS mg)
    {f_marks_at : Addr} {d_marks_at : FuncData} (g_marks_at : mg "_law_marks_at" = some (.ref f_marks_at)) (F_marks_at : FnP K "_law_marks_at" s_marks_at f_marks_at d_marks_at) (G_marks_at : FnOk P w K mg base CX0 2 f_marks_at d_marks_at ["_law_log_here", "_law_number"] spMarksAt) :
    FnOk P w K mg base CX0 3 f fd ["_law_log_here"] spMarks := by
  have b_marks_at : Binds K d_marks_at ["_law_log_here", "_law_number"] [] := F_marks_at.bindsN fun _ _ _ _ _ _ us hl => match us, hl with | [_, _], _ => rfl
  refine F.ok sc_marks (fun vs H Q E h => ?_) (fun cdv A outer s H vs Q E hr h => ?_)
  · obtain ⟨a, ds, rfl, _⟩ := h
    rfl
  · obtain ⟨a, ds, rfl, hL, hG, k⟩ := h
    have nd := sc_marks.nd
    refine ⟨_, PSs.nox (pss_one (ps_ret (pe_call G_marks_at (hr.mono (by decide)) rfl g_marks_at F_marks_at.kp b_marks_at .nil pass0 (pa_cons (pv 0) (pa_cons (pe_op op_pow (pe_int) (pe_int)) (pa_nil)))))), ?_⟩
    exact ⟨_, rfl, _, _, rfl, rfl, ⟨by decide, by decide, by decide⟩, a, _, ds, rfl, hL, hG, fun q H' s nq h => k q H' s nq h⟩
end
end K21
set_option Elab.async false
set_option linter.all false
set_option maxRecDepth 100000
set_option maxHeartbeats 8000000
namespace K21
open PySem PySem.Spec PyProof.Rows L2 KB
theorem paired_map {α β γ : Type} {F : γ → β → Prop} {f : α → γ} : ∀ {xs : List α} {ys : List β}, Paired (fun x y => F (f x) y) xs ys → Paired F (xs.map f) ys
  | _, _, .nil => .nil
  | _, _, .cons r t => .cons r (paired_map t)
theorem sel_get (l : List Nat) (c : Nat → Bool) : (((List.range l.length).filter fun i => c (l.getD i 0)).map fun i => l.getD i 0) = l.filter c := by
  have e : l = (List.range l.length).map fun i => l.getD i 0 := by
    refine List.ext_getElem (by simp) fun i h1 h2 => ?_
    simp [h1]
  conv => rhs; rw [e, List.filter_map]
  rfl
theorem paired_sel {l : List Nat} {c : Nat → Bool} {R : Nat → V → Prop} {ys : List V} (h : Paired (fun i y => R (l.getD i 0) y) ((List.range l.length).filter fun i => c (l.getD i 0)) ys) : Paired R (l.filter c) ys := by
  have := paired_map h
  rw [sel_get] at this
  exact this
theorem paired_app {α β : Type} {F : α → β → Prop} : ∀ {xs zs : List α} {ys us : List β}, Paired F xs ys → Paired F zs us → Paired F (xs ++ zs) (ys ++ us)
  | _, _, _, _, .nil, h => h
  | _, _, _, _, .cons r t, h => .cons r (paired_app t h)
theorem paired_len {α β : Type} {F : α → β → Prop} : ∀ {xs : List α} {ys : List β}, Paired F xs ys → xs.length = ys.length
  | _, _, .nil => rfl
  | _, _, .cons _ t => congrArg (· + 1) (paired_len t)
/-- y is the pair of a number and a page -/
def TwoAt (H : Hp) (w : Dd × Nat) (y : V) : Prop := ∃ T, y = .ref T ∧ H T = some (.tup [.int (w.1.n : Int), .int (w.2 : Int)])
theorem TwoAt.same {H H' : Hp} (k : Same H H') {w : Dd × Nat} {y : V} : TwoAt H w y → TwoAt H' w y := fun ⟨T, e, h⟩ => ⟨T, e, k _ _ h⟩
def spTooNew : Sp := fun vs H Q _ => ∃ (a b : Addr) (ds : List Dd) (ks : List Nat) (m : Nat → Nat), vs = [.ref a, .ref b] ∧ LogAt H a ds ∧ Lg ds ∧ MkAt H b ks m ∧ ks.Perm (pgs ds) ∧ ∀ q ys H', Same H H' → H q = none → H' q = some (.lst ys) → Paired (TwoAt H') (wr ds m) ys → Q (.ref q) H'
section
variable {P : Program} {w : World} {K : PySem.W.Frag} {mg : Str → Option Value} {base : Heap}
abbrev s_too_new : Stmt := top 56
abbrev N_too_new : List Str := ["_law_log_here", "_law_marks_here", "_law_found", "_law_number", "_law_page", "_law_reads", "_law_words_here", "_law_late"]
theorem sc_too_new : FnScope N_too_new ["_law_log_here", "_law_marks_here"] (defScope s_too_new) := ⟨rfl, rfl, rfl, by decide +kernel, rfl, by decide +kernel, by decide +kernel⟩
theorem ok_too_new {f : Addr} {fd : FuncData} (F : FnP K "_law_too_new" s_too_new f fd) (Z : FreeS mg) :
    FnOk P w K mg base CX0 1 f fd ["_law_log_here", "_law_marks_here"] spTooNew := by
  refine F.ok sc_too_new (fun vs H Q E h => ?_) (fun cdv A outer s H vs Q E hr h => ?_)
  · obtain ⟨a, b, ds, ks, m, rfl, _⟩ := h
    rfl
  · obtain ⟨a, b, ds, ks, m, rfl, hL, hG, hb, pk, k⟩ := h
    obtain ⟨xs, ha, lx, hx⟩ := id hL
    have l60 := hG.len
    have sl : (3000 : Nat) ≤ sizeLine := by decide
    have hu : (A.deeper (envOfC "_law_too_new" (defScope s_too_new) s.heap.objs.size f cdv)).units + 1 < cLine := by
      have := hr.units
      omega
    have nd := sc_too_new.nd
    refine ⟨_, PSs.nox (pss_cons (ps_set (i := 2) nd rfl (Or.inl rfl) (pe_lst (pa_nil)))
      (pss_cons (ps_for PassesOwn.never rfl (pi_list (pv 0)) (pg_tup rfl (pgs_cons (pg_name (i := 3) nd rfl (Or.inr rfl)) (pgs_cons (pg_name (i := 4) nd rfl (Or.inl rfl)) (pgs_cons (pg_name (i := 5) nd rfl (Or.inl rfl)) (pgs_cons (pg_name (i := 6) nd rfl (Or.inl rfl)) (pgs_nil))))))
        (pss_one (ps_if (pt_cmpR op_lt (pe_dget hu (pv 1) (pv 4) (fun _ _ => rfl)) (pv 3) (nomark _)) (pss_one (ps_set (i := 2) nd rfl (Or.inl rfl) (pe_op op_cat (pv 2) (pe_lc (own := [("_law_late", 7)]) (g := gName 7) (tt := tTest (tOp (rI0 fun i j => .bl (decide (j ≤ i))) (tDGet (tVar 1) (tVar 7)) (tVar 3))) (te := tTup (tCons (tVar 3) (tCons (tVar 7) (tNil)))) (by rfl) nd (pi_list (pv 5))
          (blkOk_by (own := [("_law_late", 7)]) (N := N_too_new) (sc := defScope s_too_new) (by decide +kernel)) (fun _ _ _ _ _ => pg_name (i := 7) nd rfl (Or.inl rfl)) (fun _ _ _ _ _ => pts_one (pt_cmpR op_ge (pe_dget hu (pv 1) (pv 7) (fun _ _ => rfl)) (pv 3) (nomark _)))
          (fun _ _ _ _ _ => pe_tup (pa_cons (pv 3) (pa_cons (pv 7) (pa_nil)))))))) (pss_nil))))
      (pss_one (ps_ret (pv 2))))), ?_⟩
    have dget : ∀ {G : Hp} {p : Nat}, Same H G → p ∈ pgs ds → DGet G b (.int (p : Int)) (some (.int (m p : Int))) := fun {G p} s1 hp => by
      have := DGet.k (k := ky p) (s1 _ _ hb)
      rw [dV_val (pk.mem_iff.mpr hp)] at this
      exact this
    have r20 : ∀ d ∈ ds, d.r.length ≤ 20 := fun d hd => (hG.ok d hd).len
    refine ⟨Nat.zero_le _, fun q hq => ?_⟩
    have s1 : Same H (upd H q (.lst [])) := Same.updf hq
    refine ⟨_, rfl, a, rfl, ⟨_, SqL.of (s1 _ _ ha)⟩, ?_⟩
    refine for_it (walk_list (K := K) (a := a) (xs := xs)) (fun i σ G => Same H G ∧ ∃ L ys v3 v4 v5 v6, G L = some (.lst ys) ∧ Paired (TwoAt G) (wr (ds.take i) m) ys ∧ H L = none ∧ σ = [some (.ref a), some (.ref b), some (.ref L), v3, v4, v5, v6, none]) ⟨s1, q, [], _, _, _, _, upd_same, .nil, hq, rfl⟩ (fun i σ G _ hh => SqL.of (hh.1 _ _ ha)) ?_ ?_
    · rintro i x σ G G' hi ⟨sG, L, ys, v3, v4, v5, v6, hys, py, nL, rfl⟩ ⟨rfl, hv⟩
      have li : i < ds.length := by omega
      have hd : ds[i]? = some ds[i] := List.getElem?_eq_getElem li
      have md : ds[i] ∈ ds := List.getElem_mem li
      obtain ⟨t, rd, tw, rfl, ht, hr1, _⟩ := (hx i x _ hv hd).same sG
      have ok := hG.ok _ md
      have mp : ∀ p ∈ ds[i].r, p ∈ pgs ds := fun p hp => pgs_mem.mpr ⟨ds[i], md, hp⟩
      refine ⟨t, [_, _, _, _], rfl, .inl (.inl ht), rfl, _, [_, _, _], rfl, _, [_, _], rfl, _, [_], rfl, _, [], rfl, rfl, ?_⟩
      refine ⟨_, rfl, _, rfl, b, _, rfl, dget sG (mp _ ok.own), _, rfl, _, _, rfl, rfl, _, rfl, ?_⟩
      rw [wr_take hd]
      by_cases c : m ds[i].p < ds[i].n
      · rw [decide_eq_true (show (m ds[i].p : Int) < (ds[i].n : Int) by omega), if_pos c]
        refine iteT ⟨_, rfl, _, rfl, rd, rfl, ⟨_, SqL.of hr1⟩, fun D hD => ?_⟩
        have l20 := r20 _ md
        have ln : (numsV ds[i].r).length = ds[i].r.length := List.length_map _
        have wl := wr_len (ds := ds.take i) (fun e he => r20 e (List.mem_of_mem_take he)) m
        rw [List.length_take] at wl
        have ly := paired_len py
        refine lc_rel (walk_list (K := K) (a := rd) (xs := numsV ds[i].r)) (fun j => decide (ds[i].n ≤ m (ds[i].r.getD j 0))) (fun j y G => TwoAt G (ds[i], ds[i].r.getD j 0) y) (fun j y G G' s1 h => h.same s1) (by omega) hD (fun G s2 => SqL.of (s2 _ _ hr1)) ?_ ?_
        · rintro j x G3 G4 Qy Qn hj s3 ⟨acc, hacc⟩ ⟨rfl, hv⟩ ky_ kn
          have lj : j < ds[i].r.length := by omega
          unfold numsV at hv
          rw [List.getElem?_map, List.getElem?_eq_getElem lj] at hv
          obtain rfl := Option.some.inj hv
          have eg : ds[i].r.getD j 0 = ds[i].r[j] := by simp [lj]
          rw [eg] at ky_ kn
          refine ⟨rfl, _, rfl, _, rfl, b, _, rfl, dget (sG.trans s3) (mp _ (List.getElem_mem _)), _, rfl, _, _, rfl, rfl, _, rfl, ?_⟩
          by_cases z : ds[i].n ≤ m ds[i].r[j]
          · rw [decide_eq_true (show (ds[i].n : Int) ≤ (m ds[i].r[j] : Int) by omega)]
            refine iteT ⟨_, rfl, _, rfl, (by show 2 ≤ sizeLine; omega), fun T hT => ky_ _ _ (decide_eq_true z) (Same.updf hT) ⟨T, rfl, ?_⟩⟩
            rw [off_at (ne_of_none hacc hT).symm, upd_same]
          · rw [decide_eq_false (show ¬ (ds[i].n : Int) ≤ (m ds[i].r[j] : Int) by omega)]
            exact iteF (kn _ (decide_eq_false z) (Same.refl _))
        · rintro G3 zs s3 hzs pz
          rw [ln] at pz
          have pz2 := paired_sel (l := ds[i].r) (c := fun p => decide (ds[i].n ≤ m p)) (R := fun p y => TwoAt (off G3 D) (ds[i], p) y) pz
          have lz := paired_len pz2
          have lf := List.length_filter_le (fun p => decide (ds[i].n ≤ m p)) ds[i].r
          refine ⟨L, D, ys, zs, rfl, rfl, s3 _ _ hys, hzs, by omega, fun L2 hL2 => ?_⟩
          have s4 := Same.updf (o := .lst (ys ++ zs)) hL2
          refine ⟨(sG.trans s3).trans s4, L2, _, _, _, _, _, upd_same, paired_app (paired_mono (fun w y h => h.same (s3.trans s4)) py) ?_, none_back (sG.trans s3) hL2, rfl⟩
          unfold wr1
          rw [List.take_length]
          exact paired_map (paired_mono (fun p y h => h.same ((off_le _ _).trans s4)) pz2)
      · rw [decide_eq_false (show ¬ (m ds[i].p : Int) < (ds[i].n : Int) by omega), if_neg c, List.append_nil]
        exact iteF ⟨sG, L, ys, _, _, _, _, hys, py, nL, rfl⟩
    · rintro σ G ⟨sG, L, ys, v3, v4, v5, v6, hys, py, nL, rfl⟩
      rw [lx, List.take_length] at py
      exact ⟨_, rfl, k L ys G sG nL hys py⟩
end
end K21
set_option Elab.async false
set_option linter.all false
set_option maxRecDepth 100000
set_option maxHeartbeats 8000000
namespace K21
open PySem PySem.Spec PyProof.Rows L2 KB
theorem sel_own (ds : List Dd) (p : Nat) : ((List.range ds.length).filterMap fun i => (ds[i]?).bind fun d => if d.p = p then some (V.int (d.n : Int)) else none) = numsV ((ds.filter fun d => decide (d.p = p)).map (·.n)) := by
  induction ds with
  | nil => rfl
  | cons x r ih =>
    rw [List.length_cons, List.range_succ_eq_map, List.filterMap_cons, List.filterMap_map, List.filter_cons]
    have e : ((fun i => ((x :: r)[i]?).bind fun d => if d.p = p then some (V.int (d.n : Int)) else none) ∘ Nat.succ) = fun i => (r[i]?).bind fun d => if d.p = p then some (V.int (d.n : Int)) else none := rfl
    rw [e, ih]
    by_cases h : x.p = p
    · simp [h, numsV]
    · simp [h, numsV]
/-- drawn marks -/
def spDrawnM : Sp := fun vs H Q _ => ∃ (pu a : Addr) (ds : List Dd) (N : Nat), vs = [.ref pu, .ref a] ∧ Purse H pu N ∧ N ≤ 2 ^ 38 ∧ LogAt (off H pu) a ds ∧ Lg ds ∧ ∀ q m H', But pu H H' → Purse H' pu (N + 30) → H q = none → MkAt H' q (pgs ds) m → Mk ds m → Q (.ref q) H'
section
variable {P : Program} {w : World} {K : PySem.W.Frag} {mg : Str → Option Value} {base : Heap}
abbrev s_drawn_marks : Stmt := top 57
abbrev N_drawn_marks : List Str := ["_law_purse_here", "_law_log_here", "_law_found", "_law_page", "_law_deed"]
theorem sc_drawn_marks : FnScope N_drawn_marks ["_law_purse_here", "_law_log_here"] (defScope s_drawn_marks) := ⟨rfl, rfl, rfl, by decide +kernel, rfl, by decide +kernel, by decide +kernel⟩
theorem ok_drawn_marks {f : Addr} {fd : FuncData} (F : FnP K "_law_drawn_marks" s_drawn_marks f fd) (Z : FreeS mg)
    {f_of_pages : Addr} {d_of_pages : FuncData} (g_of_pages : mg "_law_of_pages" = some (.ref f_of_pages)) (F_of_pages : FnP K "_law_of_pages" s_of_pages f_of_pages d_of_pages) (G_of_pages : FnOk P w K mg base CX0 1 f_of_pages d_of_pages ["_law_log_here"] spOfP)
    {f_one_of : Addr} {d_one_of : FuncData} (g_one_of : mg "_law_one_of" = some (.ref f_one_of)) (F_one_of : FnP K "_law_one_of" s_one_of f_one_of d_one_of) (G_one_of : FnOk P w K mg base CX0 3 f_one_of d_one_of ["_law_purse_here", "_law_some"] (spOne K)) :
    FnOk P w K mg base CX0 4 f fd ["_law_purse_here", "_law_log_here"] spDrawnM := by
  have b_of_pages : Binds K d_of_pages ["_law_log_here"] [] := F_of_pages.bindsN fun _ _ _ _ _ _ us hl => match us, hl with | [_], _ => rfl
  have b_one_of : Binds K d_one_of ["_law_purse_here", "_law_some"] [] := F_one_of.bindsN fun _ _ _ _ _ _ us hl => match us, hl with | [_, _], _ => rfl
  refine F.ok sc_drawn_marks (fun vs H Q E h => ?_) (fun cdv A outer s H vs Q E hr h => ?_)
  · obtain ⟨pu, a, ds, N, rfl, _⟩ := h
    rfl
  · obtain ⟨pu, a, ds, N, rfl, hP, hN, hL, hG, k⟩ := h
    obtain ⟨xs, ha', lx, hx⟩ := id hL
    have na : a ≠ pu := fun z => by
      unfold off at ha'
      rw [if_pos z] at ha'
      cases ha'
    have ha : H a = some (.lst xs) := off_le _ _ _ _ ha'
    have l60 := hG.len
    have pl := hG.pl
    have sl : (2000 : Nat) ≤ sizeLine := by decide
    have hu : (A.deeper (envOfC "_law_drawn_marks" (defScope s_drawn_marks) s.heap.objs.size f cdv)).units + 1 < cLine := by
      have := hr.units
      omega
    have nd := sc_drawn_marks.nd
    refine ⟨_, PSs.nox (pss_cons (ps_set (i := 2) nd rfl (Or.inl rfl) (pe_dnewK))
      (pss_cons (ps_for PassesOwn.never rfl (pi_list (pe_call G_of_pages (hr.mono (by decide)) rfl g_of_pages F_of_pages.kp b_of_pages .nil pass0 (pa_cons (pv 1) (pa_nil)))) (pg_name (i := 3) nd rfl (Or.inr rfl))
        (pss_one (ps_dput hu (pv 2) (pv 3) (pe_call G_one_of (hr.mono (by decide)) rfl g_one_of F_one_of.kp b_one_of .nil pass0 (pa_cons (pv 0) (pa_cons (pe_op op_cat (pe_lst (pa_cons (pe_int) (pa_nil))) (pe_lc (own := [("_law_deed", 4)]) (g := gName 4) (tt := tTest (tOp rEq (tOp (rIxT K) (tVar 4) (tC (.int 1))) (tVar 3))) (te := tOp (rIxT K) (tVar 4) (tC (.int 0))) (by rfl) nd (pi_list (pv 1))
          (blkOk_by (own := [("_law_deed", 4)]) (N := N_drawn_marks) (sc := defScope s_drawn_marks) (by decide +kernel)) (fun _ _ _ _ _ => pg_name (i := 4) nd rfl (Or.inl rfl)) (fun _ _ _ _ _ => pts_one (pt_cmpR op_eq (pe_ix ix_tup (pv 4) (pe_int) (fun _ _ => rfl)) (pv 3) (nomark _)))
          (fun _ _ _ _ _ => pe_ix ix_tup (pv 4) (pe_int) (fun _ _ => rfl)))) (pa_nil)))) rfl)))
      (pss_one (ps_ret (pv 2))))), ?_⟩
    refine fun q hq => ?_
    have nq : q ≠ pu := fresh_ne hP hq
    have s1 := Same.updf (o := .dK []) hq
    refine ⟨_, rfl, a, ds, rfl, (hL.same (off_le _ _)).same s1, hG, fun pq G1 s2 npq hpq => ⟨pq, rfl, ⟨_, SqL.of hpq⟩, ?_⟩⟩
    have s12 := s1.trans s2
    have P1 := hP.same s12
    have npu : pq ≠ pu := fresh_ne (hP.same s1) npq
    have nqp : pq ≠ q := (ne_of_none (upd_same (H := H) (a := q)) npq).symm
    have ln : (numsV (pgs ds)).length = (pgs ds).length := List.length_map _
    refine for_it (walk_list (K := K) (a := pq) (xs := numsV (pgs ds))) (fun i σ G => But pu H G ∧ (∃ M, Purse G pu M ∧ M ≤ N + i) ∧ G pq = some (.lst (numsV (pgs ds))) ∧ ∃ m v3, G q = some (.dK (mV ((pgs ds).take i) m)) ∧ (∀ p ∈ (pgs ds).take i, m p ∈ nbp ds p) ∧ σ = [some (.ref pu), some (.ref a), some (.ref q), v3, none])
      ⟨But.of s12, ⟨_, P1, Nat.le_refl _⟩, hpq, fun _ => 0, _, s2 _ _ upd_same, (fun p m => by simp at m), rfl⟩ (fun i σ G _ hh => SqL.of hh.2.2.1) ?_ ?_
    · rintro i x σ G G' hi ⟨bG, ⟨M, PM, lM⟩, hp, m, v3, hm, mk, rfl⟩ ⟨rfl, hv⟩
      have li : i < (pgs ds).length := by omega
      unfold numsV at hv
      rw [List.getElem?_map, List.getElem?_eq_getElem li] at hv
      obtain rfl := Option.some.inj hv
      have haG := bG _ _ na ha
      have hLG : LogAt G' a ds := (hL.same (but_off bG)).same (off_le _ _)
      obtain ⟨xs2, ha2, lx2, hx2⟩ := id hLG
      rw [haG] at ha2
      cases ha2
      refine ⟨_, rfl, (by show 1 ≤ sizeLine; omega), fun A1 hA1 => ?_⟩
      have s3 := Same.updf (o := .lst [V.int 0]) hA1
      refine ⟨_, rfl, a, rfl, ⟨_, SqL.of (s3 _ _ haG)⟩, fun D hD => ?_⟩
      have hxs : ∀ (i : Nat) (x : V) (d : Dd), xs[i]? = some x → ds[i]? = some d → DeedAt G' x d := hx2
      refine lc_sel (n := xs.length) (walk_list (K := K) (a := a) (xs := xs)) (fun j => (ds[j]?).bind fun d => if d.p = (pgs ds)[i] then some (V.int (d.n : Int)) else none) (by omega) hD (fun H2 s4 => SqL.of (s4 _ _ (s3 _ _ haG))) ?_ ?_
      · rintro j y H5 H6 Qy Qn hj s5 ⟨rfl, hy⟩ ky_ kn
        have lj : j < ds.length := by omega
        have hd : ds[j]? = some ds[j] := List.getElem?_eq_getElem lj
        obtain ⟨t, rd, tw, rfl, ht, hr1, _⟩ := (hxs j _ _ hy hd).same (s3.trans s5)
        refine ⟨rfl, _, rfl, t, _, 1, _, rfl, rfl, SqT.of ht, rfl, _, rfl, rfl, _, rfl, ?_⟩
        rw [hd, Option.bind_some] at ky_ kn
        by_cases c : ds[j].p = (pgs ds)[i]
        · rw [if_pos c] at ky_
          rw [decide_eq_true (show V.int (ds[j].p : Int) = V.int ((pgs ds)[i] : Int) by rw [c])]
          exact iteT ⟨_, rfl, t, _, 0, _, rfl, rfl, SqT.of ht, rfl, ky_ _ _ (Same.refl _) rfl⟩
        · rw [if_neg c] at kn
          rw [decide_eq_false (show ¬ V.int (ds[j].p : Int) = V.int ((pgs ds)[i] : Int) from fun z => c (by have := V.int.inj z; omega))]
          exact iteF (kn _ (Same.refl _) rfl)
      · intro H5 s5 hR
        rw [lx, sel_own] at hR
        have lnb := nbp_len ds (pgs ds)[i]
        unfold nbp at lnb
        rw [List.length_cons] at lnb
        have lz : (numsV ((ds.filter fun d => decide (d.p = (pgs ds)[i])).map (·.n))).length ≤ 61 := by
          unfold numsV
          rw [List.length_map]
          omega
        refine ⟨A1, D, [.int 0], _, rfl, rfl, s5 _ _ upd_same, hR, (by show 1 + _ ≤ sizeLine; omega), fun A2 hA2 => ?_⟩
        have s6 := Same.updf (o := .lst ([V.int 0] ++ numsV ((ds.filter fun d => decide (d.p = (pgs ds)[i])).map (·.n)))) hA2
        have s36 := (s3.trans s5).trans s6
        have P6 := PM.same s36
        have nA2 : A2 ≠ pu := fresh_ne (PM.same (s3.trans s5)) hA2
        refine ⟨pu, A2, numsV (nbp ds (pgs ds)[i]), M, rfl, nA2, SqL.of upd_same, by unfold numsV nbp; simp, by unfold numsV; rw [List.length_map]; have := nbp_len ds (pgs ds)[i]; omega, P6, by omega, fun y H7 hy b7 P7 => ?_⟩
        obtain ⟨v, mv, rfl⟩ := List.mem_map.mp hy
        have bAll : But pu G' H7 := (But.of s36).trans b7
        have hm7 := bAll _ _ nq hm
        refine ⟨_, rfl, _, rfl, q, _, rfl, DPut.k (k := ky (pgs ds)[i]) hm7 (by rw [dV_len, List.length_take]; omega), ?_⟩
        refine ⟨fun b o n e => ?_, ⟨_, P7.same' (upd_ne nq.symm), by omega⟩, by rw [upd_ne nqp]; exact bAll _ _ npu hp, putN m (pgs ds)[i] v, _, ?_, fun p hp => ?_, rfl⟩
        · rw [upd_ne (ne_of_none e hq)]
          exact bAll _ _ n (bG _ _ n e)
        · rw [upd_same, dV_new (tk_notin li), tk_snoc li]
          refine congrArg (fun z => some (HO.dK z)) (dV_congr fun p _ => ?_)
          unfold put putN
          split <;> rfl
        · unfold putN
          split
          · next e =>
            rw [e]
            exact mv
          · next e =>
            rw [tk_snoc li] at hp
            rcases List.mem_append.mp hp with hp | hp
            · exact mk p hp
            · exact absurd (List.mem_singleton.mp hp) e
    · rintro σ G ⟨bG, ⟨M, PM, lM⟩, hp, m, v3, hm, mk, rfl⟩
      rw [ln, List.take_length] at hm mk
      exact ⟨_, rfl, k q m G bG (PM.mono (by omega)) hq hm mk⟩
end
end K21
set_option Elab.async false
set_option linter.all false
set_option maxRecDepth 100000
set_option maxHeartbeats 8000000
namespace K21
open PySem PySem.Spec PyProof.Rows L2 KB LiI
/-- stamps behind a number, in a new dictionary -/
def spUpTo : Sp := fun vs H Q _ => ∃ (a : Addr) (n : Int) (ds : List Dd), vs = [.ref a, .int n] ∧ LogAt H a ds ∧ Lg ds ∧ ∀ q H', Same H H' → H q = none → MkAt H' q (pgs ds) (mkAt ds n) → Q (.ref q) H'
def spBehindS : Sp := fun vs H Q _ => ∃ (a : Addr) (n : Nat) (ds : List Dd), vs = [.ref a, .int (n : Int)] ∧ LogAt H a ds ∧ Lg ds ∧ ∀ q H', Same H H' → H q = none → MkAt H' q (pgs ds) (mkAt ds n) → Q (.ref q) H'
/-- what a deed read: its stamps in a new dictionary -/
def spReadS : Sp := fun vs H Q _ => ∃ (a : Addr) (d : Dd) (ds : List Dd), vs = [.ref a, .int (d.n : Int)] ∧ LogAt H a ds ∧ Lg ds ∧ d ∈ ds ∧ ∀ q H', Same H H' → H q = none → MkAt H' q d.r (mkAt ds ((d.n : Int) - 1)) → Q (.ref q) H'
def spAreR : Sp := fun vs H Q _ => ∃ (a b : Addr) (ds : List Dd) (ks : List Nat) (m : Nat → Nat), vs = [.ref a, .ref b] ∧ LogAt H a ds ∧ Lg ds ∧ MkAt H b ks m ∧ ks.Perm (pgs ds) ∧ Mk ds m ∧ ∀ H', Same H H' → Q (.bl (wr ds m).isEmpty) H'
def spNeedC : Sp := fun vs H Q _ => ∃ n : Nat, vs = [.int (n : Int)] ∧ Q .non H
theorem tk_notinN {l : List Nat} (nd : l.Nodup) {i : Nat} (h : i < l.length) : l[i] ∉ l.take i := fun m => by
  obtain ⟨j, lj, e⟩ := List.getElem_of_mem m
  rw [List.getElem_take] at e
  rw [List.length_take] at lj
  exact List.pairwise_iff_getElem.mp nd j i (by omega) h (by omega) e
theorem tk_snocN {l : List Nat} {i : Nat} (h : i < l.length) : l.take (i + 1) = l.take i ++ [l[i]] := by
  rw [List.take_succ, List.getElem?_eq_getElem h]
  rfl
theorem n_inj : ∀ {ds : List Dd}, (ds.Pairwise fun d e => d.n < e.n) → ∀ {a b : Dd}, a ∈ ds → b ∈ ds → a.n = b.n → a = b
  | [], _, a, b, ha, _, _ => by cases ha
  | x :: ds, h, a, b, ha, hb, e => by
    have h1 := List.pairwise_cons.mp h
    rcases List.mem_cons.mp ha with ea | ma
    · rcases List.mem_cons.mp hb with eb | mb
      · rw [ea, eb]
      · have := h1.1 b mb
        rw [ea] at e
        omega
    · rcases List.mem_cons.mp hb with eb | mb
      · have := h1.1 a ma
        rw [eb] at e
        omega
      · exact n_inj h1.2 ma mb e
section
variable {P : Program} {w : World} {K : PySem.W.Frag} {mg : Str → Option Value} {base : Heap}
abbrev s_need_count : Stmt := top 16
abbrev N_need_count : List Str := ["number"]
theorem sc_need_count : FnScope N_need_count ["number"] (defScope s_need_count) := ⟨rfl, rfl, rfl, by decide +kernel, rfl, by decide +kernel, by decide +kernel⟩
theorem ok_need_count {f : Addr} {fd : FuncData} (F : FnP K "need_count" s_need_count f fd) (Z : FreeS mg)
    {f_is_count : Addr} {d_is_count : FuncData} (g_is_count : mg "is_count" = some (.ref f_is_count)) (F_is_count : FnP K "is_count" s_is_count f_is_count d_is_count) (G_is_count : FnOk P w K mg base CX0 2 f_is_count d_is_count ["value"] spCount) :
    FnOk P w K mg base CX0 3 f fd ["number"] spNeedC := by
  have b_is_count : Binds K d_is_count ["value"] [] := F_is_count.bindsN fun _ _ _ _ _ _ us hl => match us, hl with | [_], _ => rfl
  refine F.ok sc_need_count (fun vs H Q E h => ?_) (fun cdv A outer s H vs Q E hr h => ?_)
  · obtain ⟨n, rfl, _⟩ := h
    rfl
  · obtain ⟨n, rfl, k⟩ := h
    have nd := sc_need_count.nd
    refine ⟨_, PSs.nox (pss_one (ps_if (pt_not (pt_val (pe_call G_is_count (hr.mono (by decide)) rfl g_is_count F_is_count.kp b_is_count .nil pass0 (pa_cons (pv 0) (pa_nil))))) (pss_one (ps_dead)) (pss_nil))), ?_⟩
    refine ⟨_, rfl, .inl ⟨_, rfl, _, rfl, ?_⟩⟩
    rw [decide_eq_true (show (n : Int) ≥ 0 by omega)]
    exact iteF k
abbrev s_are_right : Stmt := top 32
abbrev N_are_right : List Str := ["deeds", "stamps"]
theorem sc_are_right : FnScope N_are_right ["deeds", "stamps"] (defScope s_are_right) := ⟨rfl, rfl, rfl, by decide +kernel, rfl, by decide +kernel, by decide +kernel⟩
theorem ok_are_right {f : Addr} {fd : FuncData} (F : FnP K "are_right" s_are_right f fd) (Z : FreeS mg)
    {f_need_stamps : Addr} {d_need_stamps : FuncData} (g_need_stamps : mg "need_stamps" = some (.ref f_need_stamps)) (F_need_stamps : FnP K "need_stamps" s_need_stamps f_need_stamps d_need_stamps) (G_need_stamps : FnOk P w K mg base CX0 8 f_need_stamps d_need_stamps ["deeds", "stamps"] spNeedS)
    {f_wrong_reads : Addr} {d_wrong_reads : FuncData} (g_wrong_reads : mg "wrong_reads" = some (.ref f_wrong_reads)) (F_wrong_reads : FnP K "wrong_reads" s_wrong_reads f_wrong_reads d_wrong_reads) (G_wrong_reads : FnOk P w K mg base CX0 1 f_wrong_reads d_wrong_reads ["deeds", "stamps"] spWrong) :
    FnOk P w K mg base CX0 9 f fd ["deeds", "stamps"] spAreR := by
  have b_need_stamps : Binds K d_need_stamps ["deeds", "stamps"] [] := F_need_stamps.bindsN fun _ _ _ _ _ _ us hl => match us, hl with | [_, _], _ => rfl
  have b_wrong_reads : Binds K d_wrong_reads ["deeds", "stamps"] [] := F_wrong_reads.bindsN fun _ _ _ _ _ _ us hl => match us, hl with | [_, _], _ => rfl
  refine F.ok sc_are_right (fun vs H Q E h => ?_) (fun cdv A outer s H vs Q E hr h => ?_)
  · obtain ⟨a, b, ds, ks, m, rfl, _⟩ := h
    rfl
  · obtain ⟨a, b, ds, ks, m, rfl, hL, hG, hb, pk, mk, k⟩ := h
    have hu0 : _ < cLine := Nat.lt_of_le_of_lt (Nat.le_add_right _ _) (Nat.lt_of_le_of_lt (Nat.add_le_add_right (Nat.le_add_right _ _) _) hr.un)
    have nd := sc_are_right.nd
    refine ⟨_, PSs.nox (pss_cons (ps_expr (pe_call G_need_stamps (hr.mono (by decide)) rfl g_need_stamps F_need_stamps.kp b_need_stamps .nil pass0 (pa_cons (pv 0) (pa_cons (pv 1) (pa_nil)))))
      (pss_one (ps_ret (pe_cmpR (op_eqE hu0) (pe_call G_wrong_reads (hr.mono (by decide)) rfl g_wrong_reads F_wrong_reads.kp b_wrong_reads .nil pass0 (pa_cons (pv 0) (pa_cons (pv 1) (pa_nil)))) (pe_lst (pa_nil)) (nomark _))))), ?_⟩
    refine ⟨_, rfl, _, rfl, a, b, ds, ks, m, rfl, hL, hG, hb, pk, mk, fun G s1 => ?_⟩
    refine ⟨_, rfl, _, rfl, a, b, ds, ks, m, rfl, hL.same s1, hG, s1 _ _ hb, pk, fun q G2 ys s2 nq hq py => ⟨Nat.zero_le _, fun E hE => ?_⟩⟩
    have s3 := Same.updf (o := .lst []) hE
    refine ⟨q, E, ys, rfl, rfl, SqL.of (s3 _ _ hq), SqL.of upd_same, ?_⟩
    have e : (ys.isEmpty != false) = (wr ds m).isEmpty := by
      have l := py.1
      cases ys with
      | nil =>
        rw [List.length_eq_zero_iff.mp l.symm]
        rfl
      | cons y ys =>
        cases hw : wr ds m with
        | nil =>
          rw [hw] at l
          cases l
        | cons w ws => rfl
    rw [e]
    exact k _ ((s1.trans s2).trans s3)
abbrev s_stamps_up_to : Stmt := top 23
abbrev N_stamps_up_to : List Str := ["deeds", "number", "stamps", "deed", "page"]
theorem sc_stamps_up_to : FnScope N_stamps_up_to ["deeds", "number"] (defScope s_stamps_up_to) := ⟨rfl, rfl, rfl, by decide +kernel, rfl, by decide +kernel, by decide +kernel⟩
theorem ok_stamps_up_to {f : Addr} {fd : FuncData} (F : FnP K "stamps_up_to" s_stamps_up_to f fd) (Z : FreeS mg)
    {f_pages_of : Addr} {d_pages_of : FuncData} (g_pages_of : mg "pages_of" = some (.ref f_pages_of)) (F_pages_of : FnP K "pages_of" s_pages_of f_pages_of d_pages_of) (G_pages_of : FnOk P w K mg base CX0 1 f_pages_of d_pages_of ["deeds"] spPages) :
    FnOk P w K mg base CX0 2 f fd ["deeds", "number"] spUpTo := by
  have b_pages_of : Binds K d_pages_of ["deeds"] [] := F_pages_of.bindsN fun _ _ _ _ _ _ us hl => match us, hl with | [_], _ => rfl
  refine F.ok sc_stamps_up_to (fun vs H Q E h => ?_) (fun cdv A outer s H vs Q E hr h => ?_)
  · obtain ⟨a, n, ds, rfl, _⟩ := h
    rfl
  · obtain ⟨a, n, ds, rfl, hL, hG, k⟩ := h
    obtain ⟨xs, ha, lx, hx⟩ := id hL
    have l60 := hG.len
    have pl := hG.pl
    have sl : (2000 : Nat) ≤ sizeLine := by decide
    have hu : (A.deeper (envOfC "stamps_up_to" (defScope s_stamps_up_to) s.heap.objs.size f cdv)).units + 1 < cLine := by
      have := hr.units
      omega
    have nd := sc_stamps_up_to.nd
    refine ⟨_, PSs.nox (pss_cons (ps_setDc (i := 2) (own := [("page", 4)]) (g := gName 4) (tt := tYes) (tk := tVar 4) (tv := tC (.int 0)) rfl nd rfl rfl rfl (pi_list (pe_call G_pages_of (hr.mono (by decide)) rfl g_pages_of F_pages_of.kp b_pages_of .nil pass0 (pa_cons (pv 0) (pa_nil)))) (blkOk_by (own := [("page", 4)]) (N := N_stamps_up_to) (sc := defScope s_stamps_up_to) (by decide +kernel)) (fun _ _ _ _ _ => pg_name (i := 4) nd rfl (Or.inl rfl)) (fun _ _ _ _ _ => pts_nil) (fun _ _ _ _ _ => pv 4) (fun _ _ _ _ _ => pe_int))
      (pss_cons (ps_for PassesOwn.never rfl (pi_list (pv 0)) (pg_name (i := 3) nd rfl (Or.inl rfl))
        (pss_one (ps_if (pt_cmpR op_le (pe_ix ix_tup (pv 3) (pe_int) (fun _ _ => rfl)) (pv 1) (nomark _)) (pss_one (ps_dput hu (pv 2) (pe_ix ix_tup (pv 3) (pe_int) (fun _ _ => rfl)) (pe_ix ix_tup (pv 3) (pe_int) (fun _ _ => rfl)) rfl)) (pss_nil))))
      (pss_one (ps_ret (pv 2))))), ?_⟩
    refine ⟨_, rfl, a, ds, rfl, hL, hG, fun pq G1 s1 npq hpq => ?_⟩
    refine ⟨pq, rfl, ⟨_, SqL.of hpq⟩, fun D hD => ?_⟩
    have ln : (numsV (pgs ds)).length = (pgs ds).length := List.length_map _
    refine dc_walk (walk_list (K := K) (a := pq) (xs := numsV (pgs ds))) (fun i G => Same G1 G ∧ G D = some (.dK (mV ((pgs ds).take i) fun _ => 0))) ⟨Same.updf hD, upd_same⟩ (fun i G _ hh => SqL.of (hh.1 _ _ hpq)) ?_ ?_
    · rintro i x G2 G3 hi ⟨sG, gd⟩ ⟨rfl, hv⟩
      have li : i < (pgs ds).length := by omega
      unfold numsV at hv
      rw [List.getElem?_map, List.getElem?_eq_getElem li] at hv
      obtain rfl := Option.some.inj hv
      refine ⟨rfl, _, rfl, _, ky (pgs ds)[i], rfl, gd, by rw [dV_len, List.length_take]; omega, fun c o e => ?_, ?_⟩
      · rw [upd_ne (ne_of_none e hD)]
        exact sG _ _ e
      · rw [upd_same, dV_new (tk_notin li), tk_snoc li]
        refine congrArg (fun z => some (HO.dK z)) (dV_congr fun p _ => ?_)
        unfold put
        split
        · rfl
        · rfl
    · rintro G2 ⟨sG, gd⟩
      rw [ln, List.take_length] at gd
      have sH : Same H G2 := s1.trans sG
      have nHq : H D = none := none_back s1 hD
      refine ⟨_, rfl, a, rfl, ⟨_, SqL.of (sH _ _ ha)⟩, ?_⟩
      refine for_it (walk_list (K := K) (a := a) (xs := xs)) (fun i σ G3 => Same H G3 ∧ ∃ v3, MkAt G3 D (pgs ds) (mkAt (ds.take i) n) ∧ σ = [some (.ref a), some (.int n), some (.ref D), v3, none]) ⟨sH, _, gd, rfl⟩ (fun i σ G3 _ hh => SqL.of (hh.1 _ _ ha)) ?_ ?_
      · rintro i x σ G3 G4 hi ⟨sG, v3, hm, rfl⟩ ⟨rfl, hv⟩
        have li : i < ds.length := by omega
        have hd : ds[i]? = some ds[i] := List.getElem?_eq_getElem li
        have md : ds[i] ∈ ds := List.getElem_mem li
        have etk : ds.take (i + 1) = ds.take i ++ [ds[i]] := by
          rw [List.take_succ, hd]
          rfl
        obtain ⟨t, rd, tw, rfl, ht, hr1, _⟩ := (hx i x _ hv hd).same sG
        refine ⟨_, rfl, t, _, 0, _, rfl, rfl, SqT.of ht, rfl, _, rfl, _, _, rfl, rfl, _, rfl, ?_⟩
        by_cases c : (ds[i].n : Int) ≤ n
        · rw [decide_eq_true c]
          refine iteT ⟨_, rfl, t, _, 0, _, rfl, rfl, SqT.of ht, rfl, _, rfl, _, rfl, t, _, 1, _, rfl, rfl, SqT.of ht, rfl, D, _, rfl, DPut.k (k := ky ds[i].p) hm (by rw [dV_len]; omega), ?_⟩
          rw [mV_put (own_pg hG md)]
          refine ⟨fun b o e => ?_, _, ?_, rfl⟩
          · rw [upd_ne (ne_of_none e nHq)]
            exact sG _ _ e
          · show _ = _
            rw [upd_same]
            refine congrArg (fun z => some (HO.dK z)) (dV_congr fun p hp => ?_)
            rw [etk, mkAt_snoc]
            unfold putN
            by_cases e : p = ds[i].p
            · rw [if_pos e, if_pos ⟨e.symm, c⟩]
            · rw [if_neg e, if_neg fun h => e h.1.symm]
        · rw [decide_eq_false c]
          refine iteF ⟨sG, _, ?_, rfl⟩
          rw [etk]
          unfold MkAt at hm ⊢
          rw [hm]
          refine congrArg (fun z => some (HO.dK z)) (dV_congr fun p hp => ?_)
          rw [mkAt_snoc, if_neg fun h => c h.2]
      · rintro σ G3 ⟨sG, v3, hm, rfl⟩
        rw [lx, List.take_length] at hm
        exact ⟨_, rfl, k D G3 sG nHq hm⟩
abbrev s_stamps_behind : Stmt := top 24
abbrev N_stamps_behind : List Str := ["deeds", "number"]
theorem sc_stamps_behind : FnScope N_stamps_behind ["deeds", "number"] (defScope s_stamps_behind) := ⟨rfl, rfl, rfl, by decide +kernel, rfl, by decide +kernel, by decide +kernel⟩
theorem ok_stamps_behind {f : Addr} {fd : FuncData} (F : FnP K "stamps_behind" s_stamps_behind f fd) (Z : FreeS mg)
    {f_need_deeds : Addr} {d_need_deeds : FuncData} (g_need_deeds : mg "need_deeds" = some (.ref f_need_deeds)) (F_need_deeds : FnP K "need_deeds" s_need_deeds f_need_deeds d_need_deeds) (G_need_deeds : FnOk P w K mg base CX0 6 f_need_deeds d_need_deeds ["deeds"] spNeedD)
    {f_need_count : Addr} {d_need_count : FuncData} (g_need_count : mg "need_count" = some (.ref f_need_count)) (F_need_count : FnP K "need_count" s_need_count f_need_count d_need_count) (G_need_count : FnOk P w K mg base CX0 3 f_need_count d_need_count ["number"] spNeedC)
    {f_stamps_up_to : Addr} {d_stamps_up_to : FuncData} (g_stamps_up_to : mg "stamps_up_to" = some (.ref f_stamps_up_to)) (F_stamps_up_to : FnP K "stamps_up_to" s_stamps_up_to f_stamps_up_to d_stamps_up_to) (G_stamps_up_to : FnOk P w K mg base CX0 2 f_stamps_up_to d_stamps_up_to ["deeds", "number"] spUpTo) :
    FnOk P w K mg base CX0 7 f fd ["deeds", "number"] spBehindS := by
  have b_need_deeds : Binds K d_need_deeds ["deeds"] [] := F_need_deeds.bindsN fun _ _ _ _ _ _ us hl => match us, hl with | [_], _ => rfl
  have b_need_count : Binds K d_need_count ["number"] [] := F_need_count.bindsN fun _ _ _ _ _ _ us hl => match us, hl with | [_], _ => rfl
  have b_stamps_up_to : Binds K d_stamps_up_to ["deeds", "number"] [] := F_stamps_up_to.bindsN fun _ _ _ _ _ _ us hl => match us, hl with | [_, _], _ => rfl
  refine F.ok sc_stamps_behind (fun vs H Q E h => ?_) (fun cdv A outer s H vs Q E hr h => ?_)
  · obtain ⟨a, n, ds, rfl, _⟩ := h
    rfl
  · obtain ⟨a, n, ds, rfl, hL, hG, k⟩ := h
    have nd := sc_stamps_behind.nd
    refine ⟨_, PSs.nox (pss_cons (ps_expr (pe_call G_need_deeds (hr.mono (by decide)) rfl g_need_deeds F_need_deeds.kp b_need_deeds .nil pass0 (pa_cons (pv 0) (pa_nil))))
      (pss_cons (ps_expr (pe_call G_need_count (hr.mono (by decide)) rfl g_need_count F_need_count.kp b_need_count .nil pass0 (pa_cons (pv 1) (pa_nil))))
      (pss_one (ps_ret (pe_call G_stamps_up_to (hr.mono (by decide)) rfl g_stamps_up_to F_stamps_up_to.kp b_stamps_up_to .nil pass0 (pa_cons (pv 0) (pa_cons (pv 1) (pa_nil)))))))), ?_⟩
    refine ⟨_, rfl, a, ds, rfl, hL, hG, fun G1 s1 => ?_⟩
    refine ⟨_, rfl, n, rfl, ?_⟩
    exact ⟨_, rfl, _, rfl, a, (n : Int), ds, rfl, hL.same s1, hG, fun q G2 s2 nq hm => k q G2 (s1.trans s2) (none_back s1 nq) hm⟩
abbrev s_stamps_read : Stmt := top 25
abbrev N_stamps_read : List Str := ["deeds", "number", "deed", "stamps", "page"]
theorem sc_stamps_read : FnScope N_stamps_read ["deeds", "number"] (defScope s_stamps_read) := ⟨rfl, rfl, rfl, by decide +kernel, rfl, by decide +kernel, by decide +kernel⟩
theorem ok_stamps_read {f : Addr} {fd : FuncData} (F : FnP K "stamps_read" s_stamps_read f fd) (Z : FreeS mg)
    {f_need_deeds : Addr} {d_need_deeds : FuncData} (g_need_deeds : mg "need_deeds" = some (.ref f_need_deeds)) (F_need_deeds : FnP K "need_deeds" s_need_deeds f_need_deeds d_need_deeds) (G_need_deeds : FnOk P w K mg base CX0 6 f_need_deeds d_need_deeds ["deeds"] spNeedD)
    {f_need_count : Addr} {d_need_count : FuncData} (g_need_count : mg "need_count" = some (.ref f_need_count)) (F_need_count : FnP K "need_count" s_need_count f_need_count d_need_count) (G_need_count : FnOk P w K mg base CX0 3 f_need_count d_need_count ["number"] spNeedC)
    {f_stamps_up_to : Addr} {d_stamps_up_to : FuncData} (g_stamps_up_to : mg "stamps_up_to" = some (.ref f_stamps_up_to)) (F_stamps_up_to : FnP K "stamps_up_to" s_stamps_up_to f_stamps_up_to d_stamps_up_to) (G_stamps_up_to : FnOk P w K mg base CX0 2 f_stamps_up_to d_stamps_up_to ["deeds", "number"] spUpTo) :
    FnOk P w K mg base CX0 7 f fd ["deeds", "number"] spReadS := by
  have b_need_deeds : Binds K d_need_deeds ["deeds"] [] := F_need_deeds.bindsN fun _ _ _ _ _ _ us hl => match us, hl with | [_], _ => rfl
  have b_need_count : Binds K d_need_count ["number"] [] := F_need_count.bindsN fun _ _ _ _ _ _ us hl => match us, hl with | [_], _ => rfl
  have b_stamps_up_to : Binds K d_stamps_up_to ["deeds", "number"] [] := F_stamps_up_to.bindsN fun _ _ _ _ _ _ us hl => match us, hl with | [_, _], _ => rfl
  refine F.ok sc_stamps_read (fun vs H Q E h => ?_) (fun cdv A outer s H vs Q E hr h => ?_)
  · obtain ⟨a, d, ds, rfl, _⟩ := h
    rfl
  · obtain ⟨a, d, ds, rfl, hL, hG, hd, k⟩ := h
    obtain ⟨xs, ha, lx, hx⟩ := id hL
    have l60 := hG.len
    have pl := hG.pl
    have sl : (2000 : Nat) ≤ sizeLine := by decide
    have hu : (A.deeper (envOfC "stamps_read" (defScope s_stamps_read) s.heap.objs.size f cdv)).units + 1 < cLine := by
      have := hr.units
      omega
    have nd := sc_stamps_read.nd
    refine ⟨_, PSs.nox (pss_cons (ps_expr (pe_call G_need_deeds (hr.mono (by decide)) rfl g_need_deeds F_need_deeds.kp b_need_deeds .nil pass0 (pa_cons (pv 0) (pa_nil))))
      (pss_cons (ps_expr (pe_call G_need_count (hr.mono (by decide)) rfl g_need_count F_need_count.kp b_need_count .nil pass0 (pa_cons (pv 1) (pa_nil))))
      (pss_cons (ps_for PassesOwn.never rfl (pi_list (pv 0)) (pg_name (i := 2) nd rfl (Or.inl rfl))
        (pss_one (ps_if (pt_cmpR op_eq (pe_ix ix_tup (pv 2) (pe_int) (fun _ _ => rfl)) (pv 1) (nomark _)) (pss_cons (ps_set (i := 3) nd rfl (Or.inr rfl) (pe_call G_stamps_up_to (hr.mono (by decide)) rfl g_stamps_up_to F_stamps_up_to.kp b_stamps_up_to .nil pass0 (pa_cons (pv 0) (pa_cons (pe_op op_sub (pv 1) (pe_int)) (pa_nil)))))
      (pss_one (ps_ret (pe_dc (own := [("page", 4)]) (g := gName 4) (tt := tYes) (tk := tVar 4) (tv := tDGet (tVar 3) (tVar 4)) rfl nd (pi_list (pe_ix ix_tup (pv 2) (pe_int) (fun _ _ => rfl))) (blkOk_by (own := [("page", 4)]) (N := N_stamps_read) (sc := defScope s_stamps_read) (by decide +kernel)) (fun _ _ _ _ _ => pg_name (i := 4) nd rfl (Or.inl rfl)) (fun _ _ _ _ _ => pts_nil) (fun _ _ _ _ _ => pv 4) (fun _ _ _ _ _ => pe_dget hu (pv 3) (pv 4) (fun _ _ => rfl)))))) (pss_nil))))
      (pss_one (ps_dead))))), ?_⟩
    refine ⟨_, rfl, a, ds, rfl, hL, hG, fun G1 s1 => ?_⟩
    refine ⟨_, rfl, d.n, rfl, ?_⟩
    refine ⟨_, rfl, a, rfl, ⟨_, SqL.of (s1 _ _ ha)⟩, ?_⟩
    refine for_it (walk_list (K := K) (a := a) (xs := xs)) (fun i σ G3 => Same H G3 ∧ (∀ e ∈ ds.take i, e.n ≠ d.n) ∧ ∃ v2 v3, σ = [some (.ref a), some (.int (d.n : Int)), v2, v3, none]) ⟨s1, (fun e m => by simp at m), _, _, rfl⟩ (fun i σ G3 _ hh => SqL.of (hh.1 _ _ ha)) ?_ ?_
    · rintro i x σ G3 G4 hi ⟨sG, ne, v2, v3, rfl⟩ ⟨rfl, hv⟩
      have li : i < ds.length := by omega
      have hdi : ds[i]? = some ds[i] := List.getElem?_eq_getElem li
      have md : ds[i] ∈ ds := List.getElem_mem li
      obtain ⟨t, rd, tw, rfl, ht, hr1, _⟩ := (hx i x _ hv hdi).same sG
      refine ⟨_, rfl, t, _, 0, _, rfl, rfl, SqT.of ht, rfl, _, rfl, rfl, _, rfl, ?_⟩
      by_cases c : ds[i].n = d.n
      · have ed : ds[i] = d := n_inj hG.asc md hd c
        rw [decide_eq_true (show V.int (ds[i].n : Int) = V.int (d.n : Int) by rw [c])]
        refine iteT ?_
        refine ⟨_, rfl, _, rfl, _, _, rfl, rfl, a, _, ds, rfl, hL.same sG, hG, fun q G5 s5 nq hm => ?_⟩
        rw [ed] at ht hr1
        have hl := s5 _ _ hr1
        refine ⟨_, rfl, t, _, 2, _, rfl, rfl, SqT.of (s5 _ _ ht), rfl, rd, rfl, ⟨_, SqL.of hl⟩, fun D hD => ?_⟩
        have lr : (numsV d.r).length = d.r.length := List.length_map _
        have l20 := (hG.ok d hd).len
        have ndr : d.r.Nodup := (hG.ok d hd).asc.imp fun h => Nat.ne_of_lt h
        refine dc_walk (walk_list (K := K) (a := rd) (xs := numsV d.r)) (fun i G => Same G5 G ∧ G D = some (.dK (mV (d.r.take i) (mkAt ds ((d.n : Int) - 1))))) ⟨Same.updf hD, upd_same⟩ (fun i G _ hh => SqL.of (hh.1 _ _ hl)) ?_ ?_
        · rintro j x G2 G3 hj ⟨sG2, gd⟩ ⟨rfl, hv2⟩
          have lj : j < d.r.length := by omega
          unfold numsV at hv2
          rw [List.getElem?_map, List.getElem?_eq_getElem lj] at hv2
          obtain rfl := Option.some.inj hv2
          have mp : d.r[j] ∈ pgs ds := pgs_mem.mpr ⟨d, hd, List.getElem_mem lj⟩
          refine ⟨rfl, _, rfl, _, rfl, _, rfl, q, .int (mkAt ds ((d.n : Int) - 1) d.r[j] : Int), rfl, ?_, _, ky d.r[j], rfl, gd, by rw [dV_len, List.length_take]; omega, fun c o e => ?_, ?_⟩
          · have := DGet.k (k := ky d.r[j]) (sG2 _ _ hm)
            rw [mV_val mp] at this
            exact this
          · rw [upd_ne (ne_of_none e hD)]
            exact sG2 _ _ e
          · rw [upd_same, dV_new (tk_notinN ndr lj), tk_snocN lj]
            refine congrArg (fun z => some (HO.dK z)) (dV_congr fun p _ => ?_)
            unfold put
            split
            · next e => rw [e]
            · rfl
        · rintro G2 ⟨sG2, gd⟩
          rw [lr, List.take_length] at gd
          exact k D G2 ((sG.trans s5).trans sG2) (none_back (sG.trans s5) hD) gd
      · rw [decide_eq_false (show ¬ V.int (ds[i].n : Int) = V.int (d.n : Int) from fun z => c (by have := V.int.inj z; omega))]
        refine iteF ⟨sG, fun e m => ?_, _, _, rfl⟩
        rw [List.take_succ, hdi] at m
        rcases List.mem_append.mp m with m | m
        · exact ne e m
        · rw [List.mem_singleton.mp m]
          exact c
    · rintro σ G3 ⟨sG, ne, v2, v3, rfl⟩
      rw [lx, List.take_length] at ne
      exact (ne d hd rfl).elim
end
end K21
set_option Elab.async false
set_option linter.all false
set_option maxRecDepth 100000
set_option maxHeartbeats 8000000
namespace K21
open PySem PySem.Spec PyProof.Rows L2 KB LiI
/-- the numbers of the deeds that stamps lack -/
def lackN (ds : List Dd) (m : Nat → Nat) : List Nat := (ds.filter fun d => decide (m d.p < d.n)).map (·.n)
theorem sel_dn (c : Dd → Bool) (ds : List Dd) : ((List.range ds.length).filterMap fun i => (ds[i]?).bind fun d => if c d = true then some (V.int (d.n : Int)) else none) = numsV ((ds.filter c).map (·.n)) := by
  induction ds with
  | nil => rfl
  | cons x r ih =>
    rw [List.length_cons, List.range_succ_eq_map, List.filterMap_cons, List.filterMap_map, List.filter_cons]
    have e : ((fun i => ((x :: r)[i]?).bind fun d => if c d = true then some (V.int (d.n : Int)) else none) ∘ Nat.succ) = fun i => (r[i]?).bind fun d => if c d = true then some (V.int (d.n : Int)) else none := rfl
    rw [e, ih]
    by_cases h : c x = true
    · simp [h, numsV]
    · simp [h, numsV]
def spLacking : Sp := fun vs H Q _ => ∃ (a b : Addr) (ds : List Dd) (ks : List Nat) (m : Nat → Nat), vs = [.ref a, .ref b] ∧ LogAt H a ds ∧ Lg ds ∧ MkAt H b ks m ∧ ks.Perm (pgs ds) ∧
  ∀ q H', Same H H' → H q = none → H' q = some (.lst (numsV (lackN ds m))) → Q (.ref q) H'
def spRedone : Sp := fun vs H Q _ => ∃ (a b : Addr) (ds : List Dd) (ks : List Nat) (m : Nat → Nat), vs = [.ref a, .ref b] ∧ LogAt H a ds ∧ Lg ds ∧ MkAt H b ks m ∧ ks.Perm (pgs ds) ∧ Mk ds m ∧
  (wr ds m = [] → ∀ q H', Same H H' → H q = none → H' q = some (.lst (numsV (lackN ds m))) → Q (.ref q) H') ∧ (wr ds m ≠ [] → ∀ H', Same H H' → Q .non H')
def spWhyWr : Sp := fun vs H Q _ => ∃ (a b : Addr) (ds : List Dd) (ks : List Nat) (m : Nat → Nat), vs = [.ref a, .ref b] ∧ LogAt H a ds ∧ Lg ds ∧ MkAt H b ks m ∧ ks.Perm (pgs ds) ∧ Mk ds m ∧
  (wr ds m = [] → ∀ H', Same H H' → Q .non H') ∧ (∀ d p ws, wr ds m = (d, p) :: ws → ∀ q H', Same H H' → H q = none → H' q = some (.tup [.int (d.n : Int), .int (p : Int)]) → Q (.ref q) H')
section
variable {P : Program} {w : World} {K : PySem.W.Frag} {mg : Str → Option Value} {base : Heap}
abbrev s_lacking : Stmt := top 31
abbrev N_lacking : List Str := ["deeds", "stamps", "deed"]
theorem sc_lacking : FnScope N_lacking ["deeds", "stamps"] (defScope s_lacking) := ⟨rfl, rfl, rfl, by decide +kernel, rfl, by decide +kernel, by decide +kernel⟩
theorem ok_lacking {f : Addr} {fd : FuncData} (F : FnP K "lacking" s_lacking f fd) (Z : FreeS mg) :
    FnOk P w K mg base CX0 1 f fd ["deeds", "stamps"] spLacking := by
  refine F.ok sc_lacking (fun vs H Q E h => ?_) (fun cdv A outer s H vs Q E hr h => ?_)
  · obtain ⟨a, b, ds, ks, m, rfl, _⟩ := h
    rfl
  · obtain ⟨a, b, ds, ks, m, rfl, hL, hG, hb, pk, k⟩ := h
    obtain ⟨xs, ha, lx, hx⟩ := id hL
    have l60 := hG.len
    have sl : (2000 : Nat) ≤ sizeLine := by decide
    have hu : (A.deeper (envOfC "lacking" (defScope s_lacking) s.heap.objs.size f cdv)).units + 1 < cLine := by
      have := hr.units
      omega
    have nd := sc_lacking.nd
    refine ⟨_, PSs.nox (pss_one (ps_ret (pe_lc (own := [("deed", 2)]) (g := gName 2) (tt := tTest (tOp (rI0 fun i j => .bl (decide (i < j))) (tDGet (tVar 1) (tOp (rIxT K) (tVar 2) (tC (.int 1)))) (tOp (rIxT K) (tVar 2) (tC (.int 0))))) (te := tOp (rIxT K) (tVar 2) (tC (.int 0))) (by rfl) nd (pi_list (pv 0))
          (blkOk_by (own := [("deed", 2)]) (N := N_lacking) (sc := defScope s_lacking) (by decide +kernel)) (fun _ _ _ _ _ => pg_name (i := 2) nd rfl (Or.inl rfl)) (fun _ _ _ _ _ => pts_one (pt_cmpR op_lt (pe_dget hu (pv 1) (pe_ix ix_tup (pv 2) (pe_int) (fun _ _ => rfl)) (fun _ _ => rfl)) (pe_ix ix_tup (pv 2) (pe_int) (fun _ _ => rfl)) (nomark _)))
          (fun _ _ _ _ _ => pe_ix ix_tup (pv 2) (pe_int) (fun _ _ => rfl))))), ?_⟩
    refine ⟨_, rfl, a, rfl, ⟨_, SqL.of ha⟩, fun D hD => ?_⟩
    refine lc_sel (n := xs.length) (walk_list (K := K) (a := a) (xs := xs)) (fun i => (ds[i]?).bind fun d => if decide (m d.p < d.n) = true then some (V.int (d.n : Int)) else none) (by omega) hD (fun G s8 => SqL.of (s8 _ _ ha)) ?_ ?_
    · rintro i x G8 G9 Qy Qn hi s8 ⟨rfl, hv⟩ ky_ kn
      have li : i < ds.length := by omega
      have hdi : ds[i]? = some ds[i] := List.getElem?_eq_getElem li
      have md : ds[i] ∈ ds := List.getElem_mem li
      obtain ⟨t, rd, tw, rfl, ht, hr1, _⟩ := (hx i x _ hv hdi).same s8
      rw [hdi, Option.bind_some] at ky_ kn
      have dg : DGet G9 b (.int (ds[i].p : Int)) (some (.int (m ds[i].p : Int))) := by
        have := DGet.k (k := ky ds[i].p) (s8 _ _ hb)
        rw [mV_val (pk.mem_iff.mpr (own_pg hG md))] at this
        exact this
      refine ⟨rfl, _, rfl, _, rfl, t, _, 1, _, rfl, rfl, SqT.of ht, rfl, b, .int (m ds[i].p : Int), rfl, dg, _, rfl, t, _, 0, _, rfl, rfl, SqT.of ht, rfl, _, _, rfl, rfl, _, rfl, ?_⟩
      by_cases c : m ds[i].p < ds[i].n
      · rw [decide_eq_true (show (m ds[i].p : Int) < (ds[i].n : Int) by omega)]
        rw [decide_eq_true c] at ky_
        exact iteT ⟨_, rfl, t, _, 0, _, rfl, rfl, SqT.of ht, rfl, ky_ _ _ (Same.refl _) rfl⟩
      · rw [decide_eq_false (show ¬ (m ds[i].p : Int) < (ds[i].n : Int) by omega)]
        rw [decide_eq_false c] at kn
        exact iteF (kn _ (Same.refl _) rfl)
    · intro G8 s8 hR
      rw [lx, sel_dn] at hR
      exact k D G8 s8 hD hR
abbrev s_redone : Stmt := top 33
abbrev N_redone : List Str := ["deeds", "stamps"]
theorem sc_redone : FnScope N_redone ["deeds", "stamps"] (defScope s_redone) := ⟨rfl, rfl, rfl, by decide +kernel, rfl, by decide +kernel, by decide +kernel⟩
theorem ok_redone {f : Addr} {fd : FuncData} (F : FnP K "redone" s_redone f fd) (Z : FreeS mg)
    {f_lacking : Addr} {d_lacking : FuncData} (g_lacking : mg "lacking" = some (.ref f_lacking)) (F_lacking : FnP K "lacking" s_lacking f_lacking d_lacking) (G_lacking : FnOk P w K mg base CX0 1 f_lacking d_lacking ["deeds", "stamps"] spLacking)
    {f_are_right : Addr} {d_are_right : FuncData} (g_are_right : mg "are_right" = some (.ref f_are_right)) (F_are_right : FnP K "are_right" s_are_right f_are_right d_are_right) (G_are_right : FnOk P w K mg base CX0 9 f_are_right d_are_right ["deeds", "stamps"] spAreR) :
    FnOk P w K mg base CX0 10 f fd ["deeds", "stamps"] spRedone := by
  have b_lacking : Binds K d_lacking ["deeds", "stamps"] [] := F_lacking.bindsN fun _ _ _ _ _ _ us hl => match us, hl with | [_, _], _ => rfl
  have b_are_right : Binds K d_are_right ["deeds", "stamps"] [] := F_are_right.bindsN fun _ _ _ _ _ _ us hl => match us, hl with | [_, _], _ => rfl
  refine F.ok sc_redone (fun vs H Q E h => ?_) (fun cdv A outer s H vs Q E hr h => ?_)
  · obtain ⟨a, b, ds, ks, m, rfl, _⟩ := h
    rfl
  · obtain ⟨a, b, ds, ks, m, rfl, hL, hG, hb, pk, mk, k1, k2⟩ := h
    have nd := sc_redone.nd
    refine ⟨_, PSs.nox (pss_cons (ps_if (pt_not (pt_val (pe_call G_are_right (hr.mono (by decide)) rfl g_are_right F_are_right.kp b_are_right .nil pass0 (pa_cons (pv 0) (pa_cons (pv 1) (pa_nil)))))) (pss_one (ps_ret (pe_non))) (pss_nil))
      (pss_one (ps_ret (pe_call G_lacking (hr.mono (by decide)) rfl g_lacking F_lacking.kp b_lacking .nil pass0 (pa_cons (pv 0) (pa_cons (pv 1) (pa_nil))))))), ?_⟩
    refine ⟨_, rfl, _, rfl, a, b, ds, ks, m, rfl, hL, hG, hb, pk, mk, fun G s1 => ⟨_, rfl, ?_⟩⟩
    cases hw : wr ds m with
    | nil =>
      refine iteF ?_
      exact ⟨_, rfl, _, rfl, a, b, ds, ks, m, rfl, hL.same s1, hG, s1 _ _ hb, pk, fun q G2 s2 nq hq => k1 hw q G2 (s1.trans s2) (none_back s1 nq) hq⟩
    | cons z zs =>
      exact iteT (k2 (by rw [hw]; exact List.cons_ne_nil _ _) _ s1)
abbrev s_why_wrong : Stmt := top 34
abbrev N_why_wrong : List Str := ["deeds", "stamps", "wrong"]
theorem sc_why_wrong : FnScope N_why_wrong ["deeds", "stamps"] (defScope s_why_wrong) := ⟨rfl, rfl, rfl, by decide +kernel, rfl, by decide +kernel, by decide +kernel⟩
theorem ok_why_wrong {f : Addr} {fd : FuncData} (F : FnP K "why_wrong" s_why_wrong f fd) (Z : FreeS mg)
    {f_need_stamps : Addr} {d_need_stamps : FuncData} (g_need_stamps : mg "need_stamps" = some (.ref f_need_stamps)) (F_need_stamps : FnP K "need_stamps" s_need_stamps f_need_stamps d_need_stamps) (G_need_stamps : FnOk P w K mg base CX0 8 f_need_stamps d_need_stamps ["deeds", "stamps"] spNeedS)
    {f_wrong_reads : Addr} {d_wrong_reads : FuncData} (g_wrong_reads : mg "wrong_reads" = some (.ref f_wrong_reads)) (F_wrong_reads : FnP K "wrong_reads" s_wrong_reads f_wrong_reads d_wrong_reads) (G_wrong_reads : FnOk P w K mg base CX0 1 f_wrong_reads d_wrong_reads ["deeds", "stamps"] spWrong) :
    FnOk P w K mg base CX0 9 f fd ["deeds", "stamps"] spWhyWr := by
  have b_need_stamps : Binds K d_need_stamps ["deeds", "stamps"] [] := F_need_stamps.bindsN fun _ _ _ _ _ _ us hl => match us, hl with | [_, _], _ => rfl
  have b_wrong_reads : Binds K d_wrong_reads ["deeds", "stamps"] [] := F_wrong_reads.bindsN fun _ _ _ _ _ _ us hl => match us, hl with | [_, _], _ => rfl
  refine F.ok sc_why_wrong (fun vs H Q E h => ?_) (fun cdv A outer s H vs Q E hr h => ?_)
  · obtain ⟨a, b, ds, ks, m, rfl, _⟩ := h
    rfl
  · obtain ⟨a, b, ds, ks, m, rfl, hL, hG, hb, pk, mk, k1, k2⟩ := h
    have sl : (2000 : Nat) ≤ sizeLine := by decide
    have nd := sc_why_wrong.nd
    refine ⟨_, PSs.nox (pss_cons (ps_expr (pe_call G_need_stamps (hr.mono (by decide)) rfl g_need_stamps F_need_stamps.kp b_need_stamps .nil pass0 (pa_cons (pv 0) (pa_cons (pv 1) (pa_nil)))))
      (pss_cons (ps_set (i := 2) nd rfl (Or.inl rfl) (pe_call G_wrong_reads (hr.mono (by decide)) rfl g_wrong_reads F_wrong_reads.kp b_wrong_reads .nil pass0 (pa_cons (pv 0) (pa_cons (pv 1) (pa_nil)))))
      (pss_cons (ps_if (pt_not (pt_truth (pv 2) (fun _ => rfl))) (pss_one (ps_ret (pe_non))) (pss_nil))
      (pss_one (ps_ret (pe_tup (pa_cons (pe_ix ix_tup (pe_ix ix_tup (pe_ix ix_list (pv 2) (pe_int) (fun _ _ => rfl)) (pe_int) (fun _ _ => rfl)) (pe_int) (fun _ _ => rfl)) (pa_cons (pe_ix ix_tup (pe_ix ix_list (pv 2) (pe_int) (fun _ _ => rfl)) (pe_int) (fun _ _ => rfl)) (pa_nil))))))))), ?_⟩
    refine ⟨_, rfl, _, rfl, a, b, ds, ks, m, rfl, hL, hG, hb, pk, mk, fun G s1 => ?_⟩
    refine ⟨_, rfl, _, rfl, a, b, ds, ks, m, rfl, hL.same s1, hG, s1 _ _ hb, pk, fun q G2 ys s2 nq hq py => ?_⟩
    have lp := py.1
    cases hw : wr ds m with
    | nil =>
      rw [hw] at lp
      have e0 : ys = [] := List.length_eq_zero_iff.mp lp
      rw [e0] at hq
      refine ⟨_, rfl, false, .inl ⟨[], SqL.of hq, rfl⟩, iteT (k1 hw _ (s1.trans s2))⟩
    | cons z zs =>
      obtain ⟨d, p⟩ := z
      rw [hw] at lp
      cases ys with
      | nil => cases lp
      | cons y yt =>
        obtain ⟨t, x, e, ht, hd⟩ := py.2 0 y (d, p) rfl (by rw [hw]; rfl)
        obtain ⟨T, rd, tw, e2, hT, _, _⟩ := hd
        subst e e2
        have a0 : atI (V.ref t :: yt) 0 = some (.ref t) := atI_nat (j := 0) rfl
        refine ⟨_, rfl, true, .inl ⟨_, SqL.of hq, rfl⟩, iteF ?_⟩
        refine ⟨_, rfl, q, _, 0, .ref t, rfl, rfl, SqL.of hq, a0, t, _, 0, _, rfl, rfl, SqT.of ht, rfl, T, _, 0, _, rfl, rfl, SqT.of hT, rfl, _, rfl, q, _, 0, .ref t, rfl, rfl, SqL.of hq, a0, t, _, 1, _, rfl, rfl, SqT.of ht, rfl, (by show 2 ≤ sizeLine; omega), fun T9 hT9 => ?_⟩
        exact k2 d p zs hw T9 _ ((s1.trans s2).trans (Same.updf hT9)) (none_back (s1.trans s2) hT9) upd_same
end
end K21
set_option Elab.async false
set_option linter.all false
set_option maxRecDepth 100000
set_option maxHeartbeats 8000000
namespace K21
open PySem PySem.Spec PyProof.Rows L2 KB LiI
/-- what stands for a page: a number, and whether it is plain (not odd) -/
def stepW (ds : List Dd) (ns : List Nat) (st : Nat → Nat × Bool) (d : Dd) : Nat → Nat × Bool :=
  if d.n ∈ ns then fun p => if p = d.p then (d.n, d.r.all fun r => decide (st r = (mkAt ds ((d.n : Int) - 1) r, true))) else st p else st
def walN (ds : List Dd) (m : Nat → Nat) (ns : List Nat) (es : List Dd) : Nat → Nat × Bool := es.foldl (stepW ds ns) fun p => (m p, true)
def WAt (G : Hp) (v : V) (w : Nat × Bool) : Prop := (w.2 = true ∧ v = .int (w.1 : Int)) ∨ (w.2 = false ∧ ∃ T, v = .ref T ∧ G T = some (.tup [.str (Str.ofString "odd"), .int (w.1 : Int)]))
theorem WAt.same {G G' : Hp} (k : Same G G') {v : V} {w : Nat × Bool} : WAt G v w → WAt G' v w := fun h => h.elim .inl fun ⟨e, T, e2, h⟩ => .inr ⟨e, T, e2, k _ _ h⟩
/-- the newest number of a page in a log -/
def fiN (es : List Dd) (p : Nat) : Nat := ((es.filter fun d => decide (d.p = p)).map (·.n)).getLastD 0
theorem fiN_snoc (es : List Dd) (d : Dd) (p : Nat) : fiN (es ++ [d]) p = if p = d.p then d.n else fiN es p := by
  unfold fiN
  rw [List.filter_append, List.map_append]
  by_cases e : d.p = p
  · rw [if_pos e.symm, List.filter_cons, if_pos (decide_eq_true e)]
    simp
  · rw [if_neg fun z => e z.symm, List.filter_cons, if_neg (by simpa using e)]
    simp
theorem fiN_at {ds : List Dd} (hG : Lg ds) {i : Nat} (li : i < ds.length) (p : Nat) : fiN (ds.take i) p = mkAt ds ((ds[i].n : Int) - 1) p := by
  unfold fiN mkAt
  have h := hG.asc
  have e : ∀ N : Nat, N = ds[i].n → (ds.filter fun d => decide (d.p = p ∧ (d.n : Int) ≤ (N : Int) - 1)) = (ds.take i).filter fun d => decide (d.p = p) := fun N eN => by
    conv => lhs; rw [← List.take_append_drop i ds]
    rw [List.filter_append]
    have e2 : ((ds.drop i).filter fun d => decide (d.p = p ∧ (d.n : Int) ≤ (N : Int) - 1)) = [] := List.filter_eq_nil_iff.mpr fun d hd z => by
      have z2 := (of_decide_eq_true z).2
      obtain ⟨j, lj, ej⟩ := List.getElem_of_mem hd
      rw [List.getElem_drop] at ej
      rw [List.length_drop] at lj
      by_cases j0 : j = 0
      · subst j0
        have e5 : ds[i] = d := ej
        rw [e5] at eN
        omega
      · have := List.pairwise_iff_getElem.mp h i (i + j) li (by omega) (by omega)
        rw [ej] at this
        omega
    rw [e2, List.append_nil]
    refine List.filter_congr fun d hd => ?_
    obtain ⟨j, lj, ej⟩ := List.getElem_of_mem hd
    rw [List.getElem_take] at ej
    rw [List.length_take] at lj
    have := List.pairwise_iff_getElem.mp h j i (by omega) li (by omega)
    rw [ej] at this
    rw [Bool.eq_iff_iff]
    simp
    omega
  rw [e _ rfl]
theorem shaped_odd (n : Int) : SeqAt.shaped (.tuple [.str (Str.ofString "odd"), .int n]) = true := by
  simp [SeqAt.shaped, PyData.canLay0, PyData.canLayAll0, PyData.depth, PyData.depthAll]
  decide +kernel
theorem walN_snoc (ds : List Dd) (m : Nat → Nat) (ns : List Nat) (es : List Dd) (d : Dd) : walN ds m ns (es ++ [d]) = stepW ds ns (walN ds m ns es) d := List.foldl_append ..
def spWalked : Sp := fun vs H Q _ => ∃ (a b c : Addr) (ds : List Dd) (ks : List Nat) (m : Nat → Nat) (ns : List Nat), vs = [.ref a, .ref b, .ref c] ∧ LogAt H a ds ∧ Lg ds ∧ MkAt H b ks m ∧ ks.Perm (pgs ds) ∧ Mk ds m ∧ H c = some (.lst (numsV ns)) ∧ ns.Pairwise (· < ·) ∧ ns.length ≤ 60 ∧ (∀ n ∈ ns, ∃ d ∈ ds, d.n = n) ∧
  ∀ q (g : Nat → V) H', Same H H' → H q = none → H' q = some (.dK (dV (pgs ds) g)) → (∀ p ∈ pgs ds, WAt H' (g p) (walN ds m ns ds p)) → Q (.ref q) H'
section
variable {P : Program} {w : World} {K : PySem.W.Frag} {mg : Str → Option Value} {base : Heap}
abbrev s_walked : Stmt := top 29
abbrev N_walked : List Str := ["deeds", "stamps", "numbers", "told", "number", "page", "stands", "first", "reads", "words", "alike", "deed", "read"]
theorem sc_walked : FnScope N_walked ["deeds", "stamps", "numbers"] (defScope s_walked) := ⟨rfl, rfl, rfl, by decide +kernel, rfl, by decide +kernel, by decide +kernel⟩
theorem ok_walked {f : Addr} {fd : FuncData} (F : FnP K "walked" s_walked f fd) (Z : FreeS mg)
    {f_need_stamps : Addr} {d_need_stamps : FuncData} (g_need_stamps : mg "need_stamps" = some (.ref f_need_stamps)) (F_need_stamps : FnP K "need_stamps" s_need_stamps f_need_stamps d_need_stamps) (G_need_stamps : FnOk P w K mg base CX0 8 f_need_stamps d_need_stamps ["deeds", "stamps"] spNeedS)
    {f_are_ascending_counts : Addr} {d_are_ascending_counts : FuncData} (g_are_ascending_counts : mg "are_ascending_counts" = some (.ref f_are_ascending_counts)) (F_are_ascending_counts : FnP K "are_ascending_counts" s_are_ascending_counts f_are_ascending_counts d_are_ascending_counts) (G_are_ascending_counts : FnOk P w K mg base CX0 3 f_are_ascending_counts d_are_ascending_counts ["value"] spAscC)
    {f_pages_of : Addr} {d_pages_of : FuncData} (g_pages_of : mg "pages_of" = some (.ref f_pages_of)) (F_pages_of : FnP K "pages_of" s_pages_of f_pages_of d_pages_of) (G_pages_of : FnOk P w K mg base CX0 1 f_pages_of d_pages_of ["deeds"] spPages) :
    FnOk P w K mg base CX0 9 f fd ["deeds", "stamps", "numbers"] spWalked := by
  have b_need_stamps : Binds K d_need_stamps ["deeds", "stamps"] [] := F_need_stamps.bindsN fun _ _ _ _ _ _ us hl => match us, hl with | [_, _], _ => rfl
  have b_are_ascending_counts : Binds K d_are_ascending_counts ["value"] [] := F_are_ascending_counts.bindsN fun _ _ _ _ _ _ us hl => match us, hl with | [_], _ => rfl
  have b_pages_of : Binds K d_pages_of ["deeds"] [] := F_pages_of.bindsN fun _ _ _ _ _ _ us hl => match us, hl with | [_], _ => rfl
  refine F.ok sc_walked (fun vs H Q E h => ?_) (fun cdv A outer s H vs Q E hr h => ?_)
  · obtain ⟨a, b, c, ds, ks, m, ns, rfl, _⟩ := h
    rfl
  · obtain ⟨a, b, c, ds, ks, m, ns, rfl, hL, hG, hb, pk, mk, hc, asc, ln, sub, k⟩ := h
    obtain ⟨xs, ha, lx, hx⟩ := id hL
    have l60 := hG.len
    have pl := hG.pl
    have sl : (2000 : Nat) ≤ sizeLine := by decide
    have hu65 : _ + 65 < cLine := Nat.lt_of_le_of_lt (Nat.add_le_add_left (by decide : 65 ≤ 200) _) (Nat.lt_of_le_of_lt (Nat.add_le_add_right (Nat.le_add_right _ _) _) hr.un)
    have hu := Nat.lt_of_le_of_lt (Nat.add_le_add_left (by decide : 1 ≤ 65) _) hu65
    have hu64 := Nat.lt_of_le_of_lt (Nat.add_le_add_left (by decide : 64 ≤ 65) _) hu65
    have hu0 := Nat.lt_of_succ_lt hu
    have nd := sc_walked.nd
    refine ⟨_, PSs.nox (pss_cons (ps_expr (pe_call G_need_stamps (hr.mono (by decide)) rfl g_need_stamps F_need_stamps.kp b_need_stamps .nil pass0 (pa_cons (pv 0) (pa_cons (pv 1) (pa_nil)))))
      (pss_cons (ps_set (i := 3) nd rfl (Or.inr rfl) (pe_lc (own := [("deed", 11)]) (g := gName 11) (tt := tYes) (te := tOp (rIxT K) (tVar 11) (tC (.int 0))) (by rfl) nd (pi_list (pv 0))
          (blkOk_by (own := [("deed", 11)]) (N := N_walked) (sc := defScope s_walked) (by decide +kernel)) (fun _ _ _ _ _ => pg_name (i := 11) nd rfl (Or.inl rfl)) (fun _ _ _ _ _ => pts_nil)
          (fun _ _ _ _ _ => pe_ix ix_tup (pv 11) (pe_int) (fun _ _ => rfl))))
      (pss_cons (ps_if (PW.pt (pw_or (pt_not (pt_val (pe_call G_are_ascending_counts (hr.mono (by decide)) rfl g_are_ascending_counts F_are_ascending_counts.kp b_are_ascending_counts .nil pass0 (pa_cons (pv 2) (pa_nil))))) (pw_or1 (pt_not (pt_val (pe_callB (cr_all rfl) (by rfl) Z.all (by decide +kernel) (pa_cons (pe_lc (own := [("number", 4)]) (g := gName 4) (tt := tYes) (te := tOp (rIn K false) (tVar 4) (tVar 3)) (by rfl) nd (pi_list (pv 2))
          (blkOk_by (own := [("number", 4)]) (N := N_walked) (sc := defScope s_walked) (by decide +kernel)) (fun _ _ _ _ _ => pg_name (i := 4) nd rfl (Or.inl rfl)) (fun _ _ _ _ _ => pts_nil)
          (fun _ _ _ _ _ => pe_cmpR op_in_seq (pv 4) (pv 3) (by rfl))) (pa_nil)))))))) (pss_one (ps_dead)) (pss_nil))
      (pss_cons (ps_set (i := 6) nd rfl (Or.inr rfl) (pe_dc (own := [("page", 5)]) (g := gName 5) (tt := tYes) (tk := tVar 5) (tv := tDGet (tVar 1) (tVar 5)) rfl nd (pi_list (pe_call G_pages_of (hr.mono (by decide)) rfl g_pages_of F_pages_of.kp b_pages_of .nil pass0 (pa_cons (pv 0) (pa_nil)))) (blkOk_by (own := [("page", 5)]) (N := N_walked) (sc := defScope s_walked) (by decide +kernel)) (fun _ _ _ _ _ => pg_name (i := 5) nd rfl (Or.inl rfl)) (fun _ _ _ _ _ => pts_nil) (fun _ _ _ _ _ => pv 5) (fun _ _ _ _ _ => pe_dget hu (pv 1) (pv 5) (fun _ _ => rfl))))
      (pss_cons (ps_set (i := 7) nd rfl (Or.inr rfl) (pe_lock (pe_dc (own := [("page", 5)]) (g := gName 5) (tt := tYes) (tk := tVar 5) (tv := tC (.int 0)) rfl nd (pi_keys (pv 6)) (blkOk_by (own := [("page", 5)]) (N := N_walked) (sc := defScope s_walked) (by decide +kernel)) (fun _ _ _ _ _ => pg_name (i := 5) nd rfl (Or.inl rfl)) (fun _ _ _ _ _ => pts_nil) (fun _ _ _ _ _ => pv 5) (fun _ _ _ _ _ => pe_int))))
      (pss_cons (ps_for PassesOwn.never rfl (pi_list (pv 0)) (pg_tup rfl (pgs_cons (pg_name (i := 4) nd rfl (Or.inl rfl)) (pgs_cons (pg_name (i := 5) nd rfl (Or.inl rfl)) (pgs_cons (pg_name (i := 8) nd rfl (Or.inl rfl)) (pgs_cons (pg_name (i := 9) nd rfl (Or.inl rfl)) (pgs_nil))))))
        (pss_cons (ps_if (pt_cmpR op_in_seq (pv 4) (pv 2) (by rfl)) (pss_cons (ps_set (i := 10) nd rfl (Or.inl rfl) (pe_callB (cr_all rfl) (by rfl) Z.all (by decide +kernel) (pa_cons (pe_lc (own := [("read", 12)]) (g := gName 12) (tt := tYes) (te := tOp (rEqD K) (tDGet (tVar 6) (tVar 12)) (tDGet (tVar 7) (tVar 12))) (by rfl) nd (pi_list (pv 8))
          (blkOk_by (own := [("read", 12)]) (N := N_walked) (sc := defScope s_walked) (by decide +kernel)) (fun _ _ _ _ _ => pg_name (i := 12) nd rfl (Or.inl rfl)) (fun _ _ _ _ _ => pts_nil)
          (fun _ _ _ _ _ => pe_cmpR (op_eqD hu64) (pe_dget hu (pv 6) (pv 12) (fun _ _ => rfl)) (pe_dget hu (pv 7) (pv 12) (fun _ _ => rfl)) (nomark _))) (pa_nil))))
      (pss_one (ps_dput hu (pv 6) (pv 5) (pe_ifExp (pt_truth (pv 10) (fun _ => rfl)) (pv 4) (pe_tup (pa_cons (pe_str) (pa_cons (pv 4) (pa_nil))))) rfl))) (pss_nil))
      (pss_one (ps_dput hu (pv 7) (pv 5) (pv 4) rfl))))
      (pss_one (ps_ret (pv 6))))))))), ?_⟩
    refine ⟨_, rfl, _, rfl, a, b, ds, ks, m, rfl, hL, hG, hb, pk, mk, fun G1 s1 => ?_⟩
    refine ⟨_, rfl, a, rfl, ⟨_, SqL.of (s1 _ _ ha)⟩, fun D hD => ?_⟩
    refine lc_sel (n := xs.length) (walk_list (K := K) (a := a) (xs := xs)) (fun i => (ds[i]?).bind fun d => if (fun _ : Dd => true) d = true then some (V.int (d.n : Int)) else none) (by omega) hD (fun G s8 => SqL.of ((s1.trans s8) _ _ ha)) ?_ ?_
    · rintro i x G8 G9 Qy Qn hi s8 ⟨rfl, hv⟩ ky_ kn
      have li : i < ds.length := by omega
      have hdi : ds[i]? = some ds[i] := List.getElem?_eq_getElem li
      obtain ⟨t, rd, tw, rfl, ht, hr1, _⟩ := (hx i x _ hv hdi).same (s1.trans s8)
      rw [hdi, Option.bind_some] at ky_ kn
      exact ⟨rfl, _, rfl, t, _, 0, _, rfl, rfl, SqT.of ht, rfl, ky_ _ _ (Same.refl _) rfl⟩
    · intro G2 s2 hR
      rw [lx, sel_dn, List.filter_eq_self.mpr fun _ _ => rfl] at hR
      have s12 := s1.trans s2
      have hnum : ∀ n ∈ ns, n ∈ ds.map (·.n) := fun n hn => by
        obtain ⟨d, hd, e⟩ := sub n hn
        exact List.mem_map.mpr ⟨d, hd, e⟩
      have lns : (numsV ns).length = ns.length := List.length_map _
      have asc0 : ns.Pairwise (· < ·) := asc
      refine ⟨_, rfl, c, ns, rfl, s12 _ _ hc, by omega, asc0, fun G3 s3 => ⟨true, rfl, iteF ?_⟩⟩
      have s13 := s12.trans s3
      have hc3 := s13 _ _ hc
      refine ⟨_, rfl, c, rfl, ⟨_, SqL.of hc3⟩, fun D2 hD2 => ?_⟩
      refine lc_sel (walk_list (K := K) (a := c) (xs := numsV ns)) (fun i => some (V.bl true)) (by omega) hD2 (fun G s8 => SqL.of (s8 _ _ hc3)) ?_ ?_
      · rintro i x G8 G9 Qy Qn hi s8 ⟨rfl, hv⟩ ky_ kn
        have li : i < ns.length := by omega
        unfold numsV at hv
        rw [List.getElem?_map, List.getElem?_eq_getElem li] at hv
        obtain rfl := Option.some.inj hv
        refine ⟨rfl, _, rfl, _, rfl, D, _, rfl, Or.inl (SqL.of ((s3.trans s8) _ _ hR)), rfl, flat_nums _, ?_⟩
        rw [inV_nums (hnum _ (List.getElem_mem li))]
        exact ky_ _ _ (Same.refl _) rfl
      · intro G4 s4 hR4
        have eb : ((List.range ns.length).filterMap fun _ => some (V.bl true)) = (List.replicate ns.length true).map V.bl := by
          rw [List.filterMap_eq_map', List.map_const', List.map_replicate, List.length_range]
        rw [lns, eb] at hR4
        refine ⟨D2, _, rfl, SqL.of hR4, true, by simp [TruV], iteF ?_⟩
        have s14 := s13.trans s4
        refine ⟨_, rfl, a, ds, rfl, hL.same s14, hG, fun pq G5 s5 npq hpq => ?_⟩
        refine ⟨pq, rfl, ⟨_, SqL.of hpq⟩, fun S hS => ?_⟩
        have lnp : (numsV (pgs ds)).length = (pgs ds).length := List.length_map _
        have s15 := s14.trans s5
        refine dc_walk (walk_list (K := K) (a := pq) (xs := numsV (pgs ds))) (fun i G => Same G5 G ∧ G S = some (.dK (mV ((pgs ds).take i) m))) ⟨Same.updf hS, upd_same⟩ (fun i G _ hh => SqL.of (hh.1 _ _ hpq)) ?_ ?_
        · rintro i x G6 G7 hi ⟨sG, gd⟩ ⟨rfl, hv⟩
          have li : i < (pgs ds).length := by omega
          unfold numsV at hv
          rw [List.getElem?_map, List.getElem?_eq_getElem li] at hv
          obtain rfl := Option.some.inj hv
          refine ⟨rfl, _, rfl, _, rfl, _, rfl, b, .int (m (pgs ds)[i] : Int), rfl, ?_, _, ky (pgs ds)[i], rfl, gd, by rw [dV_len, List.length_take]; omega, fun c o e => ?_, ?_⟩
          · have := DGet.k (k := ky (pgs ds)[i]) ((s15.trans sG) _ _ hb)
            rw [mV_val (pk.mem_iff.mpr (List.getElem_mem li))] at this
            exact this
          · rw [upd_ne (ne_of_none e hS)]
            exact sG _ _ e
          · rw [upd_same, dV_new (tk_notin li), tk_snoc li]
            refine congrArg (fun z => some (HO.dK z)) (dV_congr fun p _ => ?_)
            unfold put
            split
            · next e => rw [e]
            · rfl
        · rintro G6 ⟨sG6, gS⟩
          rw [lnp, List.take_length] at gS
          have s16 := s15.trans sG6
          have nS : H S = none := none_back s15 hS
          refine ⟨S, _, gS, trivial, fun od => ⟨_, rfl, S, od, rfl, .inl ⟨_, upd_same, fun Fa hFa => ?_⟩⟩⟩
          have nFS : Fa ≠ S := fun z => by
            rw [z, upd_same] at hFa
            cases hFa
          have nF6 : G6 Fa = none := by
            rw [upd_ne nFS] at hFa
            exact hFa
          have lmk : (mV (pgs ds) m).length = (pgs ds).length := dV_len _ _
          refine dc_walk (walk_keys (d := S) (o := od) (kvs := mV (pgs ds) m)) (fun i G => (∀ c o, c ≠ S → G6 c = some o → G c = some o) ∧ G S = some (.frz od (.dK (mV (pgs ds) m))) ∧ G Fa = some (.dK (mV ((pgs ds).take i) fun _ => 0)))
            ⟨fun c o n e => by rw [upd_ne (ne_of_none e nF6), upd_ne n]; exact e, by rw [upd_ne nFS.symm, upd_same], upd_same⟩ (fun i G _ hh => hh.2.1) ?_ ?_
          · rintro i x G7 G8 hi ⟨kp, gS7, gF⟩ ⟨rfl, k', v', ek, rfl⟩
            have li : i < (pgs ds).length := by omega
            have ei : (mV (pgs ds) m)[i]? = some (ky (pgs ds)[i], .int (m (pgs ds)[i] : Int)) := by
              unfold mV dV
              rw [List.getElem?_map, List.getElem?_eq_getElem li]
              rfl
            rw [ei] at ek
            cases ek
            refine ⟨rfl, _, rfl, _, ky (pgs ds)[i], rfl, gF, by rw [dV_len, List.length_take]; omega, fun c o n e => ?_, ?_, ?_⟩
            · rw [upd_ne (ne_of_none e nF6)]
              exact kp _ _ n e
            · rw [upd_ne nFS.symm]
              exact gS7
            · rw [upd_same, dV_new (tk_notin li), tk_snoc li]
              refine congrArg (fun z => some (HO.dK z)) (dV_congr fun p _ => ?_)
              unfold put
              split
              · rfl
              · rfl
          · rintro G7 ⟨kp, gS7, gF⟩
            rw [lmk, List.take_length] at gF
            refine ⟨gS7, ?_⟩
            have nF : H Fa = none := none_back s16 nF6
            have sU : Same H (upd G7 S (.dK (mV (pgs ds) m))) := fun c o e => by
              rw [upd_ne (ne_of_none e nS)]
              exact kp _ _ (ne_of_none e nS) (s16 _ _ e)
            have uS := upd_same (H := G7) (a := S) (o := .dK (mV (pgs ds) m))
            have uF : upd G7 S (.dK (mV (pgs ds) m)) Fa = some (.dK (mV (pgs ds) fun _ => 0)) := by
              rw [upd_ne nFS]
              exact gF
            generalize upd G7 S (.dK (mV (pgs ds) m)) = U at *
            refine ⟨_, rfl, a, rfl, ⟨_, SqL.of (sU _ _ ha)⟩, ?_⟩
            refine for_it (walk_list (K := K) (a := a) (xs := xs)) (fun i σ G => Same H G ∧ (∃ g, G S = some (.dK (dV (pgs ds) g)) ∧ ∀ p ∈ pgs ds, WAt (off (off G S) Fa) (g p) (walN ds m ns (ds.take i) p)) ∧ G Fa = some (.dK (mV (pgs ds) (fiN (ds.take i)))) ∧ ∃ v4 v5 v8 v9 v10, σ = [some (.ref a), some (.ref b), some (.ref c), some (.ref D), v4, v5, some (.ref S), some (.ref Fa), v8, v9, v10, none, none])
              ⟨sU, ⟨_, uS, fun p hp => .inl ⟨rfl, rfl⟩⟩, uF, _, _, _, _, _, rfl⟩ (fun i σ G _ hh => SqL.of (hh.1 _ _ ha)) ?_ ?_
            · rintro i x σ G8 G hi ⟨sG, ⟨g, gG, gw⟩, fG, v4, v5, v8, v9, v10, rfl⟩ ⟨rfl, hv⟩
              have li : i < ds.length := by omega
              have hdi : ds[i]? = some ds[i] := List.getElem?_eq_getElem li
              have md : ds[i] ∈ ds := List.getElem_mem li
              have etk : ds.take (i + 1) = ds.take i ++ [ds[i]] := by
                rw [List.take_succ, hdi]
                rfl
              obtain ⟨t, rd, tw, rfl, ht, hr1, _⟩ := (hx i x _ hv hdi).same sG
              have hcG := sG _ _ hc
              refine ⟨t, [_, _, _, _], rfl, .inl (.inl ht), rfl, _, [_, _, _], rfl, _, [_, _], rfl, _, [_], rfl, _, [], rfl, rfl, ?_⟩
              have fin : ∀ (J : Hp) (g' : Nat → V), Same H J → J S = some (.dK (dV (pgs ds) g')) → (∀ p ∈ pgs ds, WAt (off (off J S) Fa) (g' p) (walN ds m ns (ds.take (i + 1)) p)) → Same H (upd J Fa (.dK (mV (pgs ds) (putN (fiN (ds.take i)) ds[i].p ds[i].n)))) ∧ (∃ g, upd J Fa (.dK (mV (pgs ds) (putN (fiN (ds.take i)) ds[i].p ds[i].n))) S = some (.dK (dV (pgs ds) g)) ∧ ∀ p ∈ pgs ds, WAt (off (off (upd J Fa (.dK (mV (pgs ds) (putN (fiN (ds.take i)) ds[i].p ds[i].n)))) S) Fa) (g p) (walN ds m ns (ds.take (i + 1)) p)) ∧ upd J Fa (.dK (mV (pgs ds) (putN (fiN (ds.take i)) ds[i].p ds[i].n))) Fa = some (.dK (mV (pgs ds) (fiN (ds.take (i + 1))))) := fun J g' sJ jS jw => by
                refine ⟨fun c o e => ?_, ⟨g', ?_, ?_⟩, ?_⟩
                · rw [upd_ne (ne_of_none e nF)]
                  exact sJ _ _ e
                · rw [upd_ne nFS.symm]
                  exact jS
                · have e : off (off (upd J Fa (.dK (mV (pgs ds) (putN (fiN (ds.take i)) ds[i].p ds[i].n)))) S) Fa = off (off J S) Fa := funext fun c => by
                    unfold off
                    by_cases z : c = Fa
                    · rw [if_pos z, if_pos z]
                    · rw [if_neg z, if_neg z, upd_ne z]
                  rw [e]
                  exact jw
                · rw [upd_same]
                  refine congrArg (fun z => some (HO.dK z)) (dV_congr fun p hp => ?_)
                  rw [etk, fiN_snoc]
                  unfold putN
                  rfl
              refine ⟨_, rfl, _, rfl, c, _, rfl, Or.inl (SqL.of hcG), rfl, flat_nums _, ?_⟩
              rw [inV_iff]
              have lp30 : (mV (pgs ds) (fiN (ds.take i))).length ≤ 30 := by
                rw [dV_len]
                exact pl
              have own := own_pg hG md
              by_cases mem : ds[i].n ∈ ns
              · rw [decide_eq_true mem]
                refine ⟨_, rfl, iteT ?_⟩
                have lr : (numsV ds[i].r).length = ds[i].r.length := List.length_map _
                have l20 := (hG.ok _ md).len
                obtain ⟨P0, eP0⟩ : ∃ P0 : Nat → Bool, P0 = fun r => decide (walN ds m ns (ds.take i) r = (mkAt ds ((ds[i].n : Int) - 1) r, true)) := ⟨_, rfl⟩
                refine ⟨_, rfl, rd, rfl, ⟨_, SqL.of hr1⟩, fun D3 hD3 => ?_⟩
                refine lc_sel (walk_list (K := K) (a := rd) (xs := numsV ds[i].r)) (fun j => some (V.bl (P0 (ds[i].r.getD j 0)))) (by omega) hD3 (fun G s8 => SqL.of (s8 _ _ hr1)) ?_ ?_
                · rintro j x G9 G10 Qy Qn hj s9 ⟨rfl, hv2⟩ ky_ kn
                  have lj : j < ds[i].r.length := by omega
                  unfold numsV at hv2
                  rw [List.getElem?_map, List.getElem?_eq_getElem lj] at hv2
                  obtain rfl := Option.some.inj hv2
                  have er : ds[i].r.getD j 0 = ds[i].r[j] := by
                    rw [List.getD_eq_getElem?_getD, List.getElem?_eq_getElem lj]
                    rfl
                  rw [er] at ky_
                  have mp : ds[i].r[j] ∈ pgs ds := pgs_mem.mpr ⟨ds[i], md, List.getElem_mem lj⟩
                  generalize ds[i].r[j] = r at *
                  have dS : DGet G10 S (.int (r : Int)) (some (g r)) := by
                    have := DGet.k (k := ky r) (s9 _ _ gG)
                    rw [dV_val mp] at this
                    exact this
                  have dF : DGet G10 Fa (.int (r : Int)) (some (.int (fiN (ds.take i) r : Int))) := by
                    have := DGet.k (k := ky r) (s9 _ _ fG)
                    rw [mV_val mp] at this
                    exact this
                  have ef := fiN_at hG li r
                  have hw := ((gw r mp).same fun c o e => s9 _ _ (off_le _ _ _ _ (off_le _ _ _ _ e)) : WAt G10 (g r) _)
                  have ep : P0 r = decide (walN ds m ns (ds.take i) r = (fiN (ds.take i) r, true)) := by
                    rw [eP0, ef]
                  rcases hw with ⟨e1, e2⟩ | ⟨e1, T, e2, hT⟩
                  · have ev : PyData.eqv (.int ((walN ds m ns (ds.take i) r).1 : Int)) (.int (fiN (ds.take i) r : Int)) = P0 r := by
                      rw [ep, Bool.eq_iff_iff]
                      have z : walN ds m ns (ds.take i) r = ((walN ds m ns (ds.take i) r).1, true) := by rw [← e1]
                      rw [z]
                      simp [PyData.eqv]
                      omega
                    refine ⟨rfl, _, rfl, _, rfl, S, g r, rfl, dS, _, rfl, _, rfl, Fa, _, rfl, dF, .int ((walN ds m ns (ds.take i) r).1 : Int), .int (fiN (ds.take i) r : Int), by rw [e2]; exact .int _, .int _, rfl, rfl, ?_⟩
                    rw [ev]
                    exact ky_ _ _ (Same.refl _) rfl
                  · have ev : PyData.eqv (.tuple [.str (Str.ofString "odd"), .int ((walN ds m ns (ds.take i) r).1 : Int)]) (.int (fiN (ds.take i) r : Int)) = P0 r := by
                      have z : walN ds m ns (ds.take i) r ≠ (fiN (ds.take i) r, true) := fun z => by
                        rw [z] at e1
                        cases e1
                      rw [ep, decide_eq_false z]
                      rfl
                    refine ⟨rfl, _, rfl, _, rfl, S, g r, rfl, dS, _, rfl, _, rfl, Fa, _, rfl, dF, _, _, by rw [e2]; exact .tup (SqT.of hT) (.cons (.str _) (.cons (.int _) .nil)), .int _, shaped_odd _, rfl, ?_⟩
                    rw [ev]
                    exact ky_ _ _ (Same.refl _) rfl
                · intro G9 s9 hR9
                  have eb : ((List.range (numsV ds[i].r).length).filterMap fun j => some (V.bl (P0 (ds[i].r.getD j 0)))) = ((List.range ds[i].r.length).map fun j => P0 (ds[i].r.getD j 0)).map V.bl := by
                    rw [lr, List.filterMap_eq_map', List.map_map]
                    rfl
                  rw [eb] at hR9
                  have ea : ((List.range ds[i].r.length).map fun j => P0 (ds[i].r.getD j 0)).all id = ds[i].r.all P0 := by
                    have e : ds[i].r = (List.range ds[i].r.length).map fun j => ds[i].r.getD j 0 := by
                      refine List.ext_getElem (by simp) fun j h1 h2 => ?_
                      simp [h1]
                    conv => rhs; rw [e]
                    rw [List.all_map, List.all_map]
                    rfl
                  have s19 := sG.trans s9
                  have gS9 := s9 _ _ gG
                  have fG9 := s9 _ _ fG
                  have l30 : (dV (pgs ds) g).length ≤ 30 := by
                    rw [dV_len]
                    exact pl
                  have ew : walN ds m ns (ds.take (i + 1)) = fun p => if p = ds[i].p then (ds[i].n, ds[i].r.all P0) else walN ds m ns (ds.take i) p := by
                    rw [etk, walN_snoc]
                    unfold stepW
                    rw [if_pos mem, eP0]
                  refine ⟨D3, _, rfl, SqL.of hR9, ?_⟩
                  rw [ea]
                  have keepO : ∀ J : Hp, (∀ c o, c ≠ S → c ≠ Fa → G c = some o → J c = some o) → Same (off (off G S) Fa) (off (off J S) Fa) := fun J kk c o e => by
                    have n2 : c ≠ Fa := fun z => by
                      unfold off at e
                      rw [if_pos z] at e
                      cases e
                    rw [off_at n2] at e ⊢
                    have n1 : c ≠ S := fun z => by
                      unfold off at e
                      rw [if_pos z] at e
                      cases e
                    rw [off_at n1] at e ⊢
                    exact kk c o n1 n2 e
                  cases hq : ds[i].r.all P0 with
                  | true =>
                    refine ⟨_, rfl, true, rfl, iteT ?_⟩
                    refine ⟨_, rfl, _, rfl, _, rfl, S, _, rfl, DPut.k (k := ky ds[i].p) gS9 (by omega), ?_⟩
                    rw [dV_put own]
                    have jF : upd G9 S (.dK (dV (pgs ds) (put g ds[i].p (.int (ds[i].n : Int))))) Fa = some (.dK (mV (pgs ds) (fiN (ds.take i)))) := by
                      rw [upd_ne nFS]
                      exact fG9
                    refine ⟨_, rfl, _, rfl, _, rfl, Fa, _, rfl, DPut.k (k := ky ds[i].p) jF (by omega), ?_⟩
                    rw [mV_put own]
                    obtain ⟨f1, f2, f3⟩ := fin (upd G9 S (.dK (dV (pgs ds) (put g ds[i].p (.int (ds[i].n : Int)))))) (put g ds[i].p (.int (ds[i].n : Int))) (fun c o e => by
                      rw [upd_ne (ne_of_none e nS)]
                      exact s19 _ _ e) upd_same fun x hx2 => by
                        rw [ew]
                        dsimp only
                        unfold put
                        by_cases z : x = ds[i].p
                        · rw [if_pos z, if_pos z, hq]
                          exact .inl ⟨rfl, rfl⟩
                        · rw [if_neg z, if_neg z]
                          exact (gw x hx2).same (keepO _ fun c o n1 n2 e => by
                            rw [upd_ne n1]
                            exact s9 _ _ e)
                    exact ⟨f1, f2, f3, _, _, _, _, _, rfl⟩
                  | false =>
                    refine ⟨_, rfl, false, rfl, iteF ?_⟩
                    refine ⟨_, rfl, (by show 2 ≤ sizeLine; omega), fun T hT => ?_⟩
                    have s10 := Same.updf (o := .tup [.str (Str.ofString "odd"), .int (ds[i].n : Int)]) hT
                    have hT10 := upd_same (H := G9) (a := T) (o := .tup [.str (Str.ofString "odd"), .int (ds[i].n : Int)])
                    have gS10 := s10 _ _ gS9
                    have fG10 := s10 _ _ fG9
                    have nTS : T ≠ S := (ne_of_none gS9 hT).symm
                    have nTF : T ≠ Fa := (ne_of_none fG9 hT).symm
                    have s20 := s9.trans s10
                    have s21 := sG.trans s20
                    generalize upd G9 T (.tup [.str (Str.ofString "odd"), .int (ds[i].n : Int)]) = G10 at *
                    refine ⟨_, rfl, _, rfl, S, _, rfl, DPut.k (k := ky ds[i].p) gS10 (by omega), ?_⟩
                    rw [dV_put own]
                    have jF : upd G10 S (.dK (dV (pgs ds) (put g ds[i].p (.ref T)))) Fa = some (.dK (mV (pgs ds) (fiN (ds.take i)))) := by
                      rw [upd_ne nFS]
                      exact fG10
                    refine ⟨_, rfl, _, rfl, _, rfl, Fa, _, rfl, DPut.k (k := ky ds[i].p) jF (by omega), ?_⟩
                    rw [mV_put own]
                    obtain ⟨f1, f2, f3⟩ := fin (upd G10 S (.dK (dV (pgs ds) (put g ds[i].p (.ref T))))) (put g ds[i].p (.ref T)) (fun c o e => by
                      rw [upd_ne (ne_of_none e nS)]
                      exact s21 _ _ e) upd_same fun x hx2 => by
                        rw [ew]
                        dsimp only
                        unfold put
                        by_cases z : x = ds[i].p
                        · rw [if_pos z, if_pos z, hq]
                          refine .inr ⟨rfl, T, rfl, ?_⟩
                          rw [off_at nTF, off_at nTS, upd_ne nTS]
                          exact hT10
                        · rw [if_neg z, if_neg z]
                          exact (gw x hx2).same (keepO _ fun c o n1 n2 e => by
                            rw [upd_ne n1]
                            exact s20 _ _ e)
                    exact ⟨f1, f2, f3, _, _, _, _, _, rfl⟩
              · rw [decide_eq_false mem]
                refine ⟨_, rfl, iteF ?_⟩
                have ew : walN ds m ns (ds.take (i + 1)) = walN ds m ns (ds.take i) := by
                  rw [etk, walN_snoc]
                  unfold stepW
                  rw [if_neg mem]
                refine ⟨_, rfl, _, rfl, _, rfl, Fa, _, rfl, DPut.k (k := ky ds[i].p) fG (by omega), ?_⟩
                rw [mV_put own]
                obtain ⟨f1, f2, f3⟩ := fin G g sG gG (by rw [ew]; exact gw)
                exact ⟨f1, f2, f3, _, _, _, _, _, rfl⟩
            · rintro σ G ⟨sG, ⟨g, gG, gw⟩, fG, v4, v5, v8, v9, v10, rfl⟩
              rw [lx, List.take_length] at gw
              refine ⟨_, rfl, k S g G sG nS gG fun p hp => (gw p hp).same fun c o e => off_le _ _ _ _ (off_le _ _ _ _ e)⟩
end
end K21
set_option Elab.async false
set_option linter.all false
set_option maxRecDepth 100000
set_option maxHeartbeats 8000000
namespace K21
open PySem PySem.Spec PyProof.Rows L2 KB
/-! The only list: what is done again ends at the newest exactly for right stamps and the numbers that they lack. -/
theorem lastD_asc {l : List Nat} (h : l.Pairwise (· < ·)) : ∀ {x : Nat}, x ∈ l → x ≤ l.getLastD 0 := by
  induction l with
  | nil => intro x m; cases m
  | cons a l ih =>
    intro x m
    rw [List.getLastD_cons]
    have h1 := List.pairwise_cons.mp h
    cases l with
    | nil =>
      rw [List.mem_singleton.mp m]
      exact Nat.le_refl _
    | cons b l =>
      have e : (b :: l).getLastD a = (b :: l).getLastD 0 := rfl
      rw [e]
      rcases List.mem_cons.mp m with rfl | m
      · exact Nat.le_of_lt (Nat.lt_of_lt_of_le (h1.1 b List.mem_cons_self) (ih h1.2 List.mem_cons_self))
      · exact ih h1.2 m
theorem mkAt_ge {ds : List Dd} (hG : Lg ds) {n : Int} {d : Dd} (hd : d ∈ ds) (h : (d.n : Int) ≤ n) : d.n ≤ mkAt ds n d.p := by
  unfold mkAt
  refine lastD_asc ?_ (List.mem_map.mpr ⟨d, List.mem_filter.mpr ⟨hd, decide_eq_true ⟨rfl, h⟩⟩, rfl⟩)
  exact List.pairwise_map.mpr (hG.asc.filter _)
theorem mkAt_le {ds : List Dd} {n : Int} (h : 0 ≤ n) (p : Nat) : (mkAt ds n p : Int) ≤ n := by
  unfold mkAt
  rw [List.getLastD_eq_getLast?]
  cases h2 : ((ds.filter fun d => decide (d.p = p ∧ (d.n : Int) ≤ n)).map (·.n)).getLast? with
  | none => exact h
  | some x =>
    obtain ⟨d, hd, rfl⟩ := List.mem_map.mp (List.mem_of_getLast? h2)
    exact (of_decide_eq_true (List.mem_filter.mp hd).2).2
section
variable {ds : List Dd} {m : Nat → Nat} {ns : List Nat}
theorem fi_lt (hG : Lg ds) {i : Nat} (li : i < ds.length) (p : Nat) : fiN (ds.take i) p < ds[i].n := by
  have n1 := (hG.ok _ (List.getElem_mem li)).n1
  have := mkAt_le (ds := ds) (n := (ds[i].n : Int) - 1) (by omega) p
  rw [fiN_at hG li]
  omega
theorem gap (hG : Lg ds) (mk : Mk ds m) {i : Nat} (li : i < ds.length) {p : Nat} (hp : p ∈ pgs ds) (h : fiN (ds.take i) p < m p) : ds[i].n ≤ m p := by
  have hm := mk p hp
  unfold nbp at hm
  rcases List.mem_cons.mp hm with e | hm
  · omega
  · obtain ⟨d, hd, e⟩ := List.mem_map.mp hm
    obtain ⟨h1, h2⟩ := List.mem_filter.mp hd
    have ep := of_decide_eq_true h2
    rcases Nat.lt_or_ge (m p) ds[i].n with z | z
    · have := mkAt_ge hG h1 (n := (ds[i].n : Int) - 1) (by omega)
      rw [ep, ← fiN_at hG li] at this
      omega
    · exact z
theorem fi_end (hG : Lg ds) (mk : Mk ds m) {p : Nat} (hp : p ∈ pgs ds) : m p ≤ fiN ds p := by
  have hm := mk p hp
  unfold nbp at hm
  rcases List.mem_cons.mp hm with e | hm
  · omega
  · unfold fiN
    exact lastD_asc (List.pairwise_map.mpr (hG.asc.filter _)) hm
/-- what stands for a page after i deeds: in step, ahead, or lost -/
def InS (ds : List Dd) (m : Nat → Nat) (ns : List Nat) (i p : Nat) : Prop := walN ds m ns (ds.take i) p = (fiN (ds.take i) p, true) ∧ m p ≤ fiN (ds.take i) p
def InA (ds : List Dd) (m : Nat → Nat) (ns : List Nat) (i p : Nat) : Prop := walN ds m ns (ds.take i) p = (m p, true) ∧ fiN (ds.take i) p < m p
def InB (ds : List Dd) (m : Nat → Nat) (ns : List Nat) (i p : Nat) : Prop := (walN ds m ns (ds.take i) p).2 = false ∨ (walN ds m ns (ds.take i) p).1 < fiN (ds.take i) p
def alike (ds : List Dd) (m : Nat → Nat) (ns : List Nat) (i : Nat) (d : Dd) : Bool := d.r.all fun r => decide (walN ds m ns (ds.take i) r = (mkAt ds ((d.n : Int) - 1) r, true))
theorem tk_d {i : Nat} (li : i < ds.length) : ds.take (i + 1) = ds.take i ++ [ds[i]] := by
  rw [List.take_succ, List.getElem?_eq_getElem li]
  rfl
theorem wal_in {i : Nat} (li : i < ds.length) (h : ds[i].n ∈ ns) (p : Nat) : walN ds m ns (ds.take (i + 1)) p = if p = ds[i].p then (ds[i].n, alike ds m ns i ds[i]) else walN ds m ns (ds.take i) p := by
  rw [tk_d li, walN_snoc]
  unfold stepW
  rw [if_pos h]
  rfl
theorem wal_out {i : Nat} (li : i < ds.length) (h : ds[i].n ∉ ns) (p : Nat) : walN ds m ns (ds.take (i + 1)) p = walN ds m ns (ds.take i) p := by
  rw [tk_d li, walN_snoc]
  unfold stepW
  rw [if_neg h]
theorem fi_suc {i : Nat} (li : i < ds.length) (p : Nat) : fiN (ds.take (i + 1)) p = if p = ds[i].p then ds[i].n else fiN (ds.take i) p := by
  rw [tk_d li, fiN_snoc]
theorem alike_own (hG : Lg ds) {i : Nat} (li : i < ds.length) (h : alike ds m ns i ds[i] = true) : ∀ r ∈ ds[i].r, walN ds m ns (ds.take i) r = (fiN (ds.take i) r, true) := fun r hr => by
  have := of_decide_eq_true (List.all_eq_true.mp h r hr)
  rw [this, fiN_at hG li]
theorem bad_suc (hG : Lg ds) {i : Nat} (li : i < ds.length) {p : Nat} (h : InB ds m ns i p) : InB ds m ns (i + 1) p := by
  unfold InB at h ⊢
  have lt := fi_lt hG li p
  rw [fi_suc li]
  by_cases mem : ds[i].n ∈ ns
  · rw [wal_in li mem]
    by_cases e : p = ds[i].p
    · rw [if_pos e, if_pos e]
      refine .inl ?_
      show alike ds m ns i ds[i] = false
      cases ha : alike ds m ns i ds[i] with
      | false => rfl
      | true =>
        have := alike_own hG li ha p (by rw [e]; exact (hG.ok _ (List.getElem_mem li)).own)
        rw [this] at h
        rcases h with h | h
        · cases h
        · exact (Nat.lt_irrefl _ h).elim
    · rw [if_neg e, if_neg e]
      exact h
  · rw [wal_out li mem]
    by_cases e : p = ds[i].p
    · rw [if_pos e]
      rcases h with h | h
      · exact .inl h
      · exact .inr (Nat.lt_trans h lt)
    · rw [if_neg e]
      exact h
theorem class_suc (hG : Lg ds) (mk : Mk ds m) {i : Nat} (li : i < ds.length) {p : Nat} (hp : p ∈ pgs ds) (h : InS ds m ns i p ∨ InA ds m ns i p) (nb : ¬ InB ds m ns (i + 1) p) : InS ds m ns (i + 1) p ∨ InA ds m ns (i + 1) p := by
  unfold InB at nb
  unfold InS InA
  rw [fi_suc li] at nb ⊢
  have lt := fi_lt hG li p
  by_cases e : p = ds[i].p
  · rw [if_pos e] at nb ⊢
    by_cases mem : ds[i].n ∈ ns
    · rw [wal_in li mem, if_pos e] at nb ⊢
      have ha : alike ds m ns i ds[i] = true := by
        cases ha : alike ds m ns i ds[i] with
        | true => rfl
        | false => exact (nb (.inl ha)).elim
      rw [ha]
      rcases h with h | h
      · have := h.2
        exact .inl ⟨rfl, by omega⟩
      · have e3 := alike_own hG li ha p (by rw [e]; exact (hG.ok _ (List.getElem_mem li)).own)
        rw [h.1] at e3
        have e4 := congrArg Prod.fst e3
        have := h.2
        dsimp only at e4
        omega
    · rw [wal_out li mem] at nb ⊢
      rcases h with h | h
      · rw [h.1] at nb
        exact (nb (.inr lt)).elim
      · have g := gap hG mk li hp h.2
        rcases Nat.lt_or_eq_of_le g with z | z
        · exact .inr ⟨h.1, z⟩
        · exact .inl ⟨by rw [h.1, z], by omega⟩
  · rw [if_neg e] at nb ⊢
    by_cases mem : ds[i].n ∈ ns
    · rw [wal_in li mem, if_neg e]
      exact h
    · rw [wal_out li mem]
      exact h
theorem class_0 (p : Nat) : InS ds m ns 0 p ∨ InA ds m ns 0 p := by
  unfold InS InA
  rw [List.take_zero]
  have e : fiN [] p = 0 := rfl
  have e2 : walN ds m ns [] p = (m p, true) := rfl
  rw [e, e2]
  rcases Nat.eq_zero_or_pos (m p) with z | z
  · exact .inl ⟨by rw [z], by omega⟩
  · exact .inr ⟨rfl, z⟩
theorem bad_on (hG : Lg ds) {p : Nat} : ∀ {k i : Nat}, i + k ≤ ds.length → InB ds m ns i p → InB ds m ns (i + k) p
  | 0, _, _, h => h
  | k + 1, i, l, h => by
    have := bad_on hG (k := k) (i := i + 1) (by omega) (bad_suc hG (by omega) h)
    have e : i + 1 + k = i + (k + 1) := by omega
    rw [e] at this
    exact this
theorem never_bad (hG : Lg ds) {p : Nat} (h : walN ds m ns ds p = (fiN ds p, true)) {i : Nat} (l : i ≤ ds.length) : ¬ InB ds m ns i p := fun hb => by
  have := bad_on hG (k := ds.length - i) (i := i) (by omega) hb
  have e : i + (ds.length - i) = ds.length := by omega
  unfold InB at this
  rw [e, List.take_length, h] at this
  rcases this with z | z
  · cases z
  · exact Nat.lt_irrefl _ z
theorem class_all (hG : Lg ds) (mk : Mk ds m) {p : Nat} (hp : p ∈ pgs ds) (h : walN ds m ns ds p = (fiN ds p, true)) : ∀ {i : Nat}, i ≤ ds.length → InS ds m ns i p ∨ InA ds m ns i p
  | 0, _ => class_0 p
  | i + 1, l => class_suc hG mk (by omega) hp (class_all hG mk hp h (i := i) (by omega)) (never_bad hG h l)
/-- ends at the newest: then the stamps are right, and just what they lack was done -/
theorem wal_only (hG : Lg ds) (mk : Mk ds m) (h : ∀ p ∈ pgs ds, walN ds m ns ds p = (fiN ds p, true)) : wr ds m = [] ∧ ∀ d ∈ ds, (d.n ∈ ns ↔ m d.p < d.n) := by
  have one : ∀ i, (li : i < ds.length) → (ds[i].n ∈ ns ↔ m ds[i].p < ds[i].n) ∧ (m ds[i].p < ds[i].n → ∀ r ∈ ds[i].r, m r < ds[i].n) := fun i li => by
    have md := List.getElem_mem li
    have own := (hG.ok _ md).own
    have hp : ds[i].p ∈ pgs ds := own_pg hG md
    have lt := fi_lt hG li ds[i].p
    have nb := never_bad hG (h _ hp) (i := i + 1) (by omega)
    unfold InB at nb
    rw [fi_suc li, if_pos rfl] at nb
    have al : ds[i].n ∈ ns → alike ds m ns i ds[i] = true := fun mem => by
      rw [wal_in li mem, if_pos rfl] at nb
      cases ha : alike ds m ns i ds[i] with
      | true => rfl
      | false => exact (nb (.inl ha)).elim
    have iff : ds[i].n ∈ ns ↔ m ds[i].p < ds[i].n := by
      rcases class_all hG mk hp (h _ hp) (i := i) (by omega) with c | c
      · have := c.2
        refine ⟨fun _ => by omega, fun _ => ?_⟩
        by_cases mem : ds[i].n ∈ ns
        · exact mem
        · rw [wal_out li mem, c.1] at nb
          exact (nb (.inr lt)).elim
      · have g := gap hG mk li hp c.2
        refine ⟨fun mem => ?_, fun z => by omega⟩
        have e3 := alike_own hG li (al mem) _ own
        rw [c.1] at e3
        have e4 := congrArg Prod.fst e3
        have := c.2
        dsimp only at e4
        omega
    refine ⟨iff, fun z r hr => ?_⟩
    have e3 := alike_own hG li (al (iff.mpr z)) r hr
    have hpr : r ∈ pgs ds := pgs_mem.mpr ⟨_, md, hr⟩
    have ltr := fi_lt hG li r
    rcases class_all hG mk hpr (h _ hpr) (i := i) (by omega) with c | c
    · have := c.2
      omega
    · rw [c.1] at e3
      have e4 := congrArg Prod.fst e3
      have := c.2
      dsimp only at e4
      omega
  refine ⟨(rt_iff (ds := ds) (m := m)).mpr fun d hd z r hr => ?_, fun d hd => ?_⟩
  · obtain ⟨i, li, rfl⟩ := List.getElem_of_mem hd
    exact (one i li).2 z r hr
  · obtain ⟨i, li, rfl⟩ := List.getElem_of_mem hd
    exact (one i li).1
/-- right stamps and what they lack: then it ends at the newest -/
theorem wal_leads (hG : Lg ds) (mk : Mk ds m) (rt : wr ds m = []) (hn : ∀ d ∈ ds, (d.n ∈ ns ↔ m d.p < d.n)) : ∀ p ∈ pgs ds, walN ds m ns ds p = (fiN ds p, true) := by
  have all : ∀ i, i ≤ ds.length → ∀ p ∈ pgs ds, InS ds m ns i p ∨ InA ds m ns i p := fun i => by
    induction i with
    | zero => exact fun _ p _ => class_0 p
    | succ i ih =>
      intro l p hp
      have li : i < ds.length := by omega
      have md := List.getElem_mem li
      have ihp := ih (by omega)
      refine class_suc hG mk li hp (ihp p hp) ?_
      unfold InB
      rw [fi_suc li]
      have lt := fi_lt hG li p
      by_cases e : p = ds[i].p
      · rw [if_pos e]
        by_cases mem : ds[i].n ∈ ns
        · have z := (hn _ md).mp mem
          rw [wal_in li mem, if_pos e]
          have ha : alike ds m ns i ds[i] = true := List.all_eq_true.mpr fun r hr => by
            have hpr : r ∈ pgs ds := pgs_mem.mpr ⟨_, md, hr⟩
            have zr := (rt_iff (ds := ds) (m := m)).mp rt _ md z r hr
            refine decide_eq_true ?_
            rcases ihp r hpr with c | c
            · rw [c.1, fiN_at hG li]
            · have := gap hG mk li hpr c.2
              omega
          rw [ha]
          rintro (y | y)
          · cases y
          · exact Nat.lt_irrefl _ y
        · have z : ¬ m ds[i].p < ds[i].n := fun z => mem ((hn _ md).mpr z)
          rw [wal_out li mem]
          rcases ihp p hp with c | c
          · have := c.2
            rw [e] at this lt
            omega
          · rw [c.1]
            rintro (y | y)
            · cases y
            · rw [← e] at z
              exact z y
      · rw [if_neg e]
        have same : walN ds m ns (ds.take (i + 1)) p = walN ds m ns (ds.take i) p := by
          by_cases mem : ds[i].n ∈ ns
          · rw [wal_in li mem, if_neg e]
          · rw [wal_out li mem]
        rw [same]
        rcases ihp p hp with c | c
        · rw [c.1]
          rintro (y | y)
          · cases y
          · exact Nat.lt_irrefl _ y
        · rw [c.1]
          have := c.2
          rintro (y | y)
          · cases y
          · dsimp only at y
            omega
  intro p hp
  have c := all ds.length (Nat.le_refl _) p hp
  unfold InS InA at c
  rw [List.take_length] at c
  rcases c with c | c
  · exact c.1
  · have := fi_end hG mk hp
    omega
end
end K21
set_option Elab.async false
set_option linter.all false
set_option maxRecDepth 100000
set_option maxHeartbeats 8000000
namespace K21
open PySem PySem.Spec PyProof.Rows L2 KB LiI
/-- the long log: page p by deed p + 1 and by deed p + 13 -/
def lateP (rg : Bool) (n : Nat) : Nat := if rg then n % 12 else min 11 ((n - 1) % 12 + 1)
def lgR (rg : Bool) (n : Nat) : List Nat := let p := (n - 1) % 12; let l := lateP rg n; if p = l then [p] else if p < l then [p, l] else [l, p]
def lgD (rg : Bool) (i : Nat) : Dd := ⟨i + 1, i % 12, lgR rg (i + 1), []⟩
def longL (rg : Bool) : List Dd := (List.range 24).map (lgD rg)
def spLong : Sp := fun vs H Q _ => ∃ rg : Bool, vs = [.bl rg] ∧ ∀ q H', Same H H' → H q = none → LogAt H' q (longL rg) → Q (.ref q) H'
theorem long_ok (rg : Bool) : Lg (longL rg) := by
  refine ⟨fun d hd => ?_, ?_, by cases rg <;> decide +kernel, by cases rg <;> decide +kernel⟩
  · obtain ⟨i, hi, rfl⟩ := List.mem_map.mp hd
    have hi' := List.mem_range.mp hi
    have h : ∀ i < 24, (lgR rg (i + 1)).Pairwise (· < ·) ∧ i % 12 ∈ lgR rg (i + 1) ∧ (lgR rg (i + 1)).length ≤ 20 := by
      cases rg <;> decide +kernel
    obtain ⟨h1, h2, h3⟩ := h i hi'
    exact ⟨by show 1 ≤ i + 1; omega, h1, h2, h3, rfl, by simp [lgD, szWs]⟩
  · have h : ((longL rg).map (·.n)).Pairwise (· < ·) := by cases rg <;> decide +kernel
    exact List.pairwise_map.mp h
theorem long_pgs (rg : Bool) : pgs (longL rg) = List.range 12 := by cases rg <;> decide +kernel
theorem merge_two (p l : Nat) (v : V) : mergeK [] [(ky p, v), (ky l, v)] = if p = l then [(ky p, v)] else [(ky p, v), (ky l, v)] := by
  have e : mergeK [] [(ky p, v), (ky l, v)] = putK (dV [p] fun _ => v) (ky l) v := rfl
  rw [e]
  by_cases h : p = l
  · subst h
    rw [dV_put List.mem_cons_self, if_pos rfl]
    simp [dV, put]
  · rw [dV_new (fun m => h (List.mem_singleton.mp m).symm), if_neg h]
    simp [dV, put]
section
variable {P : Program} {w : World} {K : PySem.W.Frag} {mg : Str → Option Value} {base : Heap}
abbrev s_long_log : Stmt := top 61
abbrev N_long_log : List Str := ["_law_is_ringed", "_law_found", "_law_number", "_law_page", "_law_late"]
theorem sc_long_log : FnScope N_long_log ["_law_is_ringed"] (defScope s_long_log) := ⟨rfl, rfl, rfl, by decide +kernel, rfl, by decide +kernel, by decide +kernel⟩
theorem ok_long_log {f : Addr} {fd : FuncData} (F : FnP K "_law_long_log" s_long_log f fd) (Z : FreeS mg) :
    FnOk P w K mg base CX0 1 f fd ["_law_is_ringed"] spLong := by
  refine F.ok sc_long_log (fun vs H Q E h => ?_) (fun cdv A outer s H vs Q E hr h => ?_)
  · obtain ⟨rg, rfl, _⟩ := h
    rfl
  · obtain ⟨rg, rfl, k⟩ := h
    have sl : (100000 : Nat) ≤ sizeLine := by decide
    have nd := sc_long_log.nd
    refine ⟨_, PSs.nox (pss_cons (ps_set (i := 1) nd rfl (Or.inl rfl) (pe_lst (pa_nil)))
      (pss_cons (ps_for PassesOwn.never rfl (pi_range2 (by rfl) Z.range (pa_cons (pe_int) (pa_cons (pe_int) (pa_nil)))) (pg_name (i := 2) nd rfl (Or.inl rfl))
        (pss_cons (ps_set (i := 3) nd rfl (Or.inl rfl) (pe_op op_mod (pe_callTy call_int1 (by rfl) Z.int (by decide +kernel) (pa_cons (pe_op op_sub (pv 2) (pe_int)) (pa_nil))) (pe_int)))
      (pss_cons (ps_set (i := 4) nd rfl (Or.inl rfl) (pe_ifExp (pt_val (pv 0)) (pe_op op_mod (pe_callTy call_int1 (by rfl) Z.int (by decide +kernel) (pa_cons (pv 2) (pa_nil))) (pe_int)) (pe_callB (call_min2 rfl) (by rfl) Z.min (by decide +kernel) (pa_cons (pe_int) (pa_cons (pe_op op_add (pv 3) (pe_int)) (pa_nil))))))
      (pss_one (ps_expr (pe_bm PySem.F.plainAttrs_list PySem.F.slot_list_append PySem.F.type_list_append mt_append (pv 1) (pa_cons (pe_tup (pa_cons (pv 2) (pa_cons (pv 3) (pa_cons (pe_callB ((cr_sortedDI rfl)) (by rfl) Z.sorted (by decide +kernel) (pa_cons (pe_callTy (call_dictPR rfl) (by rfl) Z.tdict (by decide +kernel) (pa_cons (pe_lst (pa_cons (pe_tup (pa_cons (pv 3) (pa_cons (pe_bl) (pa_nil)))) (pa_cons (pe_tup (pa_cons (pv 4) (pa_cons (pe_bl) (pa_nil)))) (pa_nil)))) (pa_nil))) (pa_nil))) (pa_cons (pe_tup (pa_nil)) (pa_nil)))))) (pa_nil))))))))
      (pss_one (ps_ret (pv 1))))), ?_⟩
    refine ⟨Nat.zero_le _, fun L hL => ?_⟩
    have s0 : Same H (upd H L (.lst [])) := Same.updf hL
    refine ⟨1, 25, rfl, ⟨by decide, by decide, by decide, by decide⟩, ?_⟩
    show ∃ W, _
    refine for_it (n := 24) (walk_range (lo := 1) (n := 24)) (fun i σ G => Same H G ∧ ∃ (xs : List V) (v2 v3 v4 : Option V), G L = some (.lst xs) ∧ xs.length = i ∧ (∀ (j : Nat) (x : V), xs[j]? = some x → DeedAt (off G L) x (lgD rg j)) ∧ σ = [some (.bl rg), some (.ref L), v2, v3, v4])
      ⟨s0, [], _, _, _, upd_same, rfl, (fun j x e => by simp at e), rfl⟩ (fun i σ G _ _ => trivial) ?_ ?_
    · rintro i x σ G G' hi ⟨sG, xs, v2, v3, v4, hxs, lx, dx, rfl⟩ ⟨rfl, rfl⟩
      refine ⟨_, rfl, _, _, rfl, rfl, .inl ⟨_, rfl, _, _, rfl, rfl, (by show (0 : Int) < 12; decide), ?_⟩⟩
      show gName 3 (V.int ((1 + (i : Int) - 1) % 12)) _ _ _
      have ep : (1 + (i : Int) - 1) % 12 = ((i % 12 : Nat) : Int) := by omega
      rw [ep]
      refine ⟨_, rfl, rg, rfl, ?_⟩
      cases rg with
      | true =>
        refine iteT ⟨_, rfl, .inl ⟨_, rfl, _, _, rfl, rfl, (by show (0 : Int) < 12; decide), ?_⟩⟩
        show gName 4 (V.int ((1 + (i : Int)) % 12)) _ _ _
        have ev : (1 + (i : Int)) % 12 = (lateP true (i + 1) : Int) := by
          show _ = (((i + 1) % 12 : Nat) : Int)
          omega
        rw [ev]
        obtain ⟨l, el⟩ : ∃ l : Nat, l = lateP true (i + 1) := ⟨_, rfl⟩
        rw [← el]
        refine ⟨_, rfl, .inl ⟨rfl, _, SqL.of hxs⟩, ?_⟩
        refine ⟨_, rfl, _, rfl, _, rfl, (by show 2 ≤ sizeLine; omega), fun T1 hT1 => ⟨_, rfl, (by show 2 ≤ sizeLine; omega), fun T2 hT2 => ⟨(by show 2 ≤ sizeLine; omega), fun A1 hA1 => ?_⟩⟩⟩
        have s1 := Same.updf (o := .tup [V.int ((i % 12 : Nat) : Int), V.bl true]) hT1
        have s2 := Same.updf (o := .tup [V.int (l : Int), V.bl true]) hT2
        have s3 := Same.updf (o := .lst [V.ref T1, V.ref T2]) hA1
        refine ⟨A1, [T1, T2], [(ky (i % 12), .bl true), (ky l, .bl true)], rfl, SqL.of upd_same, .cons (SqT.of (s3 _ _ (s2 _ _ upd_same))) (.cons (SqT.of (s3 _ _ upd_same)) .nil), fun dd hdd => ?_⟩
        rw [merge_two]
        have s4 := Same.updf (o := .dK (if i % 12 = l then [(ky (i % 12), V.bl true)] else [(ky (i % 12), V.bl true), (ky l, V.bl true)])) hdd
        refine ⟨dd, _, (if i % 12 = l then [i % 12] else [i % 12, l]).map fun x : Nat => (x : Int), rfl, .inl upd_same, ?_, ?_, fun ns A2 hpm hso hA2 => ?_⟩
        · split <;> rfl
        · rw [List.length_map]
          split <;> simp
        have er : lgR true (i + 1) = if i % 12 = l then [i % 12] else if i % 12 < l then [i % 12, l] else [l, i % 12] := by
          rw [el]
          unfold lgR
          rw [Nat.add_sub_cancel]
        have en : ns = (lgR true (i + 1)).map fun x : Nat => (x : Int) := by
          refine le_uniq (hpm.trans ?_) hso ?_
          · rw [er]
            split
            · exact List.Perm.refl _
            · split
              · exact List.Perm.refl _
              · exact List.Perm.swap _ _ _
          · rw [er]
            refine List.pairwise_map.mpr ?_
            split
            · exact List.pairwise_singleton _ _
            · split
              · exact .cons (fun x m => by rw [List.mem_singleton.mp m]; omega) (List.pairwise_singleton _ _)
              · exact .cons (fun x m => by rw [List.mem_singleton.mp m]; omega) (List.pairwise_singleton _ _)
        subst en
        have mm : ((lgR true (i + 1)).map fun x : Nat => (x : Int)).map V.int = numsV (lgR true (i + 1)) := by
          rw [List.map_map]
          rfl
        rw [mm]
        have s5 := Same.updf (o := .lst (numsV (lgR true (i + 1)))) hA2
        refine ⟨Nat.zero_le _, fun T3 hT3 => ⟨(by show 4 ≤ sizeLine; omega), fun T4 hT4 => ?_⟩⟩
        have s6 := Same.updf (o := .tup []) hT3
        have s7 := Same.updf (o := .tup [V.int (1 + (i : Int)), V.int ((i % 12 : Nat) : Int), V.ref A2, V.ref T3]) hT4
        have sAll := ((s1.trans s2).trans (s3.trans s4)).trans (s5.trans (s6.trans s7))
        have hx7 := sAll _ _ hxs
        have nA2 : A2 ≠ L := (ne_of_none (((s1.trans s2).trans (s3.trans s4)) _ _ hxs) hA2).symm
        have nT3 : T3 ≠ L := (ne_of_none ((((s1.trans s2).trans (s3.trans s4)).trans s5) _ _ hxs) hT3).symm
        have nT4 : T4 ≠ L := (ne_of_none ((((s1.trans s2).trans (s3.trans s4)).trans (s5.trans s6)) _ _ hxs) hT4).symm
        have hA27 := (s6.trans s7) _ _ upd_same
        have hT37 := s7 _ _ upd_same
        have hT47 := upd_same (H := upd (upd (upd (upd (upd (upd G' T1 (.tup [V.int ((i % 12 : Nat) : Int), V.bl true])) T2 (.tup [V.int (l : Int), V.bl true])) A1 (.lst [V.ref T1, V.ref T2])) dd (.dK (if i % 12 = l then [(ky (i % 12), V.bl true)] else [(ky (i % 12), V.bl true), (ky l, V.bl true)]))) A2 (.lst (numsV (lgR true (i + 1))))) T3 (.tup [])) (a := T4) (o := .tup [V.int (1 + (i : Int)), V.int ((i % 12 : Nat) : Int), V.ref A2, V.ref T3])
        refine ⟨L, xs, .ref T4, rfl, rfl, hx7, by omega, ?_⟩
        refine ⟨fun c o e => ?_, xs ++ [.ref T4], _, _, _, upd_same, by rw [List.length_append, lx]; rfl, fun j x e => ?_, rfl⟩
        · rw [upd_ne (ne_of_none e hL)]
          exact sAll _ _ (sG _ _ e)
        · rw [off_upd]
          by_cases hj : j < xs.length
          · rw [List.getElem?_append_left hj] at e
            exact (dx j x e).same (off_same L sAll)
          · rw [List.getElem?_append_right (by omega)] at e
            cases hz : j - xs.length with
            | succ z =>
              rw [hz] at e
              simp at e
            | zero =>
              rw [hz] at e
              cases e
              have ej : j = i := by omega
              subst ej
              refine ⟨T4, A2, T3, rfl, ?_, ?_, Tr.tup (n := 4) (xs := []) (ds := []) (by rw [off_at nT3]; exact hT37) rfl (by simp) tr_nil⟩
              · rw [off_at nT4, hT47]
                have e1 : (1 + (j : Int)) = ((j + 1 : Nat) : Int) := by omega
                rw [e1]
                rfl
              · rw [off_at nA2]
                exact hA27
      | false =>
        refine iteF ⟨_, rfl, _, _, rfl, rfl, _, _, rfl, ?_⟩
        show gName 4 (V.int (if ((i % 12 : Nat) : Int) + 1 < 11 then ((i % 12 : Nat) : Int) + 1 else 11)) _ _ _
        have ev : (if ((i % 12 : Nat) : Int) + 1 < 11 then ((i % 12 : Nat) : Int) + 1 else 11) = (lateP false (i + 1) : Int) := by
          show _ = ((min 11 ((i + 1 - 1) % 12 + 1) : Nat) : Int)
          split <;> omega
        rw [ev]
        obtain ⟨l, el⟩ : ∃ l : Nat, l = lateP false (i + 1) := ⟨_, rfl⟩
        rw [← el]
        refine ⟨_, rfl, .inl ⟨rfl, _, SqL.of hxs⟩, ?_⟩
        refine ⟨_, rfl, _, rfl, _, rfl, (by show 2 ≤ sizeLine; omega), fun T1 hT1 => ⟨_, rfl, (by show 2 ≤ sizeLine; omega), fun T2 hT2 => ⟨(by show 2 ≤ sizeLine; omega), fun A1 hA1 => ?_⟩⟩⟩
        have s1 := Same.updf (o := .tup [V.int ((i % 12 : Nat) : Int), V.bl true]) hT1
        have s2 := Same.updf (o := .tup [V.int (l : Int), V.bl true]) hT2
        have s3 := Same.updf (o := .lst [V.ref T1, V.ref T2]) hA1
        refine ⟨A1, [T1, T2], [(ky (i % 12), .bl true), (ky l, .bl true)], rfl, SqL.of upd_same, .cons (SqT.of (s3 _ _ (s2 _ _ upd_same))) (.cons (SqT.of (s3 _ _ upd_same)) .nil), fun dd hdd => ?_⟩
        rw [merge_two]
        have s4 := Same.updf (o := .dK (if i % 12 = l then [(ky (i % 12), V.bl true)] else [(ky (i % 12), V.bl true), (ky l, V.bl true)])) hdd
        refine ⟨dd, _, (if i % 12 = l then [i % 12] else [i % 12, l]).map fun x : Nat => (x : Int), rfl, .inl upd_same, ?_, ?_, fun ns A2 hpm hso hA2 => ?_⟩
        · split <;> rfl
        · rw [List.length_map]
          split <;> simp
        have er : lgR false (i + 1) = if i % 12 = l then [i % 12] else if i % 12 < l then [i % 12, l] else [l, i % 12] := by
          rw [el]
          unfold lgR
          rw [Nat.add_sub_cancel]
        have en : ns = (lgR false (i + 1)).map fun x : Nat => (x : Int) := by
          refine le_uniq (hpm.trans ?_) hso ?_
          · rw [er]
            split
            · exact List.Perm.refl _
            · split
              · exact List.Perm.refl _
              · exact List.Perm.swap _ _ _
          · rw [er]
            refine List.pairwise_map.mpr ?_
            split
            · exact List.pairwise_singleton _ _
            · split
              · exact .cons (fun x m => by rw [List.mem_singleton.mp m]; omega) (List.pairwise_singleton _ _)
              · exact .cons (fun x m => by rw [List.mem_singleton.mp m]; omega) (List.pairwise_singleton _ _)
        subst en
        have mm : ((lgR false (i + 1)).map fun x : Nat => (x : Int)).map V.int = numsV (lgR false (i + 1)) := by
          rw [List.map_map]
          rfl
        rw [mm]
        have s5 := Same.updf (o := .lst (numsV (lgR false (i + 1)))) hA2
        refine ⟨Nat.zero_le _, fun T3 hT3 => ⟨(by show 4 ≤ sizeLine; omega), fun T4 hT4 => ?_⟩⟩
        have s6 := Same.updf (o := .tup []) hT3
        have s7 := Same.updf (o := .tup [V.int (1 + (i : Int)), V.int ((i % 12 : Nat) : Int), V.ref A2, V.ref T3]) hT4
        have sAll := ((s1.trans s2).trans (s3.trans s4)).trans (s5.trans (s6.trans s7))
        have hx7 := sAll _ _ hxs
        have nA2 : A2 ≠ L := (ne_of_none (((s1.trans s2).trans (s3.trans s4)) _ _ hxs) hA2).symm
        have nT3 : T3 ≠ L := (ne_of_none ((((s1.trans s2).trans (s3.trans s4)).trans s5) _ _ hxs) hT3).symm
        have nT4 : T4 ≠ L := (ne_of_none ((((s1.trans s2).trans (s3.trans s4)).trans (s5.trans s6)) _ _ hxs) hT4).symm
        have hA27 := (s6.trans s7) _ _ upd_same
        have hT37 := s7 _ _ upd_same
        have hT47 := upd_same (H := upd (upd (upd (upd (upd (upd G' T1 (.tup [V.int ((i % 12 : Nat) : Int), V.bl true])) T2 (.tup [V.int (l : Int), V.bl true])) A1 (.lst [V.ref T1, V.ref T2])) dd (.dK (if i % 12 = l then [(ky (i % 12), V.bl true)] else [(ky (i % 12), V.bl true), (ky l, V.bl true)]))) A2 (.lst (numsV (lgR false (i + 1))))) T3 (.tup [])) (a := T4) (o := .tup [V.int (1 + (i : Int)), V.int ((i % 12 : Nat) : Int), V.ref A2, V.ref T3])
        refine ⟨L, xs, .ref T4, rfl, rfl, hx7, by omega, ?_⟩
        refine ⟨fun c o e => ?_, xs ++ [.ref T4], _, _, _, upd_same, by rw [List.length_append, lx]; rfl, fun j x e => ?_, rfl⟩
        · rw [upd_ne (ne_of_none e hL)]
          exact sAll _ _ (sG _ _ e)
        · rw [off_upd]
          by_cases hj : j < xs.length
          · rw [List.getElem?_append_left hj] at e
            exact (dx j x e).same (off_same L sAll)
          · rw [List.getElem?_append_right (by omega)] at e
            cases hz : j - xs.length with
            | succ z =>
              rw [hz] at e
              simp at e
            | zero =>
              rw [hz] at e
              cases e
              have ej : j = i := by omega
              subst ej
              refine ⟨T4, A2, T3, rfl, ?_, ?_, Tr.tup (n := 4) (xs := []) (ds := []) (by rw [off_at nT3]; exact hT37) rfl (by simp) tr_nil⟩
              · rw [off_at nT4, hT47]
                have e1 : (1 + (j : Int)) = ((j + 1 : Nat) : Int) := by omega
                rw [e1]
                rfl
              · rw [off_at nA2]
                exact hA27
    · rintro σ G ⟨sG, xs, v2, v3, v4, hxs, lx, dx, rfl⟩
      have ll : (longL rg).length = 24 := by cases rg <;> rfl
      refine ⟨_, rfl, k L G sG hL ⟨xs, hxs, by omega, fun j x d e1 e2 => ?_⟩⟩
      unfold longL at e2
      have lj : j < 24 := by
        have := (List.getElem?_eq_some_iff.mp e1).1
        omega
      rw [List.getElem?_map, List.getElem?_eq_getElem (by simpa using lj)] at e2
      simp at e2
      subst e2
      exact (dx j x e1).same (off_le _ _)
end
end K21
set_option Elab.async false
set_option linter.all false
set_option maxRecDepth 100000
set_option maxHeartbeats 8000000
namespace K21
open PySem PySem.Spec PyProof.Rows L2 KB LiI
def spWas : Sp := fun vs H Q _ => ∃ (a : Addr) (y : V) (ds : List Dd) (d : Dd), vs = [.ref a, y] ∧ LogAt H a ds ∧ Lg ds ∧ d ∈ ds ∧ DeedAt H y d ∧ ∀ q H', Same H H' → H q = none → MkAt H' q d.r (mkAt ds ((d.n : Int) - 1)) → Q (.ref q) H'
section
variable {P : Program} {w : World} {K : PySem.W.Frag} {mg : Str → Option Value} {base : Heap}
abbrev s_was : Stmt := top 53
abbrev N_was : List Str := ["_law_log_here", "_law_deed", "_law_ahead", "_law_page"]
theorem sc_was : FnScope N_was ["_law_log_here", "_law_deed"] (defScope s_was) := ⟨rfl, rfl, rfl, by decide +kernel, rfl, by decide +kernel, by decide +kernel⟩
theorem ok_was {f : Addr} {fd : FuncData} (F : FnP K "_law_was" s_was f fd) (Z : FreeS mg)
    {f_marks_at : Addr} {d_marks_at : FuncData} (g_marks_at : mg "_law_marks_at" = some (.ref f_marks_at)) (F_marks_at : FnP K "_law_marks_at" s_marks_at f_marks_at d_marks_at) (G_marks_at : FnOk P w K mg base CX0 2 f_marks_at d_marks_at ["_law_log_here", "_law_number"] spMarksAt) :
    FnOk P w K mg base CX0 3 f fd ["_law_log_here", "_law_deed"] spWas := by
  have b_marks_at : Binds K d_marks_at ["_law_log_here", "_law_number"] [] := F_marks_at.bindsN fun _ _ _ _ _ _ us hl => match us, hl with | [_, _], _ => rfl
  refine F.ok sc_was (fun vs H Q E h => ?_) (fun cdv A outer s H vs Q E hr h => ?_)
  · obtain ⟨a, y, ds, d, rfl, _⟩ := h
    rfl
  · obtain ⟨a, y, ds, d, rfl, hL, hG, hd, hy, k⟩ := h
    have sl : (2000 : Nat) ≤ sizeLine := by decide
    have hu : (A.deeper (envOfC "_law_was" (defScope s_was) s.heap.objs.size f cdv)).units + 1 < cLine := by
      have := hr.units
      omega
    have nd := sc_was.nd
    refine ⟨_, PSs.nox (pss_cons (ps_set (i := 2) nd rfl (Or.inr rfl) (pe_call G_marks_at (hr.mono (by decide)) rfl g_marks_at F_marks_at.kp b_marks_at .nil pass0 (pa_cons (pv 0) (pa_cons (pe_op op_sub (pe_ix ix_tup (pv 1) (pe_int) (fun _ _ => rfl)) (pe_int)) (pa_nil)))))
      (pss_one (ps_ret (pe_callTy (call_dictPR rfl) (by rfl) Z.tdict (by decide +kernel) (pa_cons (pe_lc (own := [("_law_page", 3)]) (g := gName 3) (tt := tYes) (te := tTup (tCons (tVar 3) (tCons (tDGet (tVar 2) (tVar 3)) (tNil)))) (by rfl) nd (pi_list (pe_ix ix_tup (pv 1) (pe_int) (fun _ _ => rfl)))
          (blkOk_by (own := [("_law_page", 3)]) (N := N_was) (sc := defScope s_was) (by decide +kernel)) (fun _ _ _ _ _ => pg_name (i := 3) nd rfl (Or.inl rfl)) (fun _ _ _ _ _ => pts_nil)
          (fun _ _ _ _ _ => pe_tup (pa_cons (pv 3) (pa_cons (pe_dget hu (pv 2) (pv 3) (fun _ _ => rfl)) (pa_nil))))) (pa_nil)))))), ?_⟩
    obtain ⟨t, rd, tw, rfl, ht, hr1, _⟩ := id hy
    refine ⟨_, rfl, _, rfl, t, _, 0, _, rfl, rfl, SqT.of ht, rfl, _, _, rfl, rfl, a, _, ds, rfl, hL, hG, fun q G1 s1 nq hm => ?_⟩
    have hl := s1 _ _ hr1
    refine ⟨_, rfl, t, _, 2, _, rfl, rfl, SqT.of (s1 _ _ ht), rfl, rd, rfl, ⟨_, SqL.of hl⟩, fun D hD => ?_⟩
    have lr : (numsV d.r).length = d.r.length := List.length_map _
    have l20 := (hG.ok d hd).len
    have ndr : d.r.Nodup := (hG.ok d hd).asc.imp fun h => Nat.ne_of_lt h
    refine lc_rel (walk_list (K := K) (a := rd) (xs := numsV d.r)) (fun _ => true) (fun i y G => ∃ T, y = .ref T ∧ G T = some (.tup [kV (ky (d.r.getD i 0)), .int (mkAt ds ((d.n : Int) - 1) (d.r.getD i 0) : Int)])) (fun i y G G' s1 ⟨T, e, h⟩ => ⟨T, e, s1 _ _ h⟩) (by omega) hD (fun G s2 => SqL.of (s2 _ _ hl)) ?_ ?_
    · rintro i x G G' Qy Qn hi s2 ⟨acc, hacc⟩ ⟨rfl, hv⟩ ky_ kn
      have li : i < d.r.length := by omega
      unfold numsV at hv
      rw [List.getElem?_map, List.getElem?_eq_getElem li] at hv
      obtain rfl := Option.some.inj hv
      have mp : d.r[i] ∈ pgs ds := pgs_mem.mpr ⟨d, hd, List.getElem_mem li⟩
      have dg : DGet G' q (.int (d.r[i] : Int)) (some (.int (mkAt ds ((d.n : Int) - 1) d.r[i] : Int))) := by
        have := DGet.k (k := ky d.r[i]) (s2 _ _ hm)
        rw [mV_val mp] at this
        exact this
      refine ⟨rfl, _, rfl, _, rfl, _, rfl, q, _, rfl, dg, (by show 2 ≤ sizeLine; omega), fun T hT => ky_ _ _ rfl (Same.updf hT) ⟨T, rfl, ?_⟩⟩
      rw [off_at (ne_of_none hacc hT).symm, upd_same, List.getD_eq_getElem?_getD, List.getElem?_eq_getElem li]
      rfl
    · rintro G ys s2 hys py
      rw [lr, filter_true] at py
      obtain ⟨ts, rfl, pt⟩ := pairs_addr (K := K) (f := fun i => (ky (d.r.getD i 0), V.int (mkAt ds ((d.n : Int) - 1) (d.r.getD i 0) : Int))) (paired_mono (fun i y ⟨T, e, h⟩ => ⟨T, e, off_le _ _ _ _ h⟩) py)
      rw [range_map_get d.r fun p => V.int (mkAt ds ((d.n : Int) - 1) p : Int)] at pt
      refine ⟨D, ts, _, rfl, SqL.of hys, pt, fun q2 hq2 => ?_⟩
      rw [merge_dV0 ndr]
      exact k q2 _ ((s1.trans s2).trans (Same.updf hq2)) (none_back (s1.trans s2) hq2) upd_same
end
end K21
set_option Elab.async false
set_option linter.all false
set_option maxRecDepth 100000
set_option maxHeartbeats 8000000
namespace K21
open PySem PySem.Spec PyProof.Rows L2 KB LiI
def spDoneA : Sp := fun vs H Q _ => ∃ (a b c : Addr) (ds : List Dd) (m : Nat → Nat) (ns : List Nat), vs = [.ref a, .ref b, .ref c] ∧ LogAt H a ds ∧ Lg ds ∧ MkAt H b (pgs ds) m ∧ H c = some (.lst (numsV ns)) ∧ ns.length ≤ 60 ∧
  ∀ q (g : Nat → V) H', Same H H' → H q = none → H' q = some (.dK (dV (pgs ds) g)) → (∀ p ∈ pgs ds, WAt H' (g p) (walN ds m ns ds p)) → Q (.ref q) H'
section
variable {P : Program} {w : World} {K : PySem.W.Frag} {mg : Str → Option Value} {base : Heap}
abbrev s_done_again : Stmt := top 54
abbrev N_done_again : List Str := ["_law_log_here", "_law_marks_here", "_law_numbers", "_law_found", "_law_deed", "_law_was_here", "_law_is_same", "_law_page"]
theorem sc_done_again : FnScope N_done_again ["_law_log_here", "_law_marks_here", "_law_numbers"] (defScope s_done_again) := ⟨rfl, rfl, rfl, by decide +kernel, rfl, by decide +kernel, by decide +kernel⟩
theorem ok_done_again {f : Addr} {fd : FuncData} (F : FnP K "_law_done_again" s_done_again f fd) (Z : FreeS mg)
    {f_was : Addr} {d_was : FuncData} (g_was : mg "_law_was" = some (.ref f_was)) (F_was : FnP K "_law_was" s_was f_was d_was) (G_was : FnOk P w K mg base CX0 3 f_was d_was ["_law_log_here", "_law_deed"] spWas) :
    FnOk P w K mg base CX0 4 f fd ["_law_log_here", "_law_marks_here", "_law_numbers"] spDoneA := by
  have b_was : Binds K d_was ["_law_log_here", "_law_deed"] [] := F_was.bindsN fun _ _ _ _ _ _ us hl => match us, hl with | [_, _], _ => rfl
  refine F.ok sc_done_again (fun vs H Q E h => ?_) (fun cdv A outer s H vs Q E hr h => ?_)
  · obtain ⟨a, b, c, ds, m, ns, rfl, _⟩ := h
    rfl
  · obtain ⟨a, b, c, ds, m, ns, rfl, hL, hG, hb, hc, ln, k⟩ := h
    obtain ⟨xs, ha, lx, hx⟩ := id hL
    have l60 := hG.len
    have pl := hG.pl
    have sl : (2000 : Nat) ≤ sizeLine := by decide
    have hu65 : _ + 65 < cLine := Nat.lt_of_le_of_lt (Nat.add_le_add_left (by decide : 65 ≤ 200) _) (Nat.lt_of_le_of_lt (Nat.add_le_add_right (Nat.le_add_right _ _) _) hr.un)
    have hu := Nat.lt_of_le_of_lt (Nat.add_le_add_left (by decide : 1 ≤ 65) _) hu65
    have hu64 := Nat.lt_of_le_of_lt (Nat.add_le_add_left (by decide : 64 ≤ 65) _) hu65
    have hu0 := Nat.lt_of_succ_lt hu
    have nd := sc_done_again.nd
    refine ⟨_, PSs.nox (pss_cons (ps_set (i := 3) nd rfl (Or.inr rfl) (pe_callTy call_dictDR (by rfl) Z.tdict (by decide +kernel) (pa_cons (pv 1) pa_nil)))
      (pss_cons (ps_for PassesOwn.never rfl (pi_list (pv 0)) (pg_name (i := 4) nd rfl (Or.inl rfl))
        (pss_one (ps_if (pt_cmpR op_in_seq (pe_ix ix_tup (pv 4) (pe_int) (fun _ _ => rfl)) (pv 2) (by rfl)) (pss_cons (ps_set (i := 5) nd rfl (Or.inr rfl) (pe_call G_was (hr.mono (by decide)) rfl g_was F_was.kp b_was .nil pass0 (pa_cons (pv 0) (pa_cons (pv 4) (pa_nil)))))
      (pss_cons (ps_set (i := 6) nd rfl (Or.inl rfl) (pe_callB (cr_all rfl) (by rfl) Z.all (by decide +kernel) (pa_cons (pe_lc (own := [("_law_page", 7)]) (g := gName 7) (tt := tYes) (te := tOp (rEqD K) (tDGet (tVar 3) (tVar 7)) (tDGet (tVar 5) (tVar 7))) (by rfl) nd (pi_list (pe_ix ix_tup (pv 4) (pe_int) (fun _ _ => rfl)))
          (blkOk_by (own := [("_law_page", 7)]) (N := N_done_again) (sc := defScope s_done_again) (by decide +kernel)) (fun _ _ _ _ _ => pg_name (i := 7) nd rfl (Or.inl rfl)) (fun _ _ _ _ _ => pts_nil)
          (fun _ _ _ _ _ => pe_cmpR (op_eqD hu64) (pe_dget hu (pv 3) (pv 7) (fun _ _ => rfl)) (pe_dget hu (pv 5) (pv 7) (fun _ _ => rfl)) (nomark _))) (pa_nil))))
      (pss_one (ps_dput hu (pv 3) (pe_ix ix_tup (pv 4) (pe_int) (fun _ _ => rfl)) (pe_ifExp (pt_truth (pv 6) (fun _ => rfl)) (pe_ix ix_tup (pv 4) (pe_int) (fun _ _ => rfl)) (pe_tup (pa_cons (pe_str) (pa_cons (pe_ix ix_tup (pv 4) (pe_int) (fun _ _ => rfl)) (pa_nil))))) rfl)))) (pss_nil))))
      (pss_one (ps_ret (pv 3))))), ?_⟩
    refine ⟨_, rfl, b, _, rfl, .inl hb, fun S hS => ?_⟩
    have uS := upd_same (H := H) (a := S) (o := .dK (mV (pgs ds) m))
    have sU : Same H (upd H S (.dK (mV (pgs ds) m))) := Same.updf hS
    generalize upd H S (.dK (mV (pgs ds) m)) = U at *
    refine ⟨_, rfl, a, rfl, ⟨_, SqL.of (sU _ _ ha)⟩, ?_⟩
    refine for_it (walk_list (K := K) (a := a) (xs := xs)) (fun i σ G => Same H G ∧ (∃ g, G S = some (.dK (dV (pgs ds) g)) ∧ ∀ p ∈ pgs ds, WAt (off G S) (g p) (walN ds m ns (ds.take i) p)) ∧ ∃ v4 v5 v6, σ = [some (.ref a), some (.ref b), some (.ref c), some (.ref S), v4, v5, v6, none])
      ⟨sU, ⟨_, uS, fun p hp => .inl ⟨rfl, rfl⟩⟩, _, _, _, rfl⟩ (fun i σ G _ hh => SqL.of (hh.1 _ _ ha)) ?_ ?_
    · rintro i x σ G8 G hi ⟨sG, ⟨g, gG, gw⟩, v4, v5, v6, rfl⟩ ⟨rfl, hv⟩
      have li : i < ds.length := by omega
      have hdi : ds[i]? = some ds[i] := List.getElem?_eq_getElem li
      have md : ds[i] ∈ ds := List.getElem_mem li
      have etk : ds.take (i + 1) = ds.take i ++ [ds[i]] := by
        rw [List.take_succ, hdi]
        rfl
      have hdx := (hx i x _ hv hdi).same sG
      obtain ⟨t, rd, tw, rfl, ht, hr1, _⟩ := id hdx
      have hcG := sG _ _ hc
      have own := own_pg hG md
      refine ⟨_, rfl, t, _, 0, _, rfl, rfl, SqT.of ht, rfl, _, rfl, c, _, rfl, Or.inl (SqL.of hcG), rfl, flat_nums _, ?_⟩
      rw [inV_iff]
      by_cases mem : ds[i].n ∈ ns
      · rw [decide_eq_true mem]
        refine ⟨_, rfl, iteT ?_⟩
        have l20 := (hG.ok _ md).len
        have lr : (numsV ds[i].r).length = ds[i].r.length := List.length_map _
        obtain ⟨P0, eP0⟩ : ∃ P0 : Nat → Bool, P0 = fun r => decide (walN ds m ns (ds.take i) r = (mkAt ds ((ds[i].n : Int) - 1) r, true)) := ⟨_, rfl⟩
        refine ⟨_, rfl, _, rfl, a, .ref t, ds, ds[i], rfl, hL.same sG, hG, md, hdx, fun q G9 s9 nq hm => ?_⟩
        have hr9 := s9 _ _ hr1
        have ht9 := s9 _ _ ht
        have gS9 := s9 _ _ gG
        have l30 : (dV (pgs ds) g).length ≤ 30 := by
          rw [dV_len]
          exact pl
        refine ⟨_, rfl, t, _, 2, _, rfl, rfl, SqT.of ht9, rfl, rd, rfl, ⟨_, SqL.of hr9⟩, fun D3 hD3 => ?_⟩
        refine lc_sel (walk_list (K := K) (a := rd) (xs := numsV ds[i].r)) (fun j => some (V.bl (P0 (ds[i].r.getD j 0)))) (by omega) hD3 (fun G s8 => SqL.of (s8 _ _ hr9)) ?_ ?_
        · rintro j x G9' G10 Qy Qn hj s10 ⟨rfl, hv2⟩ ky_ kn
          have lj : j < ds[i].r.length := by omega
          unfold numsV at hv2
          rw [List.getElem?_map, List.getElem?_eq_getElem lj] at hv2
          obtain rfl := Option.some.inj hv2
          have er : ds[i].r.getD j 0 = ds[i].r[j] := by
            rw [List.getD_eq_getElem?_getD, List.getElem?_eq_getElem lj]
            rfl
          rw [er] at ky_
          have mr : ds[i].r[j] ∈ ds[i].r := List.getElem_mem lj
          have mp : ds[i].r[j] ∈ pgs ds := pgs_mem.mpr ⟨ds[i], md, mr⟩
          generalize ds[i].r[j] = r at *
          have dS : DGet G10 S (.int (r : Int)) (some (g r)) := by
            have := DGet.k (k := ky r) (s10 _ _ gS9)
            rw [dV_val mp] at this
            exact this
          have dF : DGet G10 q (.int (r : Int)) (some (.int (mkAt ds ((ds[i].n : Int) - 1) r : Int))) := by
            have := DGet.k (k := ky r) (s10 _ _ hm)
            rw [mV_val mr] at this
            exact this
          have hw := ((gw r mp).same fun c o e => (s9.trans s10) _ _ (off_le _ _ _ _ e) : WAt G10 (g r) _)
          have ep : P0 r = decide (walN ds m ns (ds.take i) r = (mkAt ds ((ds[i].n : Int) - 1) r, true)) := by rw [eP0]
          rcases hw with ⟨e1, e2⟩ | ⟨e1, T, e2, hT⟩
          · have ev : PyData.eqv (.int ((walN ds m ns (ds.take i) r).1 : Int)) (.int (mkAt ds ((ds[i].n : Int) - 1) r : Int)) = P0 r := by
              rw [ep, Bool.eq_iff_iff]
              have z : walN ds m ns (ds.take i) r = ((walN ds m ns (ds.take i) r).1, true) := by rw [← e1]
              rw [z]
              simp [PyData.eqv]
              omega
            refine ⟨rfl, _, rfl, _, rfl, S, g r, rfl, dS, _, rfl, _, rfl, q, _, rfl, dF, .int ((walN ds m ns (ds.take i) r).1 : Int), .int (mkAt ds ((ds[i].n : Int) - 1) r : Int), by rw [e2]; exact .int _, .int _, rfl, rfl, ?_⟩
            rw [ev]
            exact ky_ _ _ (Same.refl _) rfl
          · have ev : PyData.eqv (.tuple [.str (Str.ofString "odd"), .int ((walN ds m ns (ds.take i) r).1 : Int)]) (.int (mkAt ds ((ds[i].n : Int) - 1) r : Int)) = P0 r := by
              have z : walN ds m ns (ds.take i) r ≠ (mkAt ds ((ds[i].n : Int) - 1) r, true) := fun z => by
                rw [z] at e1
                cases e1
              rw [ep, decide_eq_false z]
              rfl
            refine ⟨rfl, _, rfl, _, rfl, S, g r, rfl, dS, _, rfl, _, rfl, q, _, rfl, dF, _, _, by rw [e2]; exact .tup (SqT.of hT) (.cons (.str _) (.cons (.int _) .nil)), .int _, shaped_odd _, rfl, ?_⟩
            rw [ev]
            exact ky_ _ _ (Same.refl _) rfl
        · intro G10 s10 hR9
          have eb : ((List.range (numsV ds[i].r).length).filterMap fun j => some (V.bl (P0 (ds[i].r.getD j 0)))) = ((List.range ds[i].r.length).map fun j => P0 (ds[i].r.getD j 0)).map V.bl := by
            rw [lr, List.filterMap_eq_map', List.map_map]
            rfl
          rw [eb] at hR9
          have ea : ((List.range ds[i].r.length).map fun j => P0 (ds[i].r.getD j 0)).all id = ds[i].r.all P0 := by
            have e : ds[i].r = (List.range ds[i].r.length).map fun j => ds[i].r.getD j 0 := by
              refine List.ext_getElem (by simp) fun j h1 h2 => ?_
              simp [h1]
            conv => rhs; rw [e]
            rw [List.all_map, List.all_map]
            rfl
          have s90 := s9.trans s10
          have s19 := sG.trans s90
          have gS10 := s90 _ _ gG
          have ht10 := s90 _ _ ht
          have ew : walN ds m ns (ds.take (i + 1)) = fun p => if p = ds[i].p then (ds[i].n, ds[i].r.all P0) else walN ds m ns (ds.take i) p := by
            rw [etk, walN_snoc]
            unfold stepW
            rw [if_pos mem, eP0]
          refine ⟨D3, _, rfl, SqL.of hR9, ?_⟩
          rw [ea]
          have keepO : ∀ J : Hp, (∀ c o, c ≠ S → G c = some o → J c = some o) → Same (off G S) (off J S) := fun J kk c o e => by
            have n1 : c ≠ S := fun z => by
              unfold off at e
              rw [if_pos z] at e
              cases e
            rw [off_at n1] at e ⊢
            exact kk c o n1 e
          cases hq : ds[i].r.all P0 with
          | true =>
            refine ⟨_, rfl, true, rfl, iteT ?_⟩
            refine ⟨_, rfl, t, _, 0, _, rfl, rfl, SqT.of ht10, rfl, _, rfl, _, rfl, t, _, 1, _, rfl, rfl, SqT.of ht10, rfl, S, _, rfl, DPut.k (k := ky ds[i].p) gS10 (by omega), ?_⟩
            rw [dV_put own]
            refine ⟨fun c o e => ?_, ⟨_, upd_same, fun x hx2 => ?_⟩, _, _, _, rfl⟩
            · rw [upd_ne (ne_of_none e hS)]
              exact s19 _ _ e
            · rw [ew]
              dsimp only
              unfold put
              by_cases z : x = ds[i].p
              · rw [if_pos z, if_pos z, hq]
                exact .inl ⟨rfl, rfl⟩
              · rw [if_neg z, if_neg z]
                exact (gw x hx2).same (keepO _ fun c o n1 e => by
                  rw [upd_ne n1]
                  exact s90 _ _ e)
          | false =>
            refine ⟨_, rfl, false, rfl, iteF ?_⟩
            refine ⟨_, rfl, t, _, 0, _, rfl, rfl, SqT.of ht10, rfl, (by show 2 ≤ sizeLine; omega), fun T hT => ?_⟩
            have s11 := Same.updf (o := .tup [.str (Str.ofString "odd"), .int (ds[i].n : Int)]) hT
            have hT11 := upd_same (H := G10) (a := T) (o := .tup [.str (Str.ofString "odd"), .int (ds[i].n : Int)])
            have gS11 := s11 _ _ gS10
            have ht11 := s11 _ _ ht10
            have nTS : T ≠ S := (ne_of_none gS10 hT).symm
            have s20 := s90.trans s11
            have s21 := sG.trans s20
            generalize upd G10 T (.tup [.str (Str.ofString "odd"), .int (ds[i].n : Int)]) = G11 at *
            refine ⟨_, rfl, _, rfl, t, _, 1, _, rfl, rfl, SqT.of ht11, rfl, S, _, rfl, DPut.k (k := ky ds[i].p) gS11 (by omega), ?_⟩
            rw [dV_put own]
            refine ⟨fun c o e => ?_, ⟨_, upd_same, fun x hx2 => ?_⟩, _, _, _, rfl⟩
            · rw [upd_ne (ne_of_none e hS)]
              exact s21 _ _ e
            · rw [ew]
              dsimp only
              unfold put
              by_cases z : x = ds[i].p
              · rw [if_pos z, if_pos z, hq]
                refine .inr ⟨rfl, T, rfl, ?_⟩
                rw [off_at nTS, upd_ne nTS]
                exact hT11
              · rw [if_neg z, if_neg z]
                exact (gw x hx2).same (keepO _ fun c o n1 e => by
                  rw [upd_ne n1]
                  exact s20 _ _ e)
      · rw [decide_eq_false mem]
        refine ⟨_, rfl, iteF ?_⟩
        have ew : walN ds m ns (ds.take (i + 1)) = walN ds m ns (ds.take i) := by
          rw [etk, walN_snoc]
          unfold stepW
          rw [if_neg mem]
        refine ⟨sG, ⟨g, gG, by rw [ew]; exact gw⟩, _, _, _, rfl⟩
    · rintro σ G ⟨sG, ⟨g, gG, gw⟩, v4, v5, v6, rfl⟩
      rw [lx, List.take_length] at gw
      exact ⟨_, rfl, k S g G sG hS gG fun p hp => (gw p hp).same (off_le _ _)⟩
end
end K21
set_option Elab.async false
set_option linter.all false
set_option maxRecDepth 100000
set_option maxHeartbeats 8000000
namespace K21
open PySem PySem.Spec PyProof.Rows L2 KB LiI
/-- all lists within a list, in its order -/
def subs (l : List Nat) : List (List Nat) := l.foldl (fun acc x => acc ++ acc.map (· ++ [x])) [[]]
theorem subs_snoc (l : List Nat) (x : Nat) : subs (l ++ [x]) = subs l ++ (subs l).map (· ++ [x]) := List.foldl_append ..
theorem snoc_ind {F : List Nat → Prop} (h0 : F []) (h1 : ∀ l x, F l → F (l ++ [x])) (l : List Nat) : F l := by
  rw [← List.reverse_reverse l]
  induction l.reverse with
  | nil => exact h0
  | cons x t ih =>
    rw [List.reverse_cons]
    exact h1 _ _ ih
theorem subs_len (l : List Nat) : (subs l).length = 2 ^ l.length := by
  refine snoc_ind (F := fun l => (subs l).length = 2 ^ l.length) rfl (fun l x ih => ?_) l
  show (subs (l ++ [x])).length = _
  rw [subs_snoc, List.length_append, List.length_map, ih, List.length_append, List.length_singleton, Nat.pow_succ]
  omega
theorem subs_le {l : List Nat} : ∀ s ∈ subs l, s.length ≤ l.length := by
  refine snoc_ind (F := fun l => ∀ s ∈ subs l, s.length ≤ l.length) (fun s h => ?_) (fun l x ih s h => ?_) l
  · rw [List.mem_singleton.mp h]
    exact Nat.le_refl _
  · rw [subs_snoc] at h
    rw [List.length_append, List.length_singleton]
    rcases List.mem_append.mp h with h | h
    · have := ih s h
      omega
    · obtain ⟨t, ht, rfl⟩ := List.mem_map.mp h
      have := ih t ht
      rw [List.length_append, List.length_singleton]
      omega
/-- y is a list of the numbers s, made since B -/
def LsAt (B G : Hp) (s : List Nat) (y : V) : Prop := ∃ b, y = .ref b ∧ B b = none ∧ G b = some (.lst (numsV s))
theorem LsAt.same {B G G' : Hp} (k : Same G G') {s : List Nat} {y : V} : LsAt B G s y → LsAt B G' s y := fun ⟨b, e, n, h⟩ => ⟨b, e, n, k _ _ h⟩
theorem LsAt.base {B B' G : Hp} (k : Same B B') {s : List Nat} {y : V} : LsAt B' G s y → LsAt B G s y := fun ⟨b, e, n, h⟩ => ⟨b, e, none_back k n, h⟩
def spLists : Sp := fun vs H Q _ => ∃ (a : Addr) (l : List Nat), vs = [.ref a] ∧ H a = some (.lst (numsV l)) ∧ l.length ≤ 6 ∧
  ∀ q ys H', Same H H' → H q = none → H' q = some (.lst ys) → Paired (LsAt H H') (subs l) ys → Q (.ref q) H'
section
variable {P : Program} {w : World} {K : PySem.W.Frag} {mg : Str → Option Value} {base : Heap}
abbrev s_lists : Stmt := top 46
abbrev N_lists : List Str := ["_law_things", "_law_found", "_law_thing", "_law_some"]
theorem sc_lists : FnScope N_lists ["_law_things"] (defScope s_lists) := ⟨rfl, rfl, rfl, by decide +kernel, rfl, by decide +kernel, by decide +kernel⟩
theorem ok_lists {f : Addr} {fd : FuncData} (F : FnP K "_law_lists" s_lists f fd) (Z : FreeS mg) :
    FnOk P w K mg base CX0 1 f fd ["_law_things"] spLists := by
  refine F.ok sc_lists (fun vs H Q E h => ?_) (fun cdv A outer s H vs Q E hr h => ?_)
  · obtain ⟨a, l, rfl, _⟩ := h
    rfl
  · obtain ⟨a, l, rfl, ha, l6, k⟩ := h
    have sl : (3000 : Nat) ≤ sizeLine := by decide
    have nd := sc_lists.nd
    refine ⟨_, PSs.nox (pss_cons (ps_set (i := 1) nd rfl (Or.inl rfl) (pe_lst (pa_cons (pe_lst (pa_nil)) (pa_nil))))
      (pss_cons (ps_for PassesOwn.never rfl (pi_list (pv 0)) (pg_name (i := 2) nd rfl (Or.inr rfl))
        (pss_one (ps_set (i := 1) nd rfl (Or.inl rfl) (pe_op op_cat (pv 1) (pe_lc (own := [("_law_some", 3)]) (g := gName 3) (tt := tYes) (te := tOp rCat (tVar 3) (tLst (tCons (tVar 2) (tNil)))) (by rfl) nd (pi_list (pv 1))
          (blkOk_by (own := [("_law_some", 3)]) (N := N_lists) (sc := defScope s_lists) (by decide +kernel)) (fun _ _ _ _ _ => pg_name (i := 3) nd rfl (Or.inl rfl)) (fun _ _ _ _ _ => pts_nil)
          (fun _ _ _ _ _ => pe_op op_cat (pv 3) (pe_lst (pa_cons (pv 2) (pa_nil)))))))))
      (pss_one (ps_ret (pv 1))))), ?_⟩
    refine ⟨Nat.zero_le _, fun E hE => ⟨(by show 1 ≤ sizeLine; omega), fun L0 hL0 => ?_⟩⟩
    have s0 := Same.updf (o := .lst []) hE
    have s1 := s0.trans (Same.updf (o := .lst [V.ref E]) hL0)
    have nE : E ≠ L0 := ne_of_none upd_same hL0
    have ln : (numsV l).length = l.length := List.length_map _
    refine ⟨_, rfl, a, rfl, ⟨_, SqL.of (s1 _ _ ha)⟩, ?_⟩
    refine for_it (walk_list (K := K) (a := a) (xs := numsV l)) (fun i σ G => Same H G ∧ ∃ L ys v2, G L = some (.lst ys) ∧ H L = none ∧ Paired (LsAt H G) (subs (l.take i)) ys ∧ σ = [some (.ref a), some (.ref L), v2, none])
      ⟨s1, L0, [.ref E], _, upd_same, none_back s0 hL0, .cons ⟨E, rfl, hE, by rw [upd_ne nE, upd_same]; rfl⟩ .nil, rfl⟩ (fun i σ G _ hh => SqL.of (hh.1 _ _ ha)) ?_ ?_
    · rintro i x σ G G' hi ⟨sG, L, ys, v2, hys, nL, py, rfl⟩ ⟨rfl, hv⟩
      have li : i < l.length := by omega
      unfold numsV at hv
      rw [List.getElem?_map, List.getElem?_eq_getElem li] at hv
      obtain rfl := Option.some.inj hv
      have lp := paired_len py
      rw [subs_len, List.length_take] at lp
      have p2 : 2 ^ (min i l.length) ≤ 2 ^ 5 := Nat.pow_le_pow_right (by decide) (by omega)
      have etk : l.take (i + 1) = l.take i ++ [l[i]] := tk_snocN li
      refine ⟨_, rfl, _, rfl, L, rfl, ⟨_, SqL.of hys⟩, fun D hD => ?_⟩
      refine lc_rel (walk_list (K := K) (a := L) (xs := ys)) (fun _ => true) (fun j y G => LsAt H G ((subs (l.take i)).getD j [] ++ [l[i]]) y) (fun j y G G' s1 h => h.same s1) (by omega) hD (fun G s2 => SqL.of (s2 _ _ hys)) ?_ ?_
      · rintro j y G3 G4 Qy Qn hj s3 ⟨acc, hacc⟩ ⟨rfl, hy⟩ ky_ kn
        obtain ⟨s, es, b, rfl, nb, hb⟩ := paired_get2 py hy
        have eg : (subs (l.take i)).getD j [] = s := by
          rw [List.getD_eq_getElem?_getD, es]
          rfl
        rw [eg] at ky_
        have hb4 := s3 _ _ hb
        have ls : s.length ≤ 6 := by
          have := subs_le s (List.mem_of_getElem? es)
          rw [List.length_take] at this
          omega
        refine ⟨rfl, _, rfl, _, rfl, (by show 1 ≤ sizeLine; omega), fun A1 hA1 => ?_⟩
        have s4 := Same.updf (o := .lst [V.int (l[i] : Int)]) hA1
        refine ⟨b, A1, numsV s, [.int (l[i] : Int)], rfl, rfl, s4 _ _ hb4, upd_same, (by unfold numsV; rw [List.length_map]; show _ + 1 ≤ sizeLine; omega), fun A2 hA2 => ?_⟩
        have s5 := Same.updf (o := .lst (numsV s ++ [V.int (l[i] : Int)])) hA2
        refine ky_ _ _ rfl (s4.trans s5) ⟨A2, rfl, none_back ((sG.trans s3).trans s4) hA2, ?_⟩
        rw [off_at (fun z => by
            rw [z] at hA2
            rw [s4 _ _ hacc] at hA2
            cases hA2), upd_same, numsV_snoc]
      · rintro G3 zs s3 hzs pz
        rw [filter_true] at pz
        have lz := paired_len pz
        rw [List.length_range] at lz
        refine ⟨L, D, ys, zs, rfl, rfl, s3 _ _ hys, hzs, by omega, fun L2 hL2 => ?_⟩
        have s4 := Same.updf (o := .lst (ys ++ zs)) hL2
        refine ⟨(sG.trans s3).trans s4, L2, ys ++ zs, _, upd_same, none_back (sG.trans s3) hL2, ?_, rfl⟩
        rw [etk, subs_snoc]
        refine paired_app (paired_mono (fun s y h => h.same (s3.trans s4)) py) ?_
        have e : (subs (l.take i)).map (· ++ [l[i]]) = (List.range ys.length).map fun j => (subs (l.take i)).getD j [] ++ [l[i]] := by
          have := paired_len py
          refine List.ext_getElem (by simp [this]) fun j h1 h2 => ?_
          simp at h1
          simp [h1]
        rw [e]
        exact paired_map (paired_mono (fun j y h => (LsAt.same (off_le _ _) h).same s4) pz)
    · rintro σ G ⟨sG, L, ys, v2, hys, nL, py, rfl⟩
      rw [ln, List.take_length] at py
      exact ⟨_, rfl, k L ys G sG nL hys py⟩
end
end K21
set_option Elab.async false
set_option linter.all false
set_option maxRecDepth 100000
set_option maxHeartbeats 8000000
namespace K21
open PySem PySem.Spec PyProof.Rows L2 KB
theorem filter_subs (c : Nat → Bool) (l : List Nat) : l.filter c ∈ subs l := by
  refine snoc_ind (F := fun l => l.filter c ∈ subs l) (List.mem_singleton.mpr rfl) (fun l x ih => ?_) l
  show (l ++ [x]).filter c ∈ subs (l ++ [x])
  rw [subs_snoc, List.filter_append]
  by_cases h : c x = true
  · have e : [x].filter c = [x] := by simp [h]
    rw [e]
    exact List.mem_append.mpr (.inr (List.mem_map.mpr ⟨_, ih, rfl⟩))
  · have e : [x].filter c = [] := by simp [h]
    rw [e, List.append_nil]
    exact List.mem_append.mpr (.inl ih)
theorem subs_sub {l : List Nat} : ∀ s ∈ subs l, ∀ x ∈ s, x ∈ l := by
  refine snoc_ind (F := fun l => ∀ s ∈ subs l, ∀ x ∈ s, x ∈ l) (fun s h x hx => ?_) (fun l y ih s h x hx => ?_) l
  · rw [List.mem_singleton.mp h] at hx
    cases hx
  · rw [subs_snoc] at h
    rcases List.mem_append.mp h with h | h
    · exact List.mem_append.mpr (.inl (ih s h x hx))
    · obtain ⟨t, ht, rfl⟩ := List.mem_map.mp h
      rcases List.mem_append.mp hx with hx | hx
      · exact List.mem_append.mpr (.inl (ih t ht x hx))
      · exact List.mem_append.mpr (.inr hx)
theorem subs_eq {l : List Nat} : l.Nodup → ∀ s ∈ subs l, ∀ t ∈ subs l, (∀ x ∈ l, (x ∈ s ↔ x ∈ t)) → s = t := by
  refine snoc_ind (F := fun l => l.Nodup → ∀ s ∈ subs l, ∀ t ∈ subs l, (∀ x ∈ l, (x ∈ s ↔ x ∈ t)) → s = t) (fun _ s hs t ht _ => ?_) (fun l y ih nd s hs t ht h => ?_) l
  · rw [List.mem_singleton.mp hs, List.mem_singleton.mp ht]
  · have nd1 : l.Nodup := (List.nodup_append.mp nd).1
    have ny : y ∉ l := fun m => (List.nodup_append.mp nd).2.2 y m y (List.mem_singleton.mpr rfl) rfl
    rw [subs_snoc] at hs ht
    have my : y ∈ l ++ [y] := List.mem_append.mpr (.inr (List.mem_singleton.mpr rfl))
    have inx : ∀ {u : List Nat}, u ∈ subs l → ∀ x ∈ l, (x ∈ u ++ [y] ↔ x ∈ u) := fun {u} hu x hx => by
      rw [List.mem_append, List.mem_singleton]
      refine ⟨fun z => z.elim id fun e => (ny (e ▸ hx)).elim, .inl⟩
    have hl : ∀ x ∈ l, (x ∈ s ↔ x ∈ t) := fun x hx => h x (List.mem_append.mpr (.inl hx))
    rcases List.mem_append.mp hs with hs | hs
    · rcases List.mem_append.mp ht with ht | ht
      · exact ih nd1 s hs t ht hl
      · obtain ⟨t, ht, rfl⟩ := List.mem_map.mp ht
        have := (h y my).mpr (List.mem_append.mpr (.inr (List.mem_singleton.mpr rfl)))
        exact (ny (subs_sub s hs y this)).elim
    · obtain ⟨s1, hs1, e1⟩ := List.mem_map.mp hs
      subst e1
      rcases List.mem_append.mp ht with ht | ht
      · have := (h y my).mp (List.mem_append.mpr (.inr (List.mem_singleton.mpr rfl)))
        exact (ny (subs_sub t ht y this)).elim
      · obtain ⟨t1, ht1, e2⟩ := List.mem_map.mp ht
        subst e2
        rw [ih nd1 s1 hs1 t1 ht1 fun x hx => by
          have := hl x hx
          rw [inx hs1 x hx, inx ht1 x hx] at this
          exact this]
theorem subs_nd {l : List Nat} : l.Nodup → (subs l).Nodup := by
  refine snoc_ind (F := fun l => l.Nodup → (subs l).Nodup) (fun _ => by decide) (fun l y ih nd => ?_) l
  have nd1 : l.Nodup := (List.nodup_append.mp nd).1
  have ny : y ∉ l := fun m => (List.nodup_append.mp nd).2.2 y m y (List.mem_singleton.mpr rfl) rfl
  rw [subs_snoc]
  refine List.nodup_append.mpr ⟨ih nd1, ?_, fun a ha b hb e => ?_⟩
  · refine List.pairwise_map.mpr ((ih nd1).imp fun h e => h ?_)
    exact List.append_cancel_right e
  · obtain ⟨t, ht, rfl⟩ := List.mem_map.mp hb
    exact ny (subs_sub a ha y (by rw [e]; exact List.mem_append.mpr (.inr (List.mem_singleton.mpr rfl))))
theorem filter_only {l : List (List Nat)} {c : List Nat → Bool} {s : List Nat} (nd : l.Nodup) (hs : s ∈ l) (h : ∀ t ∈ l, (c t = true ↔ t = s)) : l.filter c = [s] := by
  induction l with
  | nil => cases hs
  | cons a l ih =>
    have h1 := List.nodup_cons.mp nd
    rw [List.filter_cons]
    rcases List.mem_cons.mp hs with e | m
    · rw [if_pos ((h a List.mem_cons_self).mpr e.symm)]
      have e2 : l.filter c = [] := List.filter_eq_nil_iff.mpr fun t ht z => by
        have := (h t (List.mem_cons_of_mem _ ht)).mp z
        rw [this, e] at ht
        exact h1.1 ht
      rw [e2, e]
    · rw [if_neg fun z => h1.1 (by rw [(h a List.mem_cons_self).mp z]; exact m)]
      exact ih h1.2 m fun t ht => h t (List.mem_cons_of_mem _ ht)
/-- the lists that lead to the newest: one when the stamps are right, else none -/
theorem leading_is {ds : List Dd} {m : Nat → Nat} (hG : Lg ds) (mk : Mk ds m) (c : List Nat → Bool) (hc : ∀ s, c s = true ↔ ∀ p ∈ pgs ds, walN ds m s ds p = (fiN ds p, true)) : (subs (ds.map (·.n))).filter c = if wr ds m = [] then [lackN ds m] else [] := by
  have nd : (ds.map (·.n)).Nodup := (List.pairwise_map.mpr hG.asc).imp fun h => Nat.ne_of_lt h
  have el : lackN ds m = (ds.map (·.n)).filter fun n => ds.any fun d => decide (d.n = n ∧ m d.p < d.n) := by
    unfold lackN
    rw [List.filter_map]
    refine congrArg _ (List.filter_congr fun d hd => ?_)
    rw [Bool.eq_iff_iff]
    show decide (m d.p < d.n) = true ↔ (ds.any fun e => decide (e.n = d.n ∧ m e.p < e.n)) = true
    rw [List.any_eq_true, decide_eq_true_iff]
    refine ⟨fun h => ⟨d, hd, decide_eq_true ⟨rfl, h⟩⟩, fun ⟨e, he, z⟩ => ?_⟩
    obtain ⟨z1, z2⟩ := of_decide_eq_true z
    rw [← n_inj hG.asc he hd z1]
    exact z2
  have ml : lackN ds m ∈ subs (ds.map (·.n)) := by
    rw [el]
    exact filter_subs _ _
  have lm : ∀ d ∈ ds, (d.n ∈ lackN ds m ↔ m d.p < d.n) := fun d hd => by
    unfold lackN
    rw [List.mem_map]
    refine ⟨fun ⟨e, he, z⟩ => ?_, fun h => ⟨d, List.mem_filter.mpr ⟨hd, decide_eq_true h⟩, rfl⟩⟩
    obtain ⟨he1, he2⟩ := List.mem_filter.mp he
    rw [← n_inj hG.asc he1 hd z]
    exact of_decide_eq_true he2
  by_cases rt : wr ds m = []
  · rw [if_pos rt]
    refine filter_only (subs_nd nd) ml fun t ht => ⟨fun z => ?_, fun z => ?_⟩
    · obtain ⟨_, h2⟩ := wal_only hG mk ((hc t).mp z)
      refine subs_eq nd t ht _ ml fun x hx => ?_
      obtain ⟨d, hd, rfl⟩ := List.mem_map.mp hx
      rw [h2 d hd, lm d hd]
    · rw [hc, z]
      exact wal_leads hG mk rt lm
  · rw [if_neg rt]
    exact List.filter_eq_nil_iff.mpr fun t ht z => rt (wal_only hG mk ((hc t).mp z)).1
end K21
set_option Elab.async false
set_option linter.all false
set_option maxRecDepth 100000
set_option maxHeartbeats 8000000
namespace K21
open PySem PySem.Spec PyProof.Rows L2 KB LiI
def Bd (ds : List Dd) : Prop := ∀ d ∈ ds, d.n ≤ 1000000000
theorem mk_fi {ds : List Dd} (h : Bd ds) (p : Nat) : mkAt ds 1000000000 p = fiN ds p := by
  unfold mkAt fiN
  have e : (ds.filter fun d => decide (d.p = p ∧ (d.n : Int) ≤ 1000000000)) = ds.filter fun d => decide (d.p = p) := by
    refine List.filter_congr fun d hd => ?_
    have := h d hd
    rw [Bool.eq_iff_iff]
    simp
    omega
  rw [e]
def spLeading : Sp := fun vs H Q _ => ∃ (a b : Addr) (ds : List Dd) (m : Nat → Nat), vs = [.ref a, .ref b] ∧ LogAt H a ds ∧ Lg ds ∧ Bd ds ∧ ds.length ≤ 6 ∧ MkAt H b (pgs ds) m ∧ Mk ds m ∧
  ∀ q ys H', Same H H' → H q = none → H' q = some (.lst ys) → Paired (LsAt H H') (if wr ds m = [] then [lackN ds m] else []) ys → Q (.ref q) H'
def oD (w : Nat × Bool) : PyData := if w.2 = true then .int (w.1 : Int) else .tuple [.str (Str.ofString "odd"), .int (w.1 : Int)]
def leadB (ds : List Dd) (m : Nat → Nat) (s : List Nat) : Bool := (pgs ds).all fun p => decide (walN ds m s ds p = (fiN ds p, true))
section
variable {P : Program} {w : World} {K : PySem.W.Frag} {mg : Str → Option Value} {base : Heap}
abbrev s_leading : Stmt := top 55
abbrev N_leading : List Str := ["_law_log_here", "_law_marks_here", "_law_due", "_law_some", "_law_deed"]
theorem sc_leading : FnScope N_leading ["_law_log_here", "_law_marks_here"] (defScope s_leading) := ⟨rfl, rfl, rfl, by decide +kernel, rfl, by decide +kernel, by decide +kernel⟩
theorem ok_leading {f : Addr} {fd : FuncData} (F : FnP K "_law_leading" s_leading f fd) (Z : FreeS mg)
    {f_marks : Addr} {d_marks : FuncData} (g_marks : mg "_law_marks" = some (.ref f_marks)) (F_marks : FnP K "_law_marks" s_marks f_marks d_marks) (G_marks : FnOk P w K mg base CX0 3 f_marks d_marks ["_law_log_here"] spMarks)
    {f_lists : Addr} {d_lists : FuncData} (g_lists : mg "_law_lists" = some (.ref f_lists)) (F_lists : FnP K "_law_lists" s_lists f_lists d_lists) (G_lists : FnOk P w K mg base CX0 1 f_lists d_lists ["_law_things"] spLists)
    {f_done_again : Addr} {d_done_again : FuncData} (g_done_again : mg "_law_done_again" = some (.ref f_done_again)) (F_done_again : FnP K "_law_done_again" s_done_again f_done_again d_done_again) (G_done_again : FnOk P w K mg base CX0 4 f_done_again d_done_again ["_law_log_here", "_law_marks_here", "_law_numbers"] spDoneA) :
    FnOk P w K mg base CX0 5 f fd ["_law_log_here", "_law_marks_here"] spLeading := by
  have b_marks : Binds K d_marks ["_law_log_here"] [] := F_marks.bindsN fun _ _ _ _ _ _ us hl => match us, hl with | [_], _ => rfl
  have b_lists : Binds K d_lists ["_law_things"] [] := F_lists.bindsN fun _ _ _ _ _ _ us hl => match us, hl with | [_], _ => rfl
  have b_done_again : Binds K d_done_again ["_law_log_here", "_law_marks_here", "_law_numbers"] [] := F_done_again.bindsN fun _ _ _ _ _ _ us hl => match us, hl with | [_, _, _], _ => rfl
  refine F.ok sc_leading (fun vs H Q E h => ?_) (fun cdv A outer s H vs Q E hr h => ?_)
  · obtain ⟨a, b, ds, m, rfl, _⟩ := h
    rfl
  · obtain ⟨a, b, ds, m, rfl, hL, hG, bd, l6, hb, mk, k⟩ := h
    obtain ⟨xs, ha, lx, hx⟩ := id hL
    have pl := hG.pl
    have sl : (2000 : Nat) ≤ sizeLine := by decide
    have hu65 : _ + 65 < cLine := Nat.lt_of_le_of_lt (Nat.add_le_add_left (by decide : 65 ≤ 200) _) (Nat.lt_of_le_of_lt (Nat.add_le_add_right (Nat.le_add_right _ _) _) hr.un)
    have nd := sc_leading.nd
    refine ⟨_, PSs.nox (pss_cons (ps_set (i := 2) nd rfl (Or.inr rfl) (pe_call G_marks (hr.mono (by decide)) rfl g_marks F_marks.kp b_marks .nil pass0 (pa_cons (pv 0) (pa_nil))))
      (pss_one (ps_ret (pe_lc (own := [("_law_some", 3)]) (g := gName 3) (tt := tTest (tOp (rEqDM K) (tCall spDoneA [] E0 (tCons (tVar 0) (tCons (tVar 1) (tCons (tVar 3) (tNil))))) (tVar 2))) (te := tVar 3) (by rfl) nd (pi_list (pe_call G_lists (hr.mono (by decide)) rfl g_lists F_lists.kp b_lists .nil pass0 (pa_cons (pe_lc (own := [("_law_deed", 4)]) (g := gName 4) (tt := tYes) (te := tOp (rIxT K) (tVar 4) (tC (.int 0))) (by rfl) nd (pi_list (pv 0))
          (blkOk_by (own := [("_law_deed", 4)]) (N := N_leading) (sc := defScope s_leading) (by decide +kernel)) (fun _ _ _ _ _ => pg_name (i := 4) nd rfl (Or.inl rfl)) (fun _ _ _ _ _ => pts_nil)
          (fun _ _ _ _ _ => pe_ix ix_tup (pv 4) (pe_int) (fun _ _ => rfl))) (pa_nil))))
          (blkOk_by (own := [("_law_some", 3)]) (N := N_leading) (sc := defScope s_leading) (by decide +kernel)) (fun _ _ _ _ _ => pg_name (i := 3) nd rfl (Or.inl rfl)) (fun _ _ _ _ _ => pts_one (pt_cmpR (op_eqDM hu65) (pe_call G_done_again (hr.mono (by decide)) rfl g_done_again F_done_again.kp b_done_again .nil pass0 (pa_cons (pv 0) (pa_cons (pv 1) (pa_cons (pv 3) (pa_nil))))) (pv 2) (nomark _)))
          (fun _ _ _ _ _ => pv 3))))), ?_⟩
    refine ⟨_, rfl, a, ds, rfl, hL, hG, fun q0 G1 s1 nq0 hm0 => ?_⟩
    refine ⟨_, rfl, a, rfl, ⟨_, SqL.of (s1 _ _ ha)⟩, fun D hD => ?_⟩
    refine lc_sel (n := xs.length) (walk_list (K := K) (a := a) (xs := xs)) (fun i => (ds[i]?).bind fun d => if (fun _ : Dd => true) d = true then some (V.int (d.n : Int)) else none) (by omega) hD (fun G s8 => SqL.of ((s1.trans s8) _ _ ha)) ?_ ?_
    · rintro i x G8 G9 Qy Qn hi s8 ⟨rfl, hv⟩ ky_ kn
      have li : i < ds.length := by omega
      have hdi : ds[i]? = some ds[i] := List.getElem?_eq_getElem li
      obtain ⟨t, rd, tw, rfl, ht, hr1, _⟩ := (hx i x _ hv hdi).same (s1.trans s8)
      rw [hdi, Option.bind_some] at ky_ kn
      exact ⟨rfl, _, rfl, t, _, 0, _, rfl, rfl, SqT.of ht, rfl, ky_ _ _ (Same.refl _) rfl⟩
    · intro G2 s2 hR
      rw [lx, sel_dn, List.filter_eq_self.mpr fun _ _ => rfl] at hR
      have s12 := s1.trans s2
      refine ⟨D, ds.map (·.n), rfl, hR, by rw [List.length_map]; exact l6, fun Lq ys G3 s3 nLq hLq py => ?_⟩
      have s13 := s12.trans s3
      have py := paired_mono (fun s y h => LsAt.base s12 h) py
      have hm3 : G3 q0 = some (.dK (mV (pgs ds) (mkAt ds 1000000000))) := (s2.trans s3) _ _ hm0
      have ly := paired_len py
      have sle : ∀ s ∈ subs (ds.map (·.n)), s.length ≤ 6 := fun s hs => by
        have := subs_le s hs
        rw [List.length_map] at this
        omega
      have l64 : ys.length ≤ 64 := by
        rw [← ly, subs_len, List.length_map]
        exact Nat.pow_le_pow_right (n := 2) (by decide) l6
      obtain ⟨SB, eSB⟩ : ∃ SB, SB = subs (ds.map (·.n)) := ⟨_, rfl⟩
      rw [← eSB] at py ly sle
      refine ⟨Lq, rfl, ⟨_, SqL.of hLq⟩, fun D2 hD2 => ?_⟩
      refine lc_rel (walk_list (K := K) (a := Lq) (xs := ys)) (fun j => leadB ds m (SB.getD j [])) (fun j y G => LsAt H G (SB.getD j []) y) (fun j y G G' s1 h => h.same s1) (by omega) hD2 (fun G s => SqL.of (s _ _ hLq)) ?_ ?_
      · rintro j y G4 G5 Qy Qn hj s4 ⟨acc, hacc⟩ ⟨rfl, hy⟩ ky_ kn_
        obtain ⟨s, es, bs, rfl, nbs, hbs⟩ := paired_get2 py hy
        have eg : SB.getD j [] = s := by
          rw [List.getD_eq_getElem?_getD, es]
          rfl
        rw [eg] at ky_ kn_
        have s14 := s13.trans s4
        have hbs4 := s4 _ _ hbs
        have l60 : s.length ≤ 60 := by
          have := sle s (List.mem_of_getElem? es)
          omega
        refine ⟨rfl, _, rfl, _, rfl, _, rfl, a, b, bs, ds, m, s, rfl, hL.same s14, hG, s14 _ _ hb, hbs4, l60, fun q g G6 s6 nq hq hg => ?_⟩
        have hm6 := (s4.trans s6) _ _ hm3
        have ev : ∀ w : Nat × Bool, ∀ n : Nat, PyData.eqv (oD w) (.int (n : Int)) = decide (w = (n, true)) := fun w n => by
          obtain ⟨x, t⟩ := w
          cases t with
          | true =>
            rw [Bool.eq_iff_iff]
            simp [oD, PyData.eqv]
            omega
          | false =>
            rw [decide_eq_false (fun z => by cases z)]
            rfl
        refine ⟨_, rfl, q, q0, _, _, (fun k => match k with | .inl i => oD (walN ds m s ds i.toNat) | _ => .none), (fun k => match k with | .inl i => .int (mkAt ds 1000000000 i.toNat : Int) | _ => .none), rfl, rfl, hq, hm6, by rw [dV_len, dV_len], ?_, ?_⟩
        · intro p hp
          obtain ⟨r, mr, rfl⟩ := List.mem_map.mp hp
          refine ⟨_, mV_val mr, ?_, .int _, ?_, rfl⟩
          · show Dp K G6 (g r) (oD (walN ds m s ds r))
            rcases hg r mr with ⟨e1, e2⟩ | ⟨e1, T, e2, hT⟩
            · unfold oD
              rw [if_pos e1, e2]
              exact .int _
            · unfold oD
              rw [if_neg (by rw [e1]; decide), e2]
              exact .tup (SqT.of hT) (.cons (.str _) (.cons (.int _) .nil))
          · show SeqAt.shaped (oD (walN ds m s ds r)) = true
            unfold oD
            split
            · rfl
            · exact shaped_odd _
        · have eb : ((dV (pgs ds) g).all fun p => PyData.eqv ((fun k : Key => match k with | .inl i => oD (walN ds m s ds i.toNat) | _ => PyData.none) p.1) ((fun k : Key => match k with | .inl i => PyData.int (mkAt ds 1000000000 i.toNat : Int) | _ => PyData.none) p.1)) = leadB ds m s := by
            unfold dV leadB
            rw [List.all_map]
            rw [Bool.eq_iff_iff, List.all_eq_true, List.all_eq_true]
            refine forall_congr' fun r => forall_congr' fun mr => ?_
            show PyData.eqv (oD (walN ds m s ds r)) (.int (mkAt ds 1000000000 r : Int)) = true ↔ _
            rw [ev, mk_fi bd]
          rw [eb]
          have nqD : ∀ c o, G5 c = some o → c ≠ D2 → G6 c = some o := fun c o e _ => s6 _ _ e
          refine ⟨_, rfl, ?_⟩
          cases hlb : leadB ds m s with
          | true =>
            refine iteT ⟨_, rfl, ky_ _ _ hlb s6 ⟨bs, rfl, nbs, ?_⟩⟩
            rw [off_at (ne_of_none hbs hD2)]
            exact s6 _ _ hbs4
          | false => exact iteF (kn_ _ hlb s6)
      · rintro G4 zs s4 hzs pz
        rw [← ly] at pz
        have pz2 := paired_selG (z := []) (l := SB) (c := leadB ds m) (R := fun s y => LsAt H (off G4 D2) s y) pz
        rw [eSB, leading_is hG mk (leadB ds m) (fun s => by
          unfold leadB
          rw [List.all_eq_true]
          exact forall_congr' fun p => forall_congr' fun _ => decide_eq_true_iff)] at pz2
        exact k D2 zs G4 (s13.trans s4) (none_back s13 hD2) hzs (paired_mono (fun s y h => h.same (off_le _ _)) pz2)
end
end K21
set_option Elab.async false
set_option linter.all false
set_option maxRecDepth 100000
set_option maxHeartbeats 8000000
namespace K21
open PySem PySem.Spec PyProof.Rows L2 KB LiI
/-! logs as data -/
def numsD (l : List Nat) : List PyData := l.map fun i : Nat => PyData.int (i : Int)
def deedD (d : Dd) : PyData := .tuple [.int (d.n : Int), .int (d.p : Int), .list (numsD d.r), .tuple d.w]
def logD (ds : List Dd) : PyData := .list (ds.map deedD)
theorem tr_nums {H : Hp} {n : Nat} {a : Addr} {l : List Nat} (h : H a = some (.lst (numsV l))) (k : l.length ≤ 1000) : Tr H (n + 1) (.ref a) (.list (numsD l)) := by
  refine Tr.lst h (by unfold numsV numsD; rw [List.length_map, List.length_map]) (by unfold numsD; rw [List.length_map]; exact k) fun i u e h1 h2 => ?_
  unfold numsV at h1
  unfold numsD at h2
  rw [List.getElem?_map] at h1 h2
  obtain ⟨p, q1, rfl⟩ := Option.map_eq_some_iff.mp h1
  rw [q1] at h2
  cases h2
  exact Tr.flat (.int _)
theorem tr_nums_of {H : Hp} {n : Nat} {x : V} {l : List Nat} (h : Tr H n x (.list (numsD l))) : ∃ a, x = .ref a ∧ H a = some (.lst (numsV l)) := by
  cases n with
  | zero => exact (FlatD.noL h).elim
  | succ n =>
    rcases h with h | ⟨a, xs, ds, rfl, l1, l2, t, c⟩
    · exact (FlatD.noL h).elim
    · rcases t with ⟨ha, e⟩ | ⟨_, e⟩
      · cases e
        refine ⟨a, rfl, ?_⟩
        rw [ha]
        refine congrArg (fun z => some (HO.lst z)) (List.ext_getElem? fun i => ?_)
        have ll : (numsD l).length = l.length := List.length_map _
        have lv : (numsV l).length = l.length := List.length_map _
        by_cases hi : i < l.length
        · have e1 : xs[i]? = some (xs[i]'(by omega)) := List.getElem?_eq_getElem (by omega)
          have e2 : (numsD l)[i]? = some (.int (l[i] : Int)) := by
            unfold numsD
            rw [List.getElem?_map, List.getElem?_eq_getElem hi]
            rfl
          have e3 : (numsV l)[i]? = some (.int (l[i] : Int)) := by
            unfold numsV
            rw [List.getElem?_map, List.getElem?_eq_getElem hi]
            rfl
          have tt := c i _ _ e1 e2
          rw [e1, e3]
          cases n with
          | zero =>
            have tt' : FlatD _ _ := tt
            cases hx : xs[i]'(by omega) <;> rw [hx] at tt' <;> cases tt'
            rfl
          | succ n =>
            rcases tt with tt | ⟨_, _, _, _, _, _, t, _⟩
            · cases hx : xs[i]'(by omega) <;> rw [hx] at tt <;> cases tt
              rfl
            · rcases t with ⟨_, z⟩ | ⟨_, z⟩ <;> cases z
        · rw [List.getElem?_eq_none (by omega), List.getElem?_eq_none (by omega)]
      · cases e
theorem DeedAt.tr {H : Hp} {x : V} {d : Dd} (h : DeedAt H x d) (k : d.r.length ≤ 20) : Tr H 6 x (deedD d) := by
  obtain ⟨t, rd, tw, rfl, ht, hr, hw⟩ := h
  exact Tr.tup ht rfl (by simp) (tr_cons (Tr.flat (.int _)) (tr_cons (Tr.flat (.int _)) (tr_cons (tr_nums hr (by omega)) (tr_cons hw tr_nil))))
theorem LogAt.tr {H : Hp} {a : Addr} {ds : List Dd} (h : LogAt H a ds) (hG : Lg ds) : Tr H 7 (.ref a) (logD ds) := by
  obtain ⟨xs, ha, lx, hx⟩ := h
  have l60 := hG.len
  refine Tr.lst ha (by rw [List.length_map]; exact lx) (by rw [List.length_map]; omega) fun i u e h1 h2 => ?_
  rw [List.getElem?_map] at h2
  obtain ⟨d, q1, rfl⟩ := Option.map_eq_some_iff.mp h2
  exact (hx i u d h1 q1).tr (hG.ok d (List.mem_of_getElem? q1)).len
theorem flat_int {x : V} {n : Nat} {H : Hp} {i : Int} (h : Tr H n x (.int i)) : x = .int i := by
  cases n with
  | zero =>
    have h' : FlatD x _ := h
    cases h'
    rfl
  | succ n =>
    rcases h with h | ⟨_, _, _, _, _, _, t, _⟩
    · cases h
      rfl
    · rcases t with ⟨_, z⟩ | ⟨_, z⟩ <;> cases z
theorem deed_of_tr {H : Hp} {x : V} {d : Dd} (h : Tr H 6 x (deedD d)) : DeedAt H x d := by
  rcases h with h | ⟨t, xs, ds, rfl, l1, l2, tt, c⟩
  · cases h
  · rcases tt with ⟨_, e⟩ | ⟨ht, e⟩
    · cases e
    · cases e
      match xs, l1, ht, c with
      | [x0, x1, x2, x3], _, ht, c =>
        have e0 := flat_int (c 0 _ _ rfl rfl)
        have e1 := flat_int (c 1 _ _ rfl rfl)
        obtain ⟨rd, e2, hr⟩ := tr_nums_of (c 2 _ _ rfl rfl)
        have h3 := c 3 _ _ rfl rfl
        have e3 : ∃ tw, x3 = .ref tw := by
          rcases h3 with h3 | ⟨tw, _, _, e, _⟩
          · cases h3
          · exact ⟨tw, e⟩
        obtain ⟨tw, e3⟩ := e3
        subst e0 e1 e2 e3
        exact ⟨t, rd, tw, rfl, ht, hr, h3⟩
theorem log_of_tr {H : Hp} {x : V} {ds : List Dd} (h : Tr H 7 x (logD ds)) : ∃ a, x = .ref a ∧ LogAt H a ds := by
  rcases h with h | ⟨a, xs, es, rfl, l1, l2, tt, c⟩
  · cases h
  · rcases tt with ⟨ha, e⟩ | ⟨_, e⟩
    · cases e
      rw [List.length_map] at l1
      refine ⟨a, rfl, xs, ha, l1, fun i x d h1 h2 => deed_of_tr (c i x (deedD d) h1 ?_)⟩
      rw [List.getElem?_map, h2]
      rfl
    · cases e

theorem LogAt.keep {H H' : Hp} {a : Addr} {ds : List Dd} (k : KeepLT H H') (h : LogAt H a ds) : LogAt H' a ds := by
  obtain ⟨xs, h1, h2, h3⟩ := h
  refine ⟨xs, (k _ _).1 h1, h2, fun i x d e1 e2 => ?_⟩
  obtain ⟨t, rd, tw, e, ht, hr, hw⟩ := h3 i x d e1 e2
  exact ⟨t, rd, tw, e, (k _ _).2 ht, (k _ _).1 hr, Tr.keep k hw⟩
theorem keep_frz {B : Hp} {b pu : Addr} {kvs : List (Key × V)} {o : HO} (hb : B b = some (.dK kvs)) : KeepLT (off B pu) (off (upd B b o) pu) := fun c xs => by
  have n1 : ∀ u, off B pu c = some u → c ≠ pu := fun u e z => by
    unfold off at e
    rw [if_pos z] at e
    cases e
  constructor
  · intro e
    have n := n1 _ e
    rw [off_at n] at e ⊢
    rw [upd_ne (fun z => by
      rw [z, hb] at e
      cases e)]
    exact e
  · intro e
    have n := n1 _ e
    rw [off_at n] at e ⊢
    rw [upd_ne (fun z => by
      rw [z, hb] at e
      cases e)]
    exact e
theorem rep_bool (c : Bool) (x : V) : -(2 ^ 63 : Int) ≤ (if c = true then 1 else 0 : Int) ∧ (if c = true then 1 else 0 : Int) < 2 ^ 63 ∧ ([x] : List V).length * (if c = true then 1 else 0 : Int).toNat ≤ sizeLine ∧ (List.replicate (if c = true then 1 else 0 : Int).toNat [x]).flatten = if c = true then [x] else [] := by
  have sl : (3000 : Nat) ≤ sizeLine := by decide
  cases c with
  | true => exact ⟨by decide, by decide, by show 1 * 1 ≤ sizeLine; omega, rfl⟩
  | false => exact ⟨by decide, by decide, by show 1 * 0 ≤ sizeLine; omega, rfl⟩
theorem paired_ifB {F : PyData → V → Prop} {c : Bool} {P : Prop} [Decidable P] (e : c = decide P) {d : PyData} {y : V} (h : F d y) : Paired F (if P then [d] else []) (if c = true then [y] else []) := by
  subst e
  by_cases p : P
  · rw [if_pos p, decide_eq_true p, if_pos rfl]
    exact .cons h .nil
  · rw [if_neg p, decide_eq_false p, if_neg Bool.false_ne_true]
    exact .nil
theorem len_ifB (c : Bool) (y : V) : (if c = true then [y] else []).length ≤ 1 := by
  cases c <;> simp
theorem td_le {H : Hp} {x : V} {d : PyData} {n : Nat} (h : TD H n x d) : ∀ k, TD H (n + k) x d
  | 0 => h
  | k + 1 => (td_le h k).up
theorem td_list {α : Type} {H : Hp} {n : Nat} {a : Addr} {ts : List α} {ys : List V} {f : α → PyData} (h : H a = some (.lst ys)) (p : Paired (fun t y => TD H n y (f t)) ts ys) (l : ts.length ≤ 1000) : TD H (n + 1) (.ref a) (.list (ts.map f)) := by
  refine TD.lst h (by rw [List.length_map]; exact (paired_len p).symm) (by rw [List.length_map]; exact l) fun i u e h1 h2 => ?_
  rw [List.getElem?_map] at h2
  obtain ⟨t, q, rfl⟩ := Option.map_eq_some_iff.mp h2
  obtain ⟨y, e1, e2⟩ := paired_get1 p q
  rw [h1] at e1
  cases e1
  exact e2
theorem ints_td {H : Hp} {t : List Int} {y : V} (h : IntsAt H t y) (l : t.length ≤ 9) : TD H 1 y (intsD t) := by
  obtain ⟨T, rfl, h⟩ := h
  refine TD.of (Tr.tup (n := 0) h (by rw [List.length_map, List.length_map]) (by rw [List.length_map]; omega) fun i u e h1 h2 => ?_)
  rw [List.getElem?_map] at h1 h2
  obtain ⟨j, q, rfl⟩ := Option.map_eq_some_iff.mp h1
  rw [q] at h2
  cases h2
  exact Tr.flat (.int _)
theorem nums_td {H : Hp} {a : Addr} {l : List Nat} (h : H a = some (.lst (numsV l))) (k : l.length ≤ 1000) : TD H 1 (.ref a) (.list (numsD l)) := TD.of (tr_nums h k)
def itD (ps : List Nat) (m : Nat → Nat) : PyData := .list (ps.map fun p : Nat => .tuple [.int (p : Int), .int (m p : Int)])
theorem it_td {H : Hp} {a : Addr} {ps : List Nat} {m : Nat → Nat} {ts : List Addr} (h : H a = some (.lst (ts.map V.ref))) (p : Paired (fun (t : Addr) (q : Key × V) => H t = some (.tup [kV q.1, q.2])) ts (mV ps m)) (l : ps.length ≤ 1000) : TD H 2 (.ref a) (itD ps m) := by
  unfold itD
  have lp := paired_len p
  rw [dV_len] at lp
  refine TD.lst h (by rw [List.length_map, List.length_map]; exact lp) (by rw [List.length_map]; exact l) fun i u e h1 h2 => ?_
  rw [List.getElem?_map] at h1 h2
  obtain ⟨t, q, rfl⟩ := Option.map_eq_some_iff.mp h1
  obtain ⟨r, q2, rfl⟩ := Option.map_eq_some_iff.mp h2
  obtain ⟨y, e1, e2⟩ := paired_get1 p q
  have e3 : (mV ps m)[i]? = some (ky r, .int (m r : Int)) := by
    unfold mV dV
    rw [List.getElem?_map, q2]
    rfl
  rw [e3] at e1
  cases e1
  exact TD.of (Tr.tup (n := 0) e2 rfl (by simp) (tr_cons (Tr.flat (.int _)) (tr_cons (Tr.flat (.int _)) tr_nil)))
theorem dp_list {α : Type} {K : PySem.W.Frag} {H : Hp} : ∀ {ts : List Nat}, DpAll K H (numsV ts) (numsD ts)
  | [] => .nil
  | t :: ts => .cons (.int _) (dp_list (α := α))
theorem lay_nums : ∀ l : List Nat, PyData.canLayAll0 (numsD l) = true ∧ PyData.depthAll (numsD l) = 0
  | [] => ⟨rfl, rfl⟩
  | x :: l => by
    obtain ⟨h1, h2⟩ := lay_nums l
    constructor
    · show PyData.canLayAll0 (.int (x : Int) :: numsD l) = true
      simp only [PyData.canLayAll0, PyData.canLay0, h1, Bool.and_self]
    · show PyData.depthAll (.int (x : Int) :: numsD l) = 0
      simp only [PyData.depthAll, PyData.depth, h2]
      rfl
theorem shaped_nums (l : List Nat) : SeqAt.shaped (.list (numsD l)) = true := by
  obtain ⟨h1, h2⟩ := lay_nums l
  unfold SeqAt.shaped
  rw [Bool.and_eq_true]
  constructor
  · simp only [PyData.canLay0]
    exact h1
  · refine decide_eq_true ?_
    simp only [PyData.depth, h2]
    decide
theorem eqv_nums : ∀ l : List Nat, PyData.eqvAll (numsD l) (numsD l) = true
  | [] => by simp [numsD, PyData.eqvAll]
  | x :: l => by
    show PyData.eqvAll (.int (x : Int) :: numsD l) (.int (x : Int) :: numsD l) = true
    simp only [PyData.eqvAll, PyData.eqv, eqv_nums l, Bool.and_true]
    simp
/-- the keys of a merge -/
theorem putK_keys {kvs : List (Key × V)} {k : Key} {v : V} (j : Key) : (∃ x, (j, x) ∈ putK kvs k v) ↔ (∃ x, (j, x) ∈ kvs) ∨ j = k := by
  unfold putK
  split
  · next h =>
    rw [List.any_eq_true] at h
    obtain ⟨q, hq, e⟩ := h
    have e : q.1 = k := of_decide_eq_true e
    constructor
    · rintro ⟨x, hx⟩
      obtain ⟨r, hr, e2⟩ := List.mem_map.mp hx
      split at e2
      · next z =>
        cases e2
        exact .inr z
      · cases e2
        exact .inl ⟨_, hr⟩
    · rintro (⟨x, hx⟩ | rfl)
      · by_cases z : j = k
        · exact ⟨v, List.mem_map.mpr ⟨(j, x), hx, by simp [z]⟩⟩
        · exact ⟨x, List.mem_map.mpr ⟨(j, x), hx, by simp [z]⟩⟩
      · exact ⟨v, List.mem_map.mpr ⟨q, hq, by simp [e]⟩⟩
  · constructor
    · rintro ⟨x, hx⟩
      rcases List.mem_append.mp hx with hx | hx
      · exact .inl ⟨x, hx⟩
      · rw [List.mem_singleton] at hx
        cases hx
        exact .inr rfl
    · rintro (⟨x, hx⟩ | rfl)
      · exact ⟨x, List.mem_append_left _ hx⟩
      · exact ⟨v, List.mem_append_right _ List.mem_cons_self⟩
theorem merge_keys (j : Key) : ∀ (more kvs : List (Key × V)), (∃ x, (j, x) ∈ mergeK kvs more) ↔ (∃ x, (j, x) ∈ kvs) ∨ ∃ x, (j, x) ∈ more
  | [], kvs => by simp [mergeK]
  | q :: more, kvs => by
    have e : mergeK kvs (q :: more) = mergeK (putK kvs q.1 q.2) more := rfl
    rw [e, merge_keys j more, putK_keys]
    constructor
    · rintro ((h | h) | ⟨x, hx⟩)
      · exact .inl h
      · exact .inr ⟨q.2, by rw [h]; exact List.mem_cons_self⟩
      · exact .inr ⟨x, List.mem_cons_of_mem _ hx⟩
    · rintro (h | ⟨x, hx⟩)
      · exact .inl (.inl h)
      · rcases List.mem_cons.mp hx with e2 | hx
        · exact .inl (.inr (by rw [← e2]))
        · exact .inr ⟨x, hx⟩
theorem val_some {kvs : List (Key × V)} {k : Key} : (valV kvs k).isSome = true ↔ ∃ x, (k, x) ∈ kvs := by
  unfold valV
  rw [Option.isSome_map, List.find?_isSome]
  constructor
  · rintro ⟨q, hq, e⟩
    have e : q.1 = k := by simpa using e
    exact ⟨q.2, by rw [← e]; exact hq⟩
  · rintro ⟨x, hx⟩
    exact ⟨_, hx, by simp⟩
end K21
set_option Elab.async false
set_option linter.all false
set_option maxRecDepth 100000
set_option maxHeartbeats 8000000
namespace K21
open PySem PySem.Spec PyProof.Rows L2 KB LiI
def spTold : Sp := fun vs H Q _ => ∃ (pu a : Addr) (ds : List Dd) (N : Nat), vs = [.ref pu, .ref a] ∧ Purse H pu N ∧ N ≤ 2 ^ 37 ∧ LogAt (off H pu) a ds ∧ Lg ds ∧ (∀ d ∈ ds, d.n ≤ 100) ∧ ds ≠ [] ∧ ds.length ≤ 10 ∧
  ∀ H', But pu H H' → Purse H' pu (N + 1) → Q (.bl true) H'
theorem atI_last {xs : List V} {x : V} (h : xs.getLast? = some x) : atI xs (-1) = some x := by
  unfold atI ixN
  have l : xs ≠ [] := fun e => by
    rw [e] at h
    cases h
  have lp : 0 < xs.length := List.length_pos_iff.mpr l
  rw [List.getLast?_eq_getElem?] at h
  rw [if_neg (by decide), if_pos (by omega)]
  have e : (-1 + (xs.length : Int)).toNat = xs.length - 1 := by omega
  rw [e]
  exact h
section
variable {P : Program} {w : World} {K : PySem.W.Frag} {mg : Str → Option Value} {base : Heap}
abbrev s_told_marks : Stmt := top 60
abbrev N_told_marks : List Str := ["_law_purse_here", "_law_log_here", "_law_newest", "_law_number", "_law_handed", "_law_late", "_law_deed"]
theorem sc_told_marks : FnScope N_told_marks ["_law_purse_here", "_law_log_here"] (defScope s_told_marks) := ⟨rfl, rfl, rfl, by decide +kernel, rfl, by decide +kernel, by decide +kernel⟩
theorem ok_told_marks {f : Addr} {fd : FuncData} (F : FnP K "_law_told_marks" s_told_marks f fd) (Z : FreeS mg)
    {f_draw : Addr} {d_draw : FuncData} (g_draw : mg "_law_draw" = some (.ref f_draw)) (F_draw : FnP K "_law_draw" s_draw f_draw d_draw) (G_draw : FnOk P w K mg base CX0 2 f_draw d_draw ["_law_purse_here", "_law_many"] spDraw)
    {f_same : Addr} {d_same : FuncData} (g_same : mg "_law_same" = some (.ref f_same)) (F_same : FnP K "_law_same" s_same f_same d_same) (GA_same : ∀ n : Nat, FnOk P w K mg base CX0 (n + 1) f_same d_same ["_law_thing"] (spSame n))
    {f_stamps_behind : Addr} {d_stamps_behind : FuncData} (g_stamps_behind : mg "stamps_behind" = some (.ref f_stamps_behind)) (F_stamps_behind : FnP K "stamps_behind" s_stamps_behind f_stamps_behind d_stamps_behind) (G_stamps_behind : FnOk P w K mg base CX0 7 f_stamps_behind d_stamps_behind ["deeds", "number"] spBehindS)
    {f_exact : Addr} {d_exact : FuncData} (g_exact : mg "_law_exact" = some (.ref f_exact)) (F_exact : FnP K "_law_exact" s_exact f_exact d_exact) (GA_exact : ∀ n : Nat, FnOk P w K mg base CX0 (n + 1) f_exact d_exact ["_law_mine", "_law_theirs"] (spExactD n))
    {f_marks_at : Addr} {d_marks_at : FuncData} (g_marks_at : mg "_law_marks_at" = some (.ref f_marks_at)) (F_marks_at : FnP K "_law_marks_at" s_marks_at f_marks_at d_marks_at) (G_marks_at : FnOk P w K mg base CX0 2 f_marks_at d_marks_at ["_law_log_here", "_law_number"] spMarksAt)
    {f_stamps_read : Addr} {d_stamps_read : FuncData} (g_stamps_read : mg "stamps_read" = some (.ref f_stamps_read)) (F_stamps_read : FnP K "stamps_read" s_stamps_read f_stamps_read d_stamps_read) (G_stamps_read : FnOk P w K mg base CX0 7 f_stamps_read d_stamps_read ["deeds", "number"] spReadS)
    {f_was : Addr} {d_was : FuncData} (g_was : mg "_law_was" = some (.ref f_was)) (F_was : FnP K "_law_was" s_was f_was d_was) (G_was : FnOk P w K mg base CX0 3 f_was d_was ["_law_log_here", "_law_deed"] spWas) :
    FnOk P w K mg base CX0 10 f fd ["_law_purse_here", "_law_log_here"] spTold := by
  have b_draw : Binds K d_draw ["_law_purse_here", "_law_many"] [] := F_draw.bindsN fun _ _ _ _ _ _ us hl => match us, hl with | [_, _], _ => rfl
  have b_same : Binds K d_same ["_law_thing"] [] := F_same.bindsN fun _ _ _ _ _ _ us hl => match us, hl with | [_], _ => rfl
  have b_stamps_behind : Binds K d_stamps_behind ["deeds", "number"] [] := F_stamps_behind.bindsN fun _ _ _ _ _ _ us hl => match us, hl with | [_, _], _ => rfl
  have b_exact : Binds K d_exact ["_law_mine", "_law_theirs"] [] := F_exact.bindsN fun _ _ _ _ _ _ us hl => match us, hl with | [_, _], _ => rfl
  have b_marks_at : Binds K d_marks_at ["_law_log_here", "_law_number"] [] := F_marks_at.bindsN fun _ _ _ _ _ _ us hl => match us, hl with | [_, _], _ => rfl
  have b_stamps_read : Binds K d_stamps_read ["deeds", "number"] [] := F_stamps_read.bindsN fun _ _ _ _ _ _ us hl => match us, hl with | [_, _], _ => rfl
  have b_was : Binds K d_was ["_law_log_here", "_law_deed"] [] := F_was.bindsN fun _ _ _ _ _ _ us hl => match us, hl with | [_, _], _ => rfl
  refine F.ok sc_told_marks (fun vs H Q E h => ?_) (fun cdv A outer s H vs Q E hr h => ?_)
  · obtain ⟨pu, a, ds, N, rfl, _⟩ := h
    rfl
  · obtain ⟨pu, a, ds, N, rfl, hP, hN, hL, hG, bd, ne, l10, k⟩ := h
    have sl : (3000 : Nat) ≤ sizeLine := by decide
    have nd := sc_told_marks.nd
    refine ⟨_, PSs.nox (pss_cons (ps_set (i := 2) nd rfl (Or.inl rfl) (pe_ix ix_tup (pe_ix ix_list (pv 1) (pe_un un_neg (pe_int)) (fun _ _ => rfl)) (pe_int) (fun _ _ => rfl)))
      (pss_cons (ps_for PassesOwn.never rfl (pi_list (pe_lst (pa_cons (pe_int) (pa_cons (pv 2) (pa_cons (pe_op op_add (pv 2) (pe_int)) (pa_cons (pe_call G_draw (hr.mono (by decide)) rfl g_draw F_draw.kp b_draw .nil pass0 (pa_cons (pv 0) (pa_cons (pe_op op_add (pv 2) (pe_int)) (pa_nil)))) (pa_nil))))))) (pg_name (i := 3) nd rfl (Or.inl rfl))
        (pss_cons (ps_set (i := 4) nd rfl (Or.inl rfl) (pe_call (GA_same 7) (hr.mono (by decide)) rfl g_same F_same.kp b_same .nil pass0 (pa_cons (pv 1) pa_nil)))
      (pss_cons (ps_set (i := 5) nd rfl (Or.inl rfl) (pe_call G_stamps_behind (hr.mono (by decide)) rfl g_stamps_behind F_stamps_behind.kp b_stamps_behind .nil pass0 (pa_cons (pv 4) (pa_cons (pv 3) (pa_nil)))))
      (pss_cons (ps_if (pt_not (pt_val (pe_call (GA_exact 8) (hr.mono (by decide)) rfl g_exact F_exact.kp b_exact .nil pass0 (pa_cons (pe_lst (pa_cons (pv 5) (pa_cons (pv 4) (pa_nil)))) (pa_cons (pe_lst (pa_cons (pe_call G_marks_at (hr.mono (by decide)) rfl g_marks_at F_marks_at.kp b_marks_at .nil pass0 (pa_cons (pv 1) (pa_cons (pv 3) (pa_nil)))) (pa_cons (pv 1) (pa_nil)))) (pa_nil)))))) (pss_one (ps_ret (pe_bl))) (pss_nil))
      (pss_cons (ps_expr (pe_dclear (pv 5)))
      (pss_one (ps_if (pt_not (pt_val (pe_call (GA_exact 8) (hr.mono (by decide)) rfl g_exact F_exact.kp b_exact .nil pass0 (pa_cons (pe_call G_stamps_behind (hr.mono (by decide)) rfl g_stamps_behind F_stamps_behind.kp b_stamps_behind .nil pass0 (pa_cons (pv 4) (pa_cons (pv 3) (pa_nil)))) (pa_cons (pe_call G_marks_at (hr.mono (by decide)) rfl g_marks_at F_marks_at.kp b_marks_at .nil pass0 (pa_cons (pv 1) (pa_cons (pv 3) (pa_nil)))) (pa_nil)))))) (pss_one (ps_ret (pe_bl))) (pss_nil))))))))
      (pss_cons (ps_for PassesOwn.never rfl (pi_list (pv 1)) (pg_name (i := 6) nd rfl (Or.inl rfl))
        (pss_one (ps_if (pt_not (pt_val (pe_call (GA_exact 8) (hr.mono (by decide)) rfl g_exact F_exact.kp b_exact .nil pass0 (pa_cons (pe_call G_stamps_read (hr.mono (by decide)) rfl g_stamps_read F_stamps_read.kp b_stamps_read .nil pass0 (pa_cons (pv 1) (pa_cons (pe_ix ix_tup (pv 6) (pe_int) (fun _ _ => rfl)) (pa_nil)))) (pa_cons (pe_call G_was (hr.mono (by decide)) rfl g_was F_was.kp b_was .nil pass0 (pa_cons (pv 1) (pa_cons (pv 6) (pa_nil)))) (pa_nil)))))) (pss_one (ps_ret (pe_bl))) (pss_nil))))
      (pss_one (ps_ret (pe_bl)))))), ?_⟩
    have hLH : LogAt H a ds := hL.same (off_le _ _)
    obtain ⟨xs, ha, lx, hx⟩ := id hLH
    have lpos : 0 < ds.length := List.length_pos_iff.mpr ne
    have ll : ds.length - 1 < ds.length := by omega
    have hdl : ds[ds.length - 1]? = some ds[ds.length - 1] := List.getElem?_eq_getElem ll
    have hxl : xs[ds.length - 1]? = some (xs[ds.length - 1]'(by omega)) := List.getElem?_eq_getElem (by omega)
    obtain ⟨t, rd, tw, ext, ht, _, _⟩ := hx _ _ _ hxl hdl
    have bl := bd _ (List.getElem_mem ll)
    obtain ⟨e, he⟩ : ∃ e, e = ds[ds.length - 1].n := ⟨_, rfl⟩
    rw [← he] at ht bl
    refine ⟨_, rfl, 1, rfl, a, xs, -1, .ref t, rfl, rfl, SqL.of ha, atI_last (by
      rw [List.getLast?_eq_getElem?, lx, hxl, ext]), t, _, 0, _, rfl, rfl, SqT.of ht, rfl, ?_⟩
    have emx : mixes ((e : Int) + 1) = 1 := mixes_one (by omega) (by omega)
    refine ⟨_, rfl, _, rfl, _, _, rfl, rfl, _, rfl, _, rfl, _, _, rfl, rfl, pu, (e : Int) + 1, N, rfl, by omega, log_small (by omega) (by omega), hP, by omega, by omega, fun r G1 r0 r1 b1 P1 => ?_⟩
    obtain ⟨r, rfl⟩ : ∃ q : Nat, r = (q : Int) := ⟨r.toNat, by omega⟩
    refine ⟨(by show 4 ≤ sizeLine; omega), fun Lq hLq => ⟨Lq, rfl, ⟨_, SqL.of upd_same⟩, ?_⟩⟩
    have b2 : But pu H (upd G1 Lq (.lst [V.int 0, V.int (e : Int), V.int ((e : Int) + 3), V.int (r : Int)])) := b1.trans (But.of (Same.updf hLq))
    have P2 : Purse (upd G1 Lq (.lst [V.int 0, V.int (e : Int), V.int ((e : Int) + 3), V.int (r : Int)])) pu (N + 1) := by
      rw [emx] at P1
      exact P1.same (Same.updf hLq)
    have hLq2 := upd_same (H := G1) (a := Lq) (o := .lst [V.int 0, V.int (e : Int), V.int ((e : Int) + 3), V.int (r : Int)])
    show ∃ W, _
    have L2 : LogAt (upd G1 Lq (.lst [V.int 0, V.int (e : Int), V.int ((e : Int) + 3), V.int (r : Int)])) a ds := (hL.same (but_off b2)).same (off_le _ _)
    generalize upd G1 Lq (.lst [V.int 0, V.int (e : Int), V.int ((e : Int) + 3), V.int (r : Int)]) = G2 at *
    have dct : ∀ (G : Hp) (q : Addr) (ps : List Nat) (Z : Nat → Nat), ps.length ≤ 1000 → G q = some (.dK (mV ps Z)) → TD G 7 (.ref q) (.dict (ps.map fun p : Nat => (.int (p : Int), .int (Z p : Int)))) := fun G q ps Z l h => TD.dct (n := 5) h l
    have pl := hG.pl
    refine for_it (n := 4) (walk_list (K := K) (a := Lq) (xs := [V.int 0, V.int (e : Int), V.int ((e : Int) + 3), V.int (r : Int)])) (fun i σ G => Same G2 G ∧ ∃ v3 v4 v5 v6, σ = [some (.ref pu), some (.ref a), some (.int (e : Int)), v3, v4, v5, v6])
      ⟨Same.refl _, _, _, _, _, rfl⟩ (fun i σ G _ hh => SqL.of (hh.1 _ _ hLq2)) ?_ ?_
    · rintro i x σ G G3 hi ⟨sG, v3, v4, v5, v6, rfl⟩ ⟨rfl, hv⟩
      have ex : ∃ n : Nat, x = .int (n : Int) := by
        match i, hv with
        | 0, z =>
          cases z
          exact ⟨0, rfl⟩
        | 1, z =>
          cases z
          exact ⟨e, rfl⟩
        | 2, z =>
          cases z
          exact ⟨e + 3, rfl⟩
        | 3, z =>
          cases z
          exact ⟨r, rfl⟩
      obtain ⟨n, rfl⟩ := ex
      have L3 := L2.same sG
      refine ⟨_, rfl, .ref a, logD ds, rfl, L3.tr hG, fun yh G4 s4 trh => ?_⟩
      obtain ⟨h, rfl, hLh⟩ := log_of_tr trh
      have L4 := hLh.same (nw_le _ _)
      refine ⟨_, rfl, _, rfl, h, n, ds, rfl, L4, hG, fun q G5 s5 nq hm => ?_⟩
      refine ⟨_, rfl, _, rfl, (by show 2 ≤ sizeLine; omega), fun A1 hA1 => ?_⟩
      have s6 := Same.updf (o := .lst [V.ref q, V.ref h]) hA1
      have L3a := ((L3.same (show Same G3 G4 from s4)).same s5).same s6
      refine ⟨_, rfl, _, rfl, a, (n : Int), ds, rfl, L3a, hG, fun q2 G7 s7 nq2 hm2 => ⟨_, rfl, (by show 2 ≤ sizeLine; omega), fun A2 hA2 => ?_⟩⟩
      have s8 := Same.updf (o := .lst [V.ref q2, V.ref a]) hA2
      refine ⟨.ref A1, .ref A2, .list [.dict ((pgs ds).map fun p : Nat => (.int (p : Int), .int (mkAt ds n p : Int))), logD ds], rfl, ?_, ?_, fun G9 s9 => ⟨true, rfl, iteF ?_⟩⟩
      · exact TD.lst ((s7.trans s8) _ _ upd_same) rfl (by simp) (td_cons (dct _ _ _ _ (by omega) ((s6.trans (s7.trans s8)) _ _ hm)) (td_cons (TD.of ((L4.same (s5.trans (s6.trans (s7.trans s8)))).tr hG)) td_nil))
      · exact TD.lst upd_same rfl (by simp) (td_cons (dct _ _ _ _ (by omega) (s8 _ _ hm2)) (td_cons (TD.of ((L3a.same (s7.trans s8)).tr hG)) td_nil))
      have s59 := s6.trans (s7.trans (s8.trans s9))
      have hm9 := s59 _ _ hm
      have sU : Same G4 (upd G9 q (.dK [])) := fun c o e => by
        rw [upd_ne (ne_of_none e nq)]
        exact s59 _ _ (s5 _ _ e)
      refine ⟨_, rfl, .inr (.inr (.inl ⟨rfl, .inl ⟨_, hm9⟩⟩)), q, _, rfl, rfl, hm9, ?_⟩
      generalize upd G9 q (.dK []) = U at *
      have LU := (L3.same (show Same G3 G4 from s4)).same sU
      refine ⟨_, rfl, _, rfl, h, n, ds, rfl, L4.same sU, hG, fun q3 J1 j1 nq3 hm3 => ?_⟩
      refine ⟨_, rfl, _, rfl, a, (n : Int), ds, rfl, LU.same j1, hG, fun q4 J2 j2 nq4 hm4 => ?_⟩
      exact ⟨.ref q3, .ref q4, _, rfl, (dct _ _ _ _ (by omega) (j2 _ _ hm3)).up, (dct _ _ _ _ (by omega) hm4).up, fun J3 j3 => ⟨true, rfl, iteF ⟨(sG.trans (show Same G3 G4 from s4)).trans (sU.trans (j1.trans (j2.trans j3))), _, _, _, _, rfl⟩⟩⟩
    · rintro σ G ⟨sG, v3, v4, v5, v6, rfl⟩
      have LG := L2.same sG
      obtain ⟨ys, hys, ly, hy⟩ := id LG
      have bH : But pu H G := b2.trans (But.of sG)
      refine ⟨_, rfl, a, rfl, ⟨_, SqL.of hys⟩, ?_⟩
      refine for_it (walk_list (K := K) (a := a) (xs := ys)) (fun i σ J => Same G J ∧ ∃ v6, σ = [some (.ref pu), some (.ref a), some (.int (e : Int)), v3, v4, v5, v6])
        ⟨Same.refl _, _, rfl⟩ (fun i σ J _ hh => SqL.of (hh.1 _ _ hys)) ?_ ?_
      · rintro i x σ J J2 hi ⟨sJ, v6', rfl⟩ ⟨rfl, hv⟩
        have li : i < ds.length := by omega
        have hdi : ds[i]? = some ds[i] := List.getElem?_eq_getElem li
        have md : ds[i] ∈ ds := List.getElem_mem li
        have l20 := (hG.ok _ md).len
        have hdx := (hy i x _ hv hdi).same sJ
        obtain ⟨t2, rd2, tw2, rfl, ht2, _, _⟩ := id hdx
        have LJ := LG.same sJ
        refine ⟨_, rfl, _, rfl, t2, _, 0, _, rfl, rfl, SqT.of ht2, rfl, a, ds[i], ds, rfl, LJ, hG, md, fun q G5 s5 nq hm => ?_⟩
        refine ⟨_, rfl, _, rfl, a, .ref t2, ds, ds[i], rfl, LJ.same s5, hG, md, hdx.same s5, fun q2 G6 s6 nq2 hm2 => ?_⟩
        exact ⟨.ref q, .ref q2, _, rfl, (dct _ _ _ _ (by omega) (s6 _ _ hm)).up, (dct _ _ _ _ (by omega) hm2).up, fun G7 s7 => ⟨true, rfl, iteF ⟨sJ.trans (s5.trans (s6.trans s7)), _, rfl⟩⟩⟩
      · rintro σ J ⟨sJ, v6', rfl⟩
        exact k J (bH.trans (But.of sJ)) ((P2.same sG).same sJ)
end
end K21
set_option Elab.async false
set_option linter.all false
set_option maxRecDepth 100000
set_option maxHeartbeats 8000000
namespace K21
open PySem PySem.Spec PyProof.Rows L2 KB
/-- a value of any kind that is asked about: a datum, or an empty dictionary -/
def VA (H : Hp) (v : V) (d : PyData) : Prop := Tr H 2 v d ∨ ∃ a, v = .ref a ∧ H a = some (.dK []) ∧ d = .dict []
theorem VA.same {H H' : Hp} (k : Same H H') {v : V} {d : PyData} : VA H v d → VA H' v d
  | .inl h => .inl (h.same k)
  | .inr ⟨a, e, h, e2⟩ => .inr ⟨a, e, k _ _ h, e2⟩
theorem VA.td {H : Hp} {v : V} {d : PyData} : VA H v d → TD H 2 v d
  | .inl h => TD.of h
  | .inr ⟨a, e, h, e2⟩ => by
    subst e e2
    exact TD.dct (n := 0) (ps := []) (m := fun _ => 0) h (by decide)
theorem tr_cs {H : Hp} {x : V} {d : PyData} : ∀ {n : Nat}, Tr H n x d → (x = .non ∧ d = .none) ∨ (∃ b, x = .bl b ∧ d = .bool b) ∨ (∃ i, x = .int i ∧ d = .int i) ∨ (∃ z, x = .str z ∧ d = .str z) ∨
    (∃ a xs ds, x = .ref a ∧ H a = some (.lst xs) ∧ d = .list ds ∧ xs.length = ds.length ∧ ds.length ≤ 1000) ∨ ∃ a xs ds, x = .ref a ∧ H a = some (.tup xs) ∧ d = .tuple ds ∧ xs.length = ds.length ∧ ds.length ≤ 1000 ∧ ∀ (i : Nat) (u : V) (e : PyData), xs[i]? = some u → ds[i]? = some e → Tr H (n - 1) u e := by
  have fl : ∀ {x : V} {d : PyData}, FlatD x d → (x = .non ∧ d = .none) ∨ (∃ b, x = .bl b ∧ d = .bool b) ∨ (∃ i, x = .int i ∧ d = .int i) ∨ (∃ z, x = .str z ∧ d = .str z) := fun h => by
    cases h
    · exact .inl ⟨rfl, rfl⟩
    · exact .inr (.inl ⟨_, rfl, rfl⟩)
    · exact .inr (.inr (.inl ⟨_, rfl, rfl⟩))
    · exact .inr (.inr (.inr ⟨_, rfl, rfl⟩))
  intro n h
  cases n with
  | zero =>
    rcases fl h with h | h | h | h
    · exact .inl h
    · exact .inr (.inl h)
    · exact .inr (.inr (.inl h))
    · exact .inr (.inr (.inr (.inl h)))
  | succ n =>
    rcases h with h | ⟨a, xs, ds, rfl, l, l1, t, c⟩
    · rcases fl h with h | h | h | h
      · exact .inl h
      · exact .inr (.inl h)
      · exact .inr (.inr (.inl h))
      · exact .inr (.inr (.inr (.inl h)))
    · rcases t with ⟨ha, rfl⟩ | ⟨ha, rfl⟩
      · exact .inr (.inr (.inr (.inr (.inl ⟨a, xs, ds, rfl, ha, rfl, l, l1⟩))))
      · exact .inr (.inr (.inr (.inr (.inr ⟨a, xs, ds, rfl, ha, rfl, l, l1, c⟩))))
def cntB : PyData → Bool
  | .int i => decide (i ≥ 0)
  | _ => false
def whB : PyData → Bool
  | .int _ => true
  | _ => false
def tupB : PyData → Int → Bool
  | .tuple ds, n => decide ((ds.length : Int) = n)
  | _, _ => false
/-- a datum is the pair of a number and a page -/
def isPr : PyData → Nat → Nat → Bool
  | .tuple [.int a, .int b], n, p => decide (a = n ∧ b = p)
  | _, _, _ => false
def inPr (d : PyData) (ws : List (Dd × Nat)) : Bool := ws.any fun w => isPr d w.1.n w.2
def prD (w : Dd × Nat) : PyData := .tuple [.int (w.1.n : Int), .int (w.2 : Int)]
theorem tr_tyI {K : PySem.W.Frag} {H : Hp} {n : Nat} {x : V} {d : PyData} (h : Tr H n x d) : ∃ t i b, TyX K H x (.type t) ∧ kitB t "int" = some i ∧ kitB t "bool" = some b ∧ whB d = (i && !b) := by
  rcases (tr_cs h) with ⟨rfl, rfl⟩ | ⟨b, rfl, rfl⟩ | ⟨i, rfl, rfl⟩ | ⟨z, rfl, rfl⟩ | ⟨a, xs, ds, rfl, ha, rfl, _⟩ | ⟨a, xs, ds, rfl, ha, rfl, _⟩
  · exact ⟨"NoneType", false, false, .base .non, by decide +kernel, by decide +kernel, rfl⟩
  · exact ⟨"bool", true, true, .base (.bl b), by decide +kernel, by decide +kernel, rfl⟩
  · exact ⟨"int", true, false, .base (.int i), by decide +kernel, by decide +kernel, rfl⟩
  · exact ⟨"str", false, false, .base (.str z), by decide +kernel, by decide +kernel, rfl⟩
  · exact ⟨"list", false, false, .base (.lst ha), by decide +kernel, by decide +kernel, rfl⟩
  · exact ⟨"tuple", false, false, .base (.tup ha), by decide +kernel, by decide +kernel, rfl⟩
def spWholeV : Sp := fun vs H Q _ => ∃ (x : V) (d : PyData) (n : Nat), vs = [x] ∧ Tr H n x d ∧ Q (.bl (whB d)) H
def spCountV : Sp := fun vs H Q _ => ∃ (x : V) (d : PyData) (n : Nat), vs = [x] ∧ Tr H n x d ∧ Q (.bl (cntB d)) H
def spTupV : Sp := fun vs H Q _ => ∃ (x : V) (d : PyData) (n : Int), vs = [x, .int n] ∧ VA H x d ∧ Q (.bl (tupB d n)) H
def spIsWhy : Sp := fun vs H Q _ => ∃ (a b : Addr) (x : V) (ds : List Dd) (ks : List Nat) (m : Nat → Nat) (d : PyData), vs = [.ref a, .ref b, x] ∧ LogAt H a ds ∧ Lg ds ∧ MkAt H b ks m ∧ ks.Perm (pgs ds) ∧ Mk ds m ∧ VA H x d ∧ ∀ H', Same H H' → Q (.bl (inPr d (wr ds m))) H'
theorem any_pr (ws : List (Dd × Nat)) (a b : Int) : ((ws.map prD).any fun z => PyData.eqv z (.tuple [.int a, .int b])) = inPr (.tuple [.int a, .int b]) ws := by
  unfold inPr
  rw [List.any_map]
  refine congrArg (fun f => ws.any f) (funext fun w => ?_)
  rw [Bool.eq_iff_iff]
  show PyData.eqv (.tuple [.int (w.1.n : Int), .int (w.2 : Int)]) (.tuple [.int a, .int b]) = true ↔ isPr (.tuple [.int a, .int b]) w.1.n w.2 = true
  simp [isPr, PyData.eqv, PyData.eqvAll]
  constructor
  · rintro ⟨h1, h2⟩
    exact ⟨h1.symm, h2.symm⟩
  · rintro ⟨h1, h2⟩
    exact ⟨h1.symm, h2.symm⟩
theorem lay_pr : ∀ ws : List (Dd × Nat), PyData.canLayAll0 (ws.map prD) = true ∧ PyData.depthAll (ws.map prD) ≤ 1
  | [] => ⟨rfl, Nat.zero_le _⟩
  | x :: l => by
    obtain ⟨h1, h2⟩ := lay_pr l
    constructor
    · show PyData.canLayAll0 (prD x :: l.map prD) = true
      simp only [PyData.canLayAll0, prD, PyData.canLay0, h1, Bool.and_self]
    · show PyData.depthAll (prD x :: l.map prD) ≤ 1
      simp only [PyData.depthAll, prD, PyData.depth]
      omega
theorem shaped_prs (ws : List (Dd × Nat)) : SeqAt.shaped (.list (ws.map prD)) = true := by
  obtain ⟨h1, h2⟩ := lay_pr ws
  unfold SeqAt.shaped
  rw [Bool.and_eq_true]
  constructor
  · simp only [PyData.canLay0]
    exact h1
  · refine decide_eq_true ?_
    simp only [PyData.depth]
    omega
theorem shaped_pr (a b : Int) : SeqAt.shaped (.tuple [.int a, .int b]) = true := rfl
theorem dp_prs {K : PySem.W.Frag} {H : Hp} : ∀ {ws : List (Dd × Nat)} {ys : List V}, Paired (TwoAt H) ws ys → DpAll K H ys (ws.map prD)
  | _, _, .nil => .nil
  | _, _, .cons r t => by
    obtain ⟨T, rfl, h⟩ := r
    exact .cons (.tup (SqT.of h) (.cons (.int _) (.cons (.int _) .nil))) (dp_prs t)
theorem isPr_cnt {d e : PyData} {n p : Nat} (h : cntB d = false ∨ cntB e = false) : isPr (.tuple [d, e]) n p = false := by
  cases hd : d with
  | int a =>
    cases he : e with
    | int b =>
      rw [hd, he] at h
      refine decide_eq_false fun z => ?_
      rcases h with h | h
      · have := of_decide_eq_false h
        omega
      · have := of_decide_eq_false h
        omega
    | _ => rfl
  | _ => rfl
theorem inPr_no {d : PyData} {ws : List (Dd × Nat)} (h : ∀ n p, isPr d n p = false) : inPr d ws = false := by
  unfold inPr
  rw [List.any_eq_false]
  intro w _
  rw [h]
  exact Bool.false_ne_true
theorem isPr_two {d : PyData} {n p : Nat} (h : tupB d 2 = false) : isPr d n p = false := by
  unfold isPr
  split
  · next a b _ =>
    exact absurd h (by simp [tupB])
  · rfl
theorem wrD_len {ds : List Dd} (hG : Lg ds) (m : Nat → Nat) : (wr ds m).length ≤ 20 * ds.length := wr_len (fun d hd => (hG.ok d hd).len) m
namespace V
section
variable {P : Program} {w : World} {K : PySem.W.Frag} {mg : Str → Option Value} {base : Heap}
theorem ok_is_whole_number {f : Addr} {fd : FuncData} (F : FnP K "is_whole_number" s_is_whole_number f fd) (Z : FreeS mg) :
    FnOk P w K mg base CX0 1 f fd ["value"] spWholeV := by
  refine F.ok sc_is_whole_number (fun vs H Q E h => ?_) (fun cdv A outer s H vs Q E hr h => ?_)
  · obtain ⟨x, d, n, rfl, _⟩ := h
    rfl
  · obtain ⟨x, d, n, rfl, hx, k⟩ := h
    have nd := sc_is_whole_number.nd
    refine ⟨_, PSs.nox (pss_one (ps_ret (pe_and (pe_callB call_isi (by rfl) Z.isi (by decide +kernel) (pa_cons (pv 0) (pa_cons (pe_bltn (v := .ty "int") (by rfl) Z.int (by decide +kernel) rfl) pa_nil))) (pe_one (pe_not (pe_callB call_isi (by rfl) Z.isi (by decide +kernel) (pa_cons (pv 0) (pa_cons (pe_bltn (v := .ty "bool") (by rfl) Z.tbool (by decide +kernel) rfl) pa_nil)))))))), ?_⟩
    obtain ⟨t, i, b, ty, k1, k2, e⟩ := tr_tyI (K := K) hx
    rw [e] at k
    cases i with
    | false => exact ⟨_, rfl, x, .ty "int", .type t, .type "int", false, rfl, .ty _, ty, kit_ty k1, false, rfl, iteF k⟩
    | true =>
      refine ⟨_, rfl, x, .ty "int", .type t, .type "int", true, rfl, .ty _, ty, kit_ty k1, true, rfl, iteT ?_⟩
      exact ⟨_, rfl, x, .ty "bool", .type t, .type "bool", b, rfl, .ty _, ty, kit_ty k2, b, rfl, k⟩
theorem ok_is_count {f : Addr} {fd : FuncData} (F : FnP K "is_count" s_is_count f fd) (Z : FreeS mg)
    {f_is_whole_number : Addr} {d_is_whole_number : FuncData} (g_is_whole_number : mg "is_whole_number" = some (.ref f_is_whole_number)) (F_is_whole_number : FnP K "is_whole_number" s_is_whole_number f_is_whole_number d_is_whole_number) (G_is_whole_number : FnOk P w K mg base CX0 1 f_is_whole_number d_is_whole_number ["value"] spWholeV) :
    FnOk P w K mg base CX0 2 f fd ["value"] spCountV := by
  have b_is_whole_number : Binds K d_is_whole_number ["value"] [] := F_is_whole_number.bindsN fun _ _ _ _ _ _ us hl => match us, hl with | [_], _ => rfl
  refine F.ok sc_is_count (fun vs H Q E h => ?_) (fun cdv A outer s H vs Q E hr h => ?_)
  · obtain ⟨x, d, n, rfl, _⟩ := h
    rfl
  · obtain ⟨x, d, n, rfl, hx, k⟩ := h
    have nd := sc_is_count.nd
    refine ⟨_, PSs.nox (pss_one (ps_ret (pe_and (pe_call G_is_whole_number (hr.mono (by decide)) rfl g_is_whole_number F_is_whole_number.kp b_is_whole_number .nil pass0 (pa_cons (pv 0) (pa_nil))) (pe_one (pe_cmpR op_ge (pv 0) (pe_int) (nomark _)))))), ?_⟩
    refine ⟨_, rfl, x, d, n, rfl, hx, ?_⟩
    rcases (tr_cs hx) with ⟨rfl, rfl⟩ | ⟨b, rfl, rfl⟩ | ⟨i, rfl, rfl⟩ | ⟨z, rfl, rfl⟩ | ⟨a, xs, ds, rfl, ha, rfl, _⟩ | ⟨a, xs, ds, rfl, ha, rfl, _⟩
    · exact ⟨false, rfl, iteF k⟩
    · exact ⟨false, rfl, iteF k⟩
    · exact ⟨true, rfl, iteT ⟨_, rfl, _, _, rfl, rfl, k⟩⟩
    · exact ⟨false, rfl, iteF k⟩
    · exact ⟨false, rfl, iteF k⟩
    · exact ⟨false, rfl, iteF k⟩
theorem ok_is_tuple_of {f : Addr} {fd : FuncData} (F : FnP K "is_tuple_of" s_is_tuple_of f fd) (Z : FreeS mg) :
    FnOk P w K mg base CX0 1 f fd ["value", "length"] spTupV := by
  refine F.ok sc_is_tuple_of (fun vs H Q E h => ?_) (fun cdv A outer s H vs Q E hr h => ?_)
  · obtain ⟨x, d, n, rfl, _⟩ := h
    rfl
  · obtain ⟨x, d, n, rfl, hx, k⟩ := h
    have nd := sc_is_tuple_of.nd
    refine ⟨_, PSs.nox (pss_one (ps_ret (pe_and (pe_callB call_isi (by rfl) Z.isi (by decide +kernel) (pa_cons (pv 0) (pa_cons (pe_bltn (v := .ty "tuple") (by rfl) Z.ttuple (by decide +kernel) rfl) pa_nil))) (pe_one (pe_cmpR op_eq (pe_callB call_len_seq (by rfl) Z.len (by decide +kernel) (pa_cons (pv 0) (pa_nil))) (pv 1) (nomark _)))))), ?_⟩
    rcases hx with hx | ⟨a, rfl, ha, rfl⟩
    · rcases (tr_cs hx) with ⟨rfl, rfl⟩ | ⟨b, rfl, rfl⟩ | ⟨i, rfl, rfl⟩ | ⟨z, rfl, rfl⟩ | ⟨a, xs, ds, rfl, ha, rfl, _⟩ | ⟨a, xs, ds, rfl, ha, rfl, l1, _⟩
      · exact ⟨_, rfl, _, .ty "tuple", .type "NoneType", .type "tuple", false, rfl, .ty _, .base .non, kit_ty (by decide +kernel), false, rfl, iteF k⟩
      · exact ⟨_, rfl, _, .ty "tuple", .type "bool", .type "tuple", false, rfl, .ty _, .base (.bl b), kit_ty (by decide +kernel), false, rfl, iteF k⟩
      · exact ⟨_, rfl, _, .ty "tuple", .type "int", .type "tuple", false, rfl, .ty _, .base (.int i), kit_ty (by decide +kernel), false, rfl, iteF k⟩
      · exact ⟨_, rfl, _, .ty "tuple", .type "str", .type "tuple", false, rfl, .ty _, .base (.str z), kit_ty (by decide +kernel), false, rfl, iteF k⟩
      · exact ⟨_, rfl, _, .ty "tuple", .type "list", .type "tuple", false, rfl, .ty _, .base (.lst ha), kit_ty (by decide +kernel), false, rfl, iteF k⟩
      · refine ⟨_, rfl, .ref a, .ty "tuple", .type "tuple", .type "tuple", true, rfl, .ty _, .base (.tup ha), kit_ty (by decide +kernel), true, rfl, iteT ?_⟩
        refine ⟨_, rfl, a, xs, rfl, Or.inr (Or.inl (.inl ha)), _, rfl, rfl, ?_⟩
        have e : decide (V.int (xs.length : Int) = V.int n) = tupB (.tuple ds) n := by
          show _ = decide ((ds.length : Int) = n)
          rw [← l1]
          by_cases h : (xs.length : Int) = n
          · rw [decide_eq_true h, decide_eq_true (congrArg V.int h)]
          · rw [decide_eq_false h, decide_eq_false fun z => h (V.int.inj z)]
        rw [e]
        exact k
    · exact ⟨_, rfl, _, .ty "tuple", .type "dict", .type "tuple", false, rfl, .ty _, .base (.dK ha), kit_ty (by decide +kernel), false, rfl, iteF k⟩
abbrev s_is_why_wrong : Stmt := top 35
abbrev N_is_why_wrong : List Str := ["deeds", "stamps", "value", "deed", "page", "part"]
theorem sc_is_why_wrong : FnScope N_is_why_wrong ["deeds", "stamps", "value"] (defScope s_is_why_wrong) := ⟨rfl, rfl, rfl, by decide +kernel, rfl, by decide +kernel, by decide +kernel⟩
theorem ok_is_why_wrong {f : Addr} {fd : FuncData} (F : FnP K "is_why_wrong" s_is_why_wrong f fd) (Z : FreeS mg)
    {f_need_stamps : Addr} {d_need_stamps : FuncData} (g_need_stamps : mg "need_stamps" = some (.ref f_need_stamps)) (F_need_stamps : FnP K "need_stamps" s_need_stamps f_need_stamps d_need_stamps) (G_need_stamps : FnOk P w K mg base CX0 8 f_need_stamps d_need_stamps ["deeds", "stamps"] spNeedS)
    {f_is_tuple_of : Addr} {d_is_tuple_of : FuncData} (g_is_tuple_of : mg "is_tuple_of" = some (.ref f_is_tuple_of)) (F_is_tuple_of : FnP K "is_tuple_of" s_is_tuple_of f_is_tuple_of d_is_tuple_of) (G_is_tuple_of : FnOk P w K mg base CX0 1 f_is_tuple_of d_is_tuple_of ["value", "length"] spTupV)
    {f_wrong_reads : Addr} {d_wrong_reads : FuncData} (g_wrong_reads : mg "wrong_reads" = some (.ref f_wrong_reads)) (F_wrong_reads : FnP K "wrong_reads" s_wrong_reads f_wrong_reads d_wrong_reads) (G_wrong_reads : FnOk P w K mg base CX0 1 f_wrong_reads d_wrong_reads ["deeds", "stamps"] spWrong)
    {f_is_count : Addr} {d_is_count : FuncData} (g_is_count : mg "is_count" = some (.ref f_is_count)) (F_is_count : FnP K "is_count" s_is_count f_is_count d_is_count) (G_is_count : FnOk P w K mg base CX0 2 f_is_count d_is_count ["value"] spCountV) :
    FnOk P w K mg base CX0 9 f fd ["deeds", "stamps", "value"] spIsWhy := by
  have b_need_stamps : Binds K d_need_stamps ["deeds", "stamps"] [] := F_need_stamps.bindsN fun _ _ _ _ _ _ us hl => match us, hl with | [_, _], _ => rfl
  have b_is_tuple_of : Binds K d_is_tuple_of ["value", "length"] [] := F_is_tuple_of.bindsN fun _ _ _ _ _ _ us hl => match us, hl with | [_, _], _ => rfl
  have b_wrong_reads : Binds K d_wrong_reads ["deeds", "stamps"] [] := F_wrong_reads.bindsN fun _ _ _ _ _ _ us hl => match us, hl with | [_, _], _ => rfl
  have b_is_count : Binds K d_is_count ["value"] [] := F_is_count.bindsN fun _ _ _ _ _ _ us hl => match us, hl with | [_], _ => rfl
  refine F.ok sc_is_why_wrong (fun vs H Q E h => ?_) (fun cdv A outer s H vs Q E hr h => ?_)
  · obtain ⟨a, b, x, ds, ks, m, d, rfl, _⟩ := h
    rfl
  · obtain ⟨a, b, x, ds, ks, m, d, rfl, hL, hG, hb, pk, mk, hx, k⟩ := h
    have l60 := hG.len
    have sl : (3000 : Nat) ≤ sizeLine := by decide
    have hu65 : _ + 65 < cLine := Nat.lt_of_le_of_lt (Nat.add_le_add_left (by decide : 65 ≤ 200) _) (Nat.lt_of_le_of_lt (Nat.add_le_add_right (Nat.le_add_right _ _) _) hr.un)
    have nd := sc_is_why_wrong.nd
    refine ⟨_, PSs.nox (pss_cons (ps_expr (pe_call G_need_stamps (hr.mono (by decide)) rfl g_need_stamps F_need_stamps.kp b_need_stamps .nil pass0 (pa_cons (pv 0) (pa_cons (pv 1) (pa_nil)))))
      (pss_cons (ps_if (PW.pt (pw_or (pt_not (pt_val (pe_call G_is_tuple_of (hr.mono (by decide)) rfl g_is_tuple_of F_is_tuple_of.kp b_is_tuple_of .nil pass0 (pa_cons (pv 2) (pa_cons (pe_int) (pa_nil)))))) (pw_or1 (pt_not (pt_val (pe_callB (cr_all rfl) (by rfl) Z.all (by decide +kernel) (pa_cons (pe_lc (own := [("part", 5)]) (g := gName 5) (tt := tYes) (te := tCall spCountV [] E0 (tCons (tVar 5) (tNil))) (by rfl) nd (pi_tup (pv 2))
          (blkOk_by (own := [("part", 5)]) (N := N_is_why_wrong) (sc := defScope s_is_why_wrong) (by decide +kernel)) (fun _ _ _ _ _ => pg_name (i := 5) nd rfl (Or.inl rfl)) (fun _ _ _ _ _ => pts_nil)
          (fun _ _ _ _ _ => pe_call G_is_count (hr.mono (by decide)) rfl g_is_count F_is_count.kp b_is_count .nil pass0 (pa_cons (pv 5) (pa_nil)))) (pa_nil)))))))) (pss_one (ps_ret (pe_bl))) (pss_nil))
      (pss_one (ps_ret (pe_cmpR (op_inD hu65) (pv 2) (pe_lc (own := [("deed", 3), ("page", 4)]) (g := gTup K 2 (gCons (gName 3) (gCons (gName 4) (gNil)))) (tt := tYes) (te := tTup (tCons (tOp (rIxT K) (tVar 3) (tC (.int 0))) (tCons (tVar 4) (tNil)))) (by rfl) nd (pi_list (pe_call G_wrong_reads (hr.mono (by decide)) rfl g_wrong_reads F_wrong_reads.kp b_wrong_reads .nil pass0 (pa_cons (pv 0) (pa_cons (pv 1) (pa_nil)))))
          (blkOk_by (own := [("deed", 3), ("page", 4)]) (N := N_is_why_wrong) (sc := defScope s_is_why_wrong) (by decide +kernel)) (fun _ _ _ _ _ => pg_tup rfl (pgs_cons (pg_name (i := 3) nd rfl (Or.inl rfl)) (pgs_cons (pg_name (i := 4) nd rfl (Or.inl rfl)) (pgs_nil)))) (fun _ _ _ _ _ => pts_nil)
          (fun _ _ _ _ _ => pe_tup (pa_cons (pe_ix ix_tup (pv 3) (pe_int) (fun _ _ => rfl)) (pa_cons (pv 4) (pa_nil))))) (by rfl)))))), ?_⟩
    refine ⟨_, rfl, _, rfl, a, b, ds, ks, m, rfl, hL, hG, hb, pk, mk, fun G s1 => ?_⟩
    have hxG := hx.same s1
    refine ⟨_, rfl, x, d, 2, rfl, hxG, ?_⟩
    cases ht : tupB d 2 with
    | false =>
      have e0 : inPr d (wr ds m) = false := inPr_no fun n p => isPr_two ht
      have kk := k G s1
      rw [e0] at kk
      exact ⟨false, rfl, iteT (iteT kk)⟩
    | true =>
      refine ⟨true, rfl, iteF ?_⟩
      obtain ⟨T, x0, x1, d0, d1, rfl, hT, rfl, t0, t1⟩ : ∃ T x0 x1 d0 d1, x = .ref T ∧ G T = some (.tup [x0, x1]) ∧ d = .tuple [d0, d1] ∧ Tr G 1 x0 d0 ∧ Tr G 1 x1 d1 := by
        rcases hxG with hx1 | ⟨a, rfl, ha, rfl⟩
        · rcases tr_cs hx1 with ⟨rfl, rfl⟩ | ⟨b, rfl, rfl⟩ | ⟨z, rfl, rfl⟩ | ⟨z, rfl, rfl⟩ | ⟨a, xs, ds, rfl, ha, rfl, _⟩ | ⟨a, xs, ds, rfl, ha, rfl, lx, l1, kx⟩
          · cases ht
          · cases ht
          · cases ht
          · cases ht
          · cases ht
          · have l2 : (ds.length : Int) = 2 := of_decide_eq_true ht
            match xs, ds, lx, l2, ha, kx with
            | [x0, x1], [d0, d1], _, _, ha, kx => exact ⟨a, x0, x1, d0, d1, rfl, ha, rfl, kx 0 _ _ rfl rfl, kx 1 _ _ rfl rfl⟩
            | [], _ :: _, lx, _, _, _ => cases lx
            | _, [], _, l2, _, _ => cases l2
            | _, [_], _, l2, _, _ => cases l2
            | _, _ :: _ :: _ :: _, _, l2, _, _ =>
              simp at l2
              omega
            | [_], [_, _], lx, _, _, _ => cases lx
            | _ :: _ :: _ :: _, [_, _], lx, _, _, _ => cases lx
        · cases ht
      refine ⟨_, rfl, T, rfl, ⟨_, SqT.of hT⟩, fun D hD => ?_⟩
      refine lc_sel (n := 2) (walk_tup (K := K) (a := T) (xs := [x0, x1])) (fun i => some (.bl (cntB (([d0, d1] : List PyData).getD i .none)))) (by decide) hD (fun H2 s2 => SqT.of (s2 _ _ hT)) ?_ ?_
      · rintro i v H2 H3 Qy Qn hi sH ⟨rfl, hv⟩ ky kn
        have tv : Tr G 1 v (([d0, d1] : List PyData).getD i .none) := by
          match i, hi, hv with
          | 0, _, hv =>
            cases hv
            exact t0
          | 1, _, hv =>
            cases hv
            exact t1
        exact ⟨rfl, _, rfl, v, _, 1, rfl, tv.same sH, ky _ _ (Same.refl _) rfl⟩
      · intro H2 s2 hR
        have s12 := s1.trans s2
        refine ⟨D, [cntB d0, cntB d1], rfl, SqL.of hR, _, rfl, ?_⟩
        by_cases hc : cntB d0 = false ∨ cntB d1 = false
        · have e0 : inPr (.tuple [d0, d1]) (wr ds m) = false := inPr_no fun n p => isPr_cnt hc
          have kk := k H2 s12
          rw [e0] at kk
          have ea : ([cntB d0, cntB d1].all id) = false := by
            rcases hc with hc | hc <;> simp [hc]
          rw [ea]
          exact iteT kk
        · have c0 : cntB d0 = true := by
            cases h : cntB d0 with
            | true => rfl
            | false => exact absurd (.inl h) hc
          have c1 : cntB d1 = true := by
            cases h : cntB d1 with
            | true => rfl
            | false => exact absurd (.inr h) hc
          have ea : ([cntB d0, cntB d1].all id) = true := by simp [c0, c1]
          rw [ea]
          refine iteF ?_
          obtain ⟨i0, rfl, rfl⟩ : ∃ i, x0 = .int i ∧ d0 = .int i := by
            rcases tr_cs t0 with ⟨rfl, rfl⟩ | ⟨b, rfl, rfl⟩ | ⟨z, rfl, rfl⟩ | ⟨z, rfl, rfl⟩ | ⟨a, xs, ds, rfl, ha, rfl, _⟩ | ⟨a, xs, ds, rfl, ha, rfl, lx, l1, kx⟩
            · cases c0
            · cases c0
            · exact ⟨z, rfl, rfl⟩
            · cases c0
            · cases c0
            · cases c0
          obtain ⟨i1, rfl, rfl⟩ : ∃ i, x1 = .int i ∧ d1 = .int i := by
            rcases tr_cs t1 with ⟨rfl, rfl⟩ | ⟨b, rfl, rfl⟩ | ⟨z, rfl, rfl⟩ | ⟨z, rfl, rfl⟩ | ⟨a, xs, ds, rfl, ha, rfl, _⟩ | ⟨a, xs, ds, rfl, ha, rfl, lx, l1, kx⟩
            · cases c1
            · cases c1
            · exact ⟨z, rfl, rfl⟩
            · cases c1
            · cases c1
            · cases c1
          refine ⟨_, rfl, _, rfl, _, rfl, a, b, ds, ks, m, rfl, hL.same s12, hG, s12 _ _ hb, pk, fun q G3 ys s3 nq hq py => ⟨q, rfl, ⟨_, SqL.of hq⟩, fun D2 hD2 => ?_⟩⟩
          have wl := wrD_len hG m
          refine lc_rel (walk_list (K := K) (a := q) (xs := ys)) (fun _ => true) (fun j y G => ∃ w, (wr ds m)[j]? = some w ∧ TwoAt G w y) (fun j y G G' s1 ⟨w, e, h⟩ => ⟨w, e, h.same s1⟩) (by have := py.1; omega) hD2 (fun G s => SqL.of (s _ _ hq)) ?_ ?_
          · rintro j y G4 G5 Qy Qn hj s4 ⟨acc, hacc⟩ ⟨rfl, hv⟩ ky_ kn_
            have lj : j < (wr ds m).length := by
              have := py.1
              omega
            have hw : (wr ds m)[j]? = some (wr ds m)[j] := List.getElem?_eq_getElem lj
            obtain ⟨t, xx, rfl, ht2, hd2⟩ := py.2 j y _ hv hw
            have ht4 := s4 _ _ ht2
            obtain ⟨T4, rd, tw, rfl, hT4, _, _⟩ := hd2.same s4
            refine ⟨t, [_, _], rfl, .inl (.inl ht4), rfl, _, [_], rfl, _, [], rfl, rfl, ?_⟩
            refine ⟨rfl, _, rfl, T4, _, 0, _, rfl, rfl, SqT.of hT4, rfl, _, rfl, (by show 2 ≤ sizeLine; omega), fun T5 hT5 => ky_ _ _ rfl (Same.updf hT5) ⟨_, hw, T5, rfl, ?_⟩⟩
            rw [off_at (ne_of_none hacc hT5).symm, upd_same]
          · rintro G4 zs s4 hzs pz
            rw [filter_true] at pz
            have s14 := (s12.trans s3).trans s4
            have pz2 : Paired (TwoAt G4) (wr ds m) zs := by
              have lz := paired_len pz
              rw [List.length_range] at lz
              have e : (List.range ys.length).map (fun j => (wr ds m)[j]?) = (wr ds m).map some := by
                refine List.ext_getElem (by rw [List.length_map, List.length_map, List.length_range]; exact py.1) fun i h1 h2 => ?_
                rw [List.length_map, List.length_range] at h1
                simp
              have p3 : Paired (fun (o : Option (Dd × Nat)) y => ∃ w, o = some w ∧ TwoAt G4 w y) ((wr ds m).map some) zs := by
                rw [← e]
                exact paired_map (f := fun j => (wr ds m)[j]?) (paired_mono (fun j y ⟨w, e, h⟩ => ⟨w, e, h.same (off_le _ _)⟩) pz)
              generalize wr ds m = W at p3
              clear pz lz e hzs
              induction W generalizing zs with
              | nil =>
                cases p3
                exact .nil
              | cons w W ih =>
                cases p3 with
                | cons r t =>
                  obtain ⟨w', e, h⟩ := r
                  cases e
                  exact .cons h (ih _ t)
            refine ⟨_, _, .tup (SqT.of ((s2.trans (s3.trans s4)) _ _ hT)) (.cons (.int _) (.cons (.int _) .nil)), .lst (SqL.of hzs) (dp_prs pz2), shaped_pr _ _, shaped_prs _, ?_⟩
            rw [any_pr]
            exact k _ s14
end
end V
end K21
set_option Elab.async false
set_option linter.all false
set_option maxRecDepth 100000
set_option maxHeartbeats 8000000
namespace K21
open PySem PySem.Spec PyProof.Rows L2 KB RZ
/-- two readings of one function -/
theorem fn_or {P : Program} {w : World} {K : PySem.W.Frag} {mg : Str → Option Value} {base : Heap} {CX : CXT} {k : Nat} {f : Addr} {fd : FuncData} {ps : List Str} {A B : Sp} (hA : FnOk P w K mg base CX k f fd ps A) (hB : FnOk P w K mg base CX k f fd ps B) :
    FnOk P w K mg base CX k f fd ps fun vs H Q E => A vs H Q E ∨ B vs H Q E :=
  ⟨fun vs H Q E h => h.elim (hA.len _ _ _ _) (hB.len _ _ _ _), fun A' outer s H args us vs Q E hr he hb hv h => h.elim (hA.run A' outer s H args us vs Q E hr he hb hv) (hB.run A' outer s H args us vs Q E hr he hb hv)⟩
/-- if a text, then one that can be compared -/
def StrS (d : PyData) : Prop := ∀ z, d = .str z → SeqAt.shaped (.str z) = true
def spSameD : Sp := fun vs H Q _ => ∃ a : Addr, vs = [.ref a] ∧ H a = some (.dK []) ∧ ∀ q H', Same H H' → H q = none → H' q = some (.dK []) → Q (.ref q) H'
def eqI : PyData → Int → Bool
  | .int i, j => decide (i = j)
  | _, _ => false
theorem dec_eqI (z j : Int) : decide (V.int z = V.int j) = eqI (.int z) j := by
  show _ = decide (z = j)
  by_cases h : z = j
  · rw [decide_eq_true h, decide_eq_true (congrArg V.int h)]
  · rw [decide_eq_false h, decide_eq_false fun e => h (V.int.inj e)]
def spExI : Sp := fun vs H Q _ => ∃ (x : V) (d : PyData) (n : Nat) (j : Int), vs = [x, .int j] ∧ Tr H n x d ∧ ∀ H', Same H H' → Q (.bl (eqI d j)) H'
def spExP : Sp := fun vs H Q _ => ∃ (x : V) (d : PyData) (T : Addr) (n p : Nat), vs = [x, .ref T] ∧ VA H x d ∧ StrS d ∧ H T = some (.tup [.int (n : Int), .int (p : Int)]) ∧ ∀ H', Same H H' → Q (.bl (isPr d n p)) H'
section
variable {P : Program} {w : World} {K : PySem.W.Frag} {mg : Str → Option Value} {base : Heap} {f : Addr} {fd : FuncData}
theorem ok_sameD (F : FnP K "_law_same" s_same f fd) (Z : FreeS mg) : FnOk P w K mg base CX0 1 f fd ["_law_thing"] spSameD := by
  refine F.ok sc_same (fun vs H Q E h => ?_) (fun cdv A outer s H vs Q E hr h => ?_)
  · obtain ⟨a, rfl, _⟩ := h
    rfl
  · obtain ⟨a, rfl, ha, k⟩ := h
    have nd := sc_same.nd
    have sl : (2000 : Nat) ≤ sizeLine := by decide
    refine ⟨_, PSs.nox (pss_cons (ps_if (pt_val (pe_callB call_isi (by rfl) Z.isi (by decide +kernel) (pa_cons (pv 0) (pa_cons (pe_bltn (v := .ty "dict") (by rfl) Z.tdict (by decide +kernel) rfl) pa_nil)))) (pss_one (ps_ret (pe_callTy (call_dictPR rfl) (by rfl) Z.tdict (by decide +kernel) (pa_cons (pe_lock (pe_lc (own := [("_law_key", 2)]) (g := gName 2) (tt := tYes) (te := fun _ _ _ => False) (by rfl) nd (pi_keys (pv 0))
          (blkOk_by (own := [("_law_key", 2)]) (N := N_same) (sc := defScope s_same) (by decide +kernel)) (fun _ _ _ _ _ => pg_name (i := 2) nd rfl (Or.inl rfl)) (fun _ _ _ _ _ => pts_nil)
          (fun _ _ _ _ _ => pe_dead))) (pa_nil))))) (pss_nil))
      (pss_cons (ps_if (pt_val (pe_callB call_isi (by rfl) Z.isi (by decide +kernel) (pa_cons (pv 0) (pa_cons (pe_bltn (v := .ty "list") (by rfl) Z.tlist (by decide +kernel) rfl) pa_nil)))) (pss_one ps_dead) (pss_nil))
      (pss_one (ps_ret (pe_ifExp (pt_val (pe_callB call_isi (by rfl) Z.isi (by decide +kernel) (pa_cons (pv 0) (pa_cons (pe_bltn (v := .ty "tuple") (by rfl) Z.ttuple (by decide +kernel) rfl) pa_nil)))) (pe_dead) (pv 0)))))), ?_⟩
    refine ⟨_, rfl, .ref a, .ty "dict", .type "dict", .type "dict", true, rfl, .ty _, .base (.dK ha), kit_ty (by decide +kernel), true, rfl, iteT ?_⟩
    refine ⟨a, _, ha, trivial, fun od => ?_⟩
    refine ⟨_, rfl, a, od, rfl, .inl ⟨_, upd_same, fun D hD => ?_⟩⟩
    have nDa : D ≠ a := fun z => by
      rw [z, upd_same] at hD
      cases hD
    have hDG : H D = none := by
      rw [upd_ne nDa] at hD
      exact hD
    refine lc_sel (n := 0) (te := fun _ _ _ => False) (by have := walk_keys (d := a) (o := od) (kvs := []); exact this) (fun _ => some (.bl true)) (by decide) hD (fun H2 q2 => q2 _ _ upd_same) ?_ ?_
    · rintro i v H2 H3 Qy Qn hi sH _ ky' kn
      omega
    · intro H2 q2 hR
      refine ⟨q2 _ _ upd_same, ?_⟩
      have sH : Same H (upd H2 a (.dK [])) := fun c o e => by
        by_cases z : c = a
        · rw [z, ha] at e
          cases e
          rw [z, upd_same]
        · rw [upd_ne z]
          exact q2 _ _ (by rw [upd_ne z]; exact e)
      refine ⟨D, [], [], rfl, SqL.of ((upd_ne nDa).trans hR), .nil, fun q hq => ?_⟩
      exact k q _ (sH.trans (Same.updf hq)) (none_back sH hq) upd_same
theorem ok_exI (F : FnP K "_law_exact" s_exact f fd) (Z : FreeS mg) : FnOk P w K mg base CX0 1 f fd ["_law_mine", "_law_theirs"] spExI := by
  have kitF : ∀ {t : String}, kitB t "list" = some false → kitB t "tuple" = some false → PySem.W.kitAny K (.type t) [.type "list", .type "tuple"] = some false := fun h1 h2 =>
    kitAny_cons (kit_ty h1) (fun _ => kitAny_cons (kit_ty h2) (fun _ => kitAny_nil) (fun z => nomatch z)) (fun z => nomatch z)
  have la : kitB "list" "list" = some true := by decide +kernel
  have ta : kitB "tuple" "tuple" = some true := by decide +kernel
  have tl : kitB "tuple" "list" = some false := by decide +kernel
  refine F.ok sc_exact (fun vs H Q E h => ?_) (fun cdv A outer s H vs Q E hr h => ?_)
  · obtain ⟨x, d, n, j, rfl, _⟩ := h
    rfl
  · obtain ⟨x, d, n, j, rfl, hx, k⟩ := h
    have nd := sc_exact.nd
    refine ⟨_, PSs.nox (pss_cons (ps_if (pt_val (pe_callB call_isiT (by rfl) Z.isi (by decide +kernel) (pa_cons (pv 0) (pa_cons (pe_tup (pa_cons (pe_bltn (v := .ty "list") (by rfl) Z.tlist (by decide +kernel) rfl) (pa_cons (pe_bltn (v := .ty "tuple") (by rfl) Z.ttuple (by decide +kernel) rfl) (pa_nil)))) pa_nil)))) (pss_cons (ps_set (i := 2) nd rfl (Or.inl rfl) (pe_and (pe_cmpR op_eq (pe_callB call_isi (by rfl) Z.isi (by decide +kernel) (pa_cons (pv 1) (pa_cons (pe_bltn (v := .ty "list") (by rfl) Z.tlist (by decide +kernel) rfl) pa_nil))) (pe_callB call_isi (by rfl) Z.isi (by decide +kernel) (pa_cons (pv 0) (pa_cons (pe_bltn (v := .ty "list") (by rfl) Z.tlist (by decide +kernel) rfl) pa_nil))) (nomark _)) (pe_one (pe_cmpR op_eq (pe_callB call_isi (by rfl) Z.isi (by decide +kernel) (pa_cons (pv 1) (pa_cons (pe_bltn (v := .ty "tuple") (by rfl) Z.ttuple (by decide +kernel) rfl) pa_nil))) (pe_callB call_isi (by rfl) Z.isi (by decide +kernel) (pa_cons (pv 0) (pa_cons (pe_bltn (v := .ty "tuple") (by rfl) Z.ttuple (by decide +kernel) rfl) pa_nil))) (nomark _)))))
      (pss_one (ps_ret (pe_and (pv 2) (pe_and (pe_cmpR op_eq (pe_callB call_len_seq (by rfl) Z.len (by decide +kernel) (pa_cons (pv 0) (pa_nil))) (pe_callB call_len_seq (by rfl) Z.len (by decide +kernel) (pa_cons (pv 1) (pa_nil))) (nomark _)) (pe_one (pe_dead))))))) (pss_nil))
      (pss_cons (ps_if (pt_val (pe_callB call_isi (by rfl) Z.isi (by decide +kernel) (pa_cons (pv 0) (pa_cons (pe_bltn (v := .ty "dict") (by rfl) Z.tdict (by decide +kernel) rfl) pa_nil)))) (pss_cons ps_dead (pss_one ps_dead)) (pss_nil))
      (pss_cons (ps_set (i := 2) nd rfl (Or.inl rfl) (pe_cmpR op_eq (pe_callB call_isi (by rfl) Z.isi (by decide +kernel) (pa_cons (pv 0) (pa_cons (pe_bltn (v := .ty "int") (by rfl) Z.int (by decide +kernel) rfl) pa_nil))) (pe_callB call_isi (by rfl) Z.isi (by decide +kernel) (pa_cons (pv 1) (pa_cons (pe_bltn (v := .ty "int") (by rfl) Z.int (by decide +kernel) rfl) pa_nil))) (nomark _)))
      (pss_one (ps_ret (pe_and (pv 2) (pe_and (pe_cmpR op_eq (pe_callB call_isi (by rfl) Z.isi (by decide +kernel) (pa_cons (pv 0) (pa_cons (pe_bltn (v := .ty "bool") (by rfl) Z.tbool (by decide +kernel) rfl) pa_nil))) (pe_callB call_isi (by rfl) Z.isi (by decide +kernel) (pa_cons (pv 1) (pa_cons (pe_bltn (v := .ty "bool") (by rfl) Z.tbool (by decide +kernel) rfl) pa_nil))) (nomark _)) (pe_one (pe_cmpR op_eq (pv 0) (pv 1) (nomark _)))))))))), ?_⟩
    refine ⟨_, rfl, (by show 2 ≤ sizeLine; decide), fun T hT => ?_⟩
    have s1 : Same H (upd H T (.tup [.ty "list", .ty "tuple"])) := Same.updf hT
    have hx1 := hx.same s1
    have kk := k _ s1
    have hT1 := upd_same (H := H) (a := T) (o := .tup [.ty "list", .ty "tuple"])
    generalize upd H T (.tup [.ty "list", .ty "tuple"]) = G at *
    rcases (tr_cs hx1) with ⟨rfl, rfl⟩ | ⟨b, rfl, rfl⟩ | ⟨z, rfl, rfl⟩ | ⟨z, rfl, rfl⟩ | ⟨a, xs, ds, rfl, ha, rfl, _⟩ | ⟨a, xs, ds, rfl, ha, rfl, lx, l1, kx⟩
    · refine ⟨.non, T, [.ty "list", .ty "tuple"], .type "NoneType", [.type "list", .type "tuple"], false, rfl, hT1, .cons (.ty _) (.cons (.ty _) .nil), .base .non, kitF (by decide +kernel) (by decide +kernel), false, rfl, iteF ?_⟩
      refine ⟨_, rfl, .non, .ty "dict", .type "NoneType", .type "dict", false, rfl, .ty _, .base .non, kit_ty (by decide +kernel), false, rfl, iteF ?_⟩
      refine ⟨_, rfl, .non, .ty "int", .type "NoneType", .type "int", false, rfl, .ty _, .base .non, kit_ty (by decide +kernel), _, rfl, .int j, .ty "int", .type "int", .type "int", true, rfl, .ty _, .base (.int j), kit_ty (by decide +kernel), rfl, ?_⟩
      exact ⟨_, rfl, false, rfl, iteF kk⟩
    · refine ⟨.bl b, T, [.ty "list", .ty "tuple"], .type "bool", [.type "list", .type "tuple"], false, rfl, hT1, .cons (.ty _) (.cons (.ty _) .nil), .base (.bl b), kitF (by decide +kernel) (by decide +kernel), false, rfl, iteF ?_⟩
      refine ⟨_, rfl, .bl b, .ty "dict", .type "bool", .type "dict", false, rfl, .ty _, .base (.bl b), kit_ty (by decide +kernel), false, rfl, iteF ?_⟩
      refine ⟨_, rfl, .bl b, .ty "int", .type "bool", .type "int", true, rfl, .ty _, .base (.bl b), kit_ty (by decide +kernel), _, rfl, .int j, .ty "int", .type "int", .type "int", true, rfl, .ty _, .base (.int j), kit_ty (by decide +kernel), rfl, ?_⟩
      refine ⟨_, rfl, true, rfl, iteT ?_⟩
      refine ⟨_, rfl, .bl b, .ty "bool", .type "bool", .type "bool", true, rfl, .ty _, .base (.bl b), kit_ty (by decide +kernel), _, rfl, .int j, .ty "bool", .type "int", .type "bool", false, rfl, .ty _, .base (.int j), kit_ty (by decide +kernel), rfl, ?_⟩
      exact ⟨false, rfl, iteF kk⟩
    · refine ⟨.int z, T, [.ty "list", .ty "tuple"], .type "int", [.type "list", .type "tuple"], false, rfl, hT1, .cons (.ty _) (.cons (.ty _) .nil), .base (.int z), kitF (by decide +kernel) (by decide +kernel), false, rfl, iteF ?_⟩
      refine ⟨_, rfl, .int z, .ty "dict", .type "int", .type "dict", false, rfl, .ty _, .base (.int z), kit_ty (by decide +kernel), false, rfl, iteF ?_⟩
      refine ⟨_, rfl, .int z, .ty "int", .type "int", .type "int", true, rfl, .ty _, .base (.int z), kit_ty (by decide +kernel), _, rfl, .int j, .ty "int", .type "int", .type "int", true, rfl, .ty _, .base (.int j), kit_ty (by decide +kernel), rfl, ?_⟩
      refine ⟨_, rfl, true, rfl, iteT ?_⟩
      refine ⟨_, rfl, .int z, .ty "bool", .type "int", .type "bool", false, rfl, .ty _, .base (.int z), kit_ty (by decide +kernel), _, rfl, .int j, .ty "bool", .type "int", .type "bool", false, rfl, .ty _, .base (.int j), kit_ty (by decide +kernel), rfl, ?_⟩
      refine ⟨true, rfl, iteT ?_⟩
      refine ⟨_, rfl, _, rfl, rfl, ?_⟩
      rw [dec_eqI]
      exact kk
    · refine ⟨.str z, T, [.ty "list", .ty "tuple"], .type "str", [.type "list", .type "tuple"], false, rfl, hT1, .cons (.ty _) (.cons (.ty _) .nil), .base (.str z), kitF (by decide +kernel) (by decide +kernel), false, rfl, iteF ?_⟩
      refine ⟨_, rfl, .str z, .ty "dict", .type "str", .type "dict", false, rfl, .ty _, .base (.str z), kit_ty (by decide +kernel), false, rfl, iteF ?_⟩
      refine ⟨_, rfl, .str z, .ty "int", .type "str", .type "int", false, rfl, .ty _, .base (.str z), kit_ty (by decide +kernel), _, rfl, .int j, .ty "int", .type "int", .type "int", true, rfl, .ty _, .base (.int j), kit_ty (by decide +kernel), rfl, ?_⟩
      exact ⟨_, rfl, false, rfl, iteF kk⟩
    · refine ⟨.ref a, T, [.ty "list", .ty "tuple"], .type "list", [.type "list", .type "tuple"], true, rfl, hT1, .cons (.ty _) (.cons (.ty _) .nil), .base (.lst ha), kitAny_cons (kit_ty la) (fun z => nomatch z) (fun _ => rfl), true, rfl, iteT ?_⟩
      refine ⟨_, rfl, .int j, .ty "list", .type "int", .type "list", false, rfl, .ty _, .base (.int j), kit_ty (by decide +kernel), _, rfl, .ref a, .ty "list", .type "list", .type "list", true, rfl, .ty _, .base (.lst ha), kit_ty (by decide +kernel), rfl, false, rfl, iteF ?_⟩
      exact ⟨_, rfl, false, rfl, iteF kk⟩
    · refine ⟨.ref a, T, [.ty "list", .ty "tuple"], .type "tuple", [.type "list", .type "tuple"], true, rfl, hT1, .cons (.ty _) (.cons (.ty _) .nil), .base (.tup ha), kitAny_cons (kit_ty tl) (fun _ => kitAny_cons (kit_ty ta) (fun z => nomatch z) (fun _ => rfl)) (fun z => nomatch z), true, rfl, iteT ?_⟩
      refine ⟨_, rfl, .int j, .ty "list", .type "int", .type "list", false, rfl, .ty _, .base (.int j), kit_ty (by decide +kernel), _, rfl, .ref a, .ty "list", .type "tuple", .type "list", false, rfl, .ty _, .base (.tup ha), kit_ty (by decide +kernel), rfl, true, rfl, iteT ?_⟩
      refine ⟨_, rfl, .int j, .ty "tuple", .type "int", .type "tuple", false, rfl, .ty _, .base (.int j), kit_ty (by decide +kernel), _, rfl, .ref a, .ty "tuple", .type "tuple", .type "tuple", true, rfl, .ty _, .base (.tup ha), kit_ty (by decide +kernel), rfl, ?_⟩
      exact ⟨_, rfl, false, rfl, iteF kk⟩
theorem ok_exP (F : FnP K "_law_exact" s_exact f fd) (Z : FreeS mg) (gE : mg "_law_exact" = some (.ref f)) (G_I : FnOk P w K mg base CX0 1 f fd ["_law_mine", "_law_theirs"] spExI) : FnOk P w K mg base CX0 2 f fd ["_law_mine", "_law_theirs"] spExP := by
  have bE : Binds K fd ["_law_mine", "_law_theirs"] [] := F.bindsN fun _ _ _ _ _ _ us hl => match us, hl with | [_, _], _ => rfl
  have kitF : ∀ {t : String}, kitB t "list" = some false → kitB t "tuple" = some false → PySem.W.kitAny K (.type t) [.type "list", .type "tuple"] = some false := fun h1 h2 =>
    kitAny_cons (kit_ty h1) (fun _ => kitAny_cons (kit_ty h2) (fun _ => kitAny_nil) (fun z => nomatch z)) (fun z => nomatch z)
  have la : kitB "list" "list" = some true := by decide +kernel
  have ta : kitB "tuple" "tuple" = some true := by decide +kernel
  have tl : kitB "tuple" "list" = some false := by decide +kernel
  refine F.ok sc_exact (fun vs H Q E h => ?_) (fun cdv A outer s H vs Q E hr h => ?_)
  · obtain ⟨x, d, U, n, p, rfl, _⟩ := h
    rfl
  · obtain ⟨x, d, U, n, p, rfl, hx, hs, hU, k⟩ := h
    have nd := sc_exact.nd
    have hu65 : _ + 65 < cLine := Nat.lt_of_le_of_lt (Nat.add_le_add_left (by decide : 65 ≤ 200) _) (Nat.lt_of_le_of_lt (Nat.add_le_add_right (Nat.le_add_right _ _) _) hr.un)
    have hu64 := Nat.lt_of_le_of_lt (Nat.add_le_add_left (by decide : 64 ≤ 65) _) hu65
    refine ⟨_, PSs.nox (pss_cons (ps_if (pt_val (pe_callB call_isiT (by rfl) Z.isi (by decide +kernel) (pa_cons (pv 0) (pa_cons (pe_tup (pa_cons (pe_bltn (v := .ty "list") (by rfl) Z.tlist (by decide +kernel) rfl) (pa_cons (pe_bltn (v := .ty "tuple") (by rfl) Z.ttuple (by decide +kernel) rfl) (pa_nil)))) pa_nil)))) (pss_cons (ps_set (i := 2) nd rfl (Or.inl rfl) (pe_and (pe_cmpR op_eq (pe_callB call_isi (by rfl) Z.isi (by decide +kernel) (pa_cons (pv 1) (pa_cons (pe_bltn (v := .ty "list") (by rfl) Z.tlist (by decide +kernel) rfl) pa_nil))) (pe_callB call_isi (by rfl) Z.isi (by decide +kernel) (pa_cons (pv 0) (pa_cons (pe_bltn (v := .ty "list") (by rfl) Z.tlist (by decide +kernel) rfl) pa_nil))) (nomark _)) (pe_one (pe_cmpR op_eq (pe_callB call_isi (by rfl) Z.isi (by decide +kernel) (pa_cons (pv 1) (pa_cons (pe_bltn (v := .ty "tuple") (by rfl) Z.ttuple (by decide +kernel) rfl) pa_nil))) (pe_callB call_isi (by rfl) Z.isi (by decide +kernel) (pa_cons (pv 0) (pa_cons (pe_bltn (v := .ty "tuple") (by rfl) Z.ttuple (by decide +kernel) rfl) pa_nil))) (nomark _)))))
      (pss_one (ps_ret (pe_and (pv 2) (pe_and (pe_cmpR op_eq (pe_callB call_len_seq (by rfl) Z.len (by decide +kernel) (pa_cons (pv 0) (pa_nil))) (pe_callB call_len_seq (by rfl) Z.len (by decide +kernel) (pa_cons (pv 1) (pa_nil))) (nomark _)) (pe_one (pe_callB (cr_all rfl) (by rfl) Z.all (by decide +kernel) (pa_cons (pe_lc (own := [("_law_a", 3), ("_law_b", 4)]) (g := gTup K 2 (gCons (gName 3) (gCons (gName 4) (gNil)))) (tt := tYes) (te := tCall spExI [] E0 (tCons (tVar 3) (tCons (tVar 4) tNil))) (by rfl) nd (pi_zipA (by rfl) Z.zip (pa_cons (pv 0) (pa_cons (pv 1) pa_nil)))
          (blkOk_by (own := [("_law_a", 3), ("_law_b", 4)]) (N := N_exact) (sc := defScope s_exact) (by decide +kernel)) (fun _ _ _ _ _ => pg_tup rfl (pgs_cons (pg_name (i := 3) nd rfl (Or.inl rfl)) (pgs_cons (pg_name (i := 4) nd rfl (Or.inl rfl)) (pgs_nil)))) (fun _ _ _ _ _ => pts_nil)
          (fun _ _ _ _ _ => pe_call G_I (hr.mono (by decide)) rfl gE F.kp bE .nil pass0 (pa_cons (pv 3) (pa_cons (pv 4) pa_nil)))) (pa_nil))))))))) (pss_nil))
      (pss_cons (ps_if (pt_val (pe_callB call_isi (by rfl) Z.isi (by decide +kernel) (pa_cons (pv 0) (pa_cons (pe_bltn (v := .ty "dict") (by rfl) Z.tdict (by decide +kernel) rfl) pa_nil)))) (pss_cons (ps_set (i := 2) nd rfl (Or.inl rfl) (pe_and (pe_callB call_isi (by rfl) Z.isi (by decide +kernel) (pa_cons (pv 1) (pa_cons (pe_bltn (v := .ty "dict") (by rfl) Z.tdict (by decide +kernel) rfl) pa_nil))) (pe_one (pe_dead))))
      (pss_one (ps_ret (pe_and (pv 2) (pe_one pe_dead))))) (pss_nil))
      (pss_cons (ps_set (i := 2) nd rfl (Or.inl rfl) (pe_cmpR op_eq (pe_callB call_isi (by rfl) Z.isi (by decide +kernel) (pa_cons (pv 0) (pa_cons (pe_bltn (v := .ty "int") (by rfl) Z.int (by decide +kernel) rfl) pa_nil))) (pe_callB call_isi (by rfl) Z.isi (by decide +kernel) (pa_cons (pv 1) (pa_cons (pe_bltn (v := .ty "int") (by rfl) Z.int (by decide +kernel) rfl) pa_nil))) (nomark _)))
      (pss_one (ps_ret (pe_and (pv 2) (pe_and (pe_cmpR op_eq (pe_callB call_isi (by rfl) Z.isi (by decide +kernel) (pa_cons (pv 0) (pa_cons (pe_bltn (v := .ty "bool") (by rfl) Z.tbool (by decide +kernel) rfl) pa_nil))) (pe_callB call_isi (by rfl) Z.isi (by decide +kernel) (pa_cons (pv 1) (pa_cons (pe_bltn (v := .ty "bool") (by rfl) Z.tbool (by decide +kernel) rfl) pa_nil))) (nomark _)) (pe_one (pe_cmpR (op_eqD hu64) (pv 0) (pv 1) (nomark _)))))))))), ?_⟩
    refine ⟨_, rfl, (by show 2 ≤ sizeLine; decide), fun T hT => ?_⟩
    have s1 : Same H (upd H T (.tup [.ty "list", .ty "tuple"])) := Same.updf hT
    have hx1 := hx.same s1
    have hU := s1 _ _ hU
    have kk := k _ s1
    have hT1 := upd_same (H := H) (a := T) (o := .tup [.ty "list", .ty "tuple"])
    generalize upd H T (.tup [.ty "list", .ty "tuple"]) = G at *
    rcases hx1 with hx1 | ⟨a, rfl, ha, rfl⟩
    · rcases (tr_cs hx1) with ⟨rfl, rfl⟩ | ⟨b, rfl, rfl⟩ | ⟨z, rfl, rfl⟩ | ⟨z, rfl, rfl⟩ | ⟨a, xs, ds, rfl, ha, rfl, _⟩ | ⟨a, xs, ds, rfl, ha, rfl, lx, l1, kx⟩
      · refine ⟨.non, T, [.ty "list", .ty "tuple"], .type "NoneType", [.type "list", .type "tuple"], false, rfl, hT1, .cons (.ty _) (.cons (.ty _) .nil), .base .non, kitF (by decide +kernel) (by decide +kernel), false, rfl, iteF ?_⟩
        refine ⟨_, rfl, .non, .ty "dict", .type "NoneType", .type "dict", false, rfl, .ty _, .base .non, kit_ty (by decide +kernel), false, rfl, iteF ?_⟩
        refine ⟨_, rfl, .non, .ty "int", .type "NoneType", .type "int", false, rfl, .ty _, .base .non, kit_ty (by decide +kernel), _, rfl, .ref U, .ty "int", .type "tuple", .type "int", false, rfl, .ty _, .base (.tup hU), kit_ty (by decide +kernel), rfl, ?_⟩
        refine ⟨_, rfl, true, rfl, iteT ?_⟩
        refine ⟨_, rfl, .non, .ty "bool", .type "NoneType", .type "bool", false, rfl, .ty _, .base .non, kit_ty (by decide +kernel), _, rfl, .ref U, .ty "bool", .type "tuple", .type "bool", false, rfl, .ty _, .base (.tup hU), kit_ty (by decide +kernel), rfl, ?_⟩
        refine ⟨true, rfl, iteT ?_⟩
        exact ⟨_, rfl, _, rfl, _, _, .non, .tup (SqT.of hU) (.cons (.int _) (.cons (.int _) .nil)), rfl, shaped_pr _ _, kk⟩
      · refine ⟨.bl b, T, [.ty "list", .ty "tuple"], .type "bool", [.type "list", .type "tuple"], false, rfl, hT1, .cons (.ty _) (.cons (.ty _) .nil), .base (.bl b), kitF (by decide +kernel) (by decide +kernel), false, rfl, iteF ?_⟩
        refine ⟨_, rfl, .bl b, .ty "dict", .type "bool", .type "dict", false, rfl, .ty _, .base (.bl b), kit_ty (by decide +kernel), false, rfl, iteF ?_⟩
        refine ⟨_, rfl, .bl b, .ty "int", .type "bool", .type "int", true, rfl, .ty _, .base (.bl b), kit_ty (by decide +kernel), _, rfl, .ref U, .ty "int", .type "tuple", .type "int", false, rfl, .ty _, .base (.tup hU), kit_ty (by decide +kernel), rfl, ?_⟩
        exact ⟨_, rfl, false, rfl, iteF kk⟩
      · refine ⟨.int z, T, [.ty "list", .ty "tuple"], .type "int", [.type "list", .type "tuple"], false, rfl, hT1, .cons (.ty _) (.cons (.ty _) .nil), .base (.int z), kitF (by decide +kernel) (by decide +kernel), false, rfl, iteF ?_⟩
        refine ⟨_, rfl, .int z, .ty "dict", .type "int", .type "dict", false, rfl, .ty _, .base (.int z), kit_ty (by decide +kernel), false, rfl, iteF ?_⟩
        refine ⟨_, rfl, .int z, .ty "int", .type "int", .type "int", true, rfl, .ty _, .base (.int z), kit_ty (by decide +kernel), _, rfl, .ref U, .ty "int", .type "tuple", .type "int", false, rfl, .ty _, .base (.tup hU), kit_ty (by decide +kernel), rfl, ?_⟩
        exact ⟨_, rfl, false, rfl, iteF kk⟩
      · refine ⟨.str z, T, [.ty "list", .ty "tuple"], .type "str", [.type "list", .type "tuple"], false, rfl, hT1, .cons (.ty _) (.cons (.ty _) .nil), .base (.str z), kitF (by decide +kernel) (by decide +kernel), false, rfl, iteF ?_⟩
        refine ⟨_, rfl, .str z, .ty "dict", .type "str", .type "dict", false, rfl, .ty _, .base (.str z), kit_ty (by decide +kernel), false, rfl, iteF ?_⟩
        refine ⟨_, rfl, .str z, .ty "int", .type "str", .type "int", false, rfl, .ty _, .base (.str z), kit_ty (by decide +kernel), _, rfl, .ref U, .ty "int", .type "tuple", .type "int", false, rfl, .ty _, .base (.tup hU), kit_ty (by decide +kernel), rfl, ?_⟩
        refine ⟨_, rfl, true, rfl, iteT ?_⟩
        refine ⟨_, rfl, .str z, .ty "bool", .type "str", .type "bool", false, rfl, .ty _, .base (.str z), kit_ty (by decide +kernel), _, rfl, .ref U, .ty "bool", .type "tuple", .type "bool", false, rfl, .ty _, .base (.tup hU), kit_ty (by decide +kernel), rfl, ?_⟩
        refine ⟨true, rfl, iteT ?_⟩
        exact ⟨_, rfl, _, rfl, _, _, .str _, .tup (SqT.of hU) (.cons (.int _) (.cons (.int _) .nil)), hs _ rfl, shaped_pr _ _, kk⟩
      · refine ⟨.ref a, T, [.ty "list", .ty "tuple"], .type "list", [.type "list", .type "tuple"], true, rfl, hT1, .cons (.ty _) (.cons (.ty _) .nil), .base (.lst ha), kitAny_cons (kit_ty la) (fun z => nomatch z) (fun _ => rfl), true, rfl, iteT ?_⟩
        refine ⟨_, rfl, .ref U, .ty "list", .type "tuple", .type "list", false, rfl, .ty _, .base (.tup hU), kit_ty (by decide +kernel), _, rfl, .ref a, .ty "list", .type "list", .type "list", true, rfl, .ty _, .base (.lst ha), kit_ty (by decide +kernel), rfl, false, rfl, iteF ?_⟩
        exact ⟨_, rfl, false, rfl, iteF kk⟩
      · refine ⟨.ref a, T, [.ty "list", .ty "tuple"], .type "tuple", [.type "list", .type "tuple"], true, rfl, hT1, .cons (.ty _) (.cons (.ty _) .nil), .base (.tup ha), kitAny_cons (kit_ty tl) (fun _ => kitAny_cons (kit_ty ta) (fun z => nomatch z) (fun _ => rfl)) (fun z => nomatch z), true, rfl, iteT ?_⟩
        refine ⟨_, rfl, .ref U, .ty "list", .type "tuple", .type "list", false, rfl, .ty _, .base (.tup hU), kit_ty (by decide +kernel), _, rfl, .ref a, .ty "list", .type "tuple", .type "list", false, rfl, .ty _, .base (.tup ha), kit_ty (by decide +kernel), rfl, true, rfl, iteT ?_⟩
        refine ⟨_, rfl, .ref U, .ty "tuple", .type "tuple", .type "tuple", true, rfl, .ty _, .base (.tup hU), kit_ty (by decide +kernel), _, rfl, .ref a, .ty "tuple", .type "tuple", .type "tuple", true, rfl, .ty _, .base (.tup ha), kit_ty (by decide +kernel), rfl, ?_⟩
        refine ⟨_, rfl, true, rfl, iteT ?_⟩
        refine ⟨_, rfl, a, xs, rfl, Or.inr (Or.inl (.inl ha)), _, rfl, U, _, rfl, Or.inr (Or.inl (.inl hU)), rfl, ?_⟩
        by_cases l2 : ds.length = 2
        · rw [decide_eq_true (show V.int (xs.length : Int) = V.int (([V.int (n : Int), V.int (p : Int)] : List V).length : Int) by rw [lx, l2]; rfl)]
          obtain ⟨d0, d1, rfl⟩ : ∃ d0 d1, ds = [d0, d1] := by
            match ds, l2 with
            | [d0, d1], _ => exact ⟨d0, d1, rfl⟩
          obtain ⟨x0, x1, rfl⟩ : ∃ x0 x1, xs = [x0, x1] := by
            match xs, lx with
            | [x0, x1], _ => exact ⟨x0, x1, rfl⟩
          refine ⟨true, rfl, iteT ?_⟩
          refine ⟨_, rfl, _, rfl, a, U, _, _, rfl, Or.inr ⟨SqT.of ha, SqT.of hU, fun D hD => ?_⟩⟩
          have ei : ∀ i, i < 2 → ∀ x1' x2', ([x0, x1] : List V)[i]? = some x1' → ([V.int (n : Int), V.int (p : Int)] : List V)[i]? = some x2' → ∃ e, Tr G 1 x1' e ∧ x2' = .int ((([n, p] : List Nat).getD i 0 : Nat) : Int) ∧ e = ([d0, d1] : List PyData).getD i .none := fun i hi x1' x2' h1 h2 => by
            match i, hi, h1, h2 with
            | 0, _, h1, h2 =>
              cases h1
              cases h2
              exact ⟨d0, kx 0 _ _ rfl rfl, rfl, rfl⟩
            | 1, _, h1, h2 =>
              cases h1
              cases h2
              exact ⟨d1, kx 1 _ _ rfl rfl, rfl, rfl⟩
          refine lc_sel (n := 2) (walk_zipT (K := K) (a := a) (b := U) (xs := [x0, x1]) (ys := [V.int (n : Int), V.int (p : Int)]) rfl) (fun i => some (.bl (eqI (([d0, d1] : List PyData).getD i .none) ((([n, p] : List Nat).getD i 0 : Nat) : Int)))) (by decide) hD (fun H2 s2 => ⟨SqT.of (s2 _ _ ha), SqT.of (s2 _ _ hU)⟩) ?_ ?_
          · rintro i v H2 H3 Qy Qn hi sH ⟨T2, y1, y2, rfl, nT, rfl, g1, g2⟩ ky' kn
            dsimp only at g1 g2
            obtain ⟨e, te, rfl, rfl⟩ := ei i hi y1 y2 g1 g2
            refine ⟨T2, [_, _], rfl, .inl (.inl upd_same), rfl, _, [_], rfl, _, [], rfl, rfl, ?_⟩
            have sT : Same H2 (upd H2 T2 (.tup [y1, V.int ((([n, p] : List Nat).getD i 0 : Nat) : Int)])) := Same.updf nT
            exact ⟨rfl, _, rfl, _, rfl, y1, _, 1, _, rfl, te.same (sH.trans sT), fun H5 s5 => ky' _ _ (sT.trans s5) rfl⟩
          · intro H2 s2 hR
            have hR2 : H2 D = some (.lst ([eqI d0 (n : Int), eqI d1 (p : Int)].map V.bl)) := hR
            refine ⟨D, _, rfl, SqL.of hR2, ?_⟩
            have e : ([eqI d0 (n : Int), eqI d1 (p : Int)].all id) = isPr (.tuple [d0, d1]) n p := by
              show (eqI d0 (n : Int) && (eqI d1 (p : Int) && true)) = _
              cases d0 with
              | int z0 =>
                cases d1 with
                | int z1 =>
                  show (decide (z0 = (n : Int)) && (decide (z1 = (p : Int)) && true)) = decide (z0 = (n : Int) ∧ z1 = (p : Int))
                  simp
                | _ => simp [eqI, isPr]
              | _ => simp [eqI, isPr]
            rw [e]
            exact k _ (s1.trans s2)
        · rw [decide_eq_false (show ¬ V.int (xs.length : Int) = V.int (([V.int (n : Int), V.int (p : Int)] : List V).length : Int) from fun z => l2 (by
            have := V.int.inj z
            rw [lx] at this
            simp at this
            omega))]
          refine ⟨false, rfl, iteF ?_⟩
          have e0 : isPr (.tuple ds) n p = false := isPr_two (decide_eq_false fun z => l2 (by omega))
          rw [e0] at kk
          exact kk
    · have dl : kitB "dict" "list" = some false := by decide +kernel
      have dt : kitB "dict" "tuple" = some false := by decide +kernel
      refine ⟨.ref a, T, [.ty "list", .ty "tuple"], .type "dict", [.type "list", .type "tuple"], false, rfl, hT1, .cons (.ty _) (.cons (.ty _) .nil), .base (.dK ha), kitF dl dt, false, rfl, iteF ?_⟩
      refine ⟨_, rfl, .ref a, .ty "dict", .type "dict", .type "dict", true, rfl, .ty _, .base (.dK ha), kit_ty (by decide +kernel), true, rfl, iteT ?_⟩
      refine ⟨_, rfl, .ref U, .ty "dict", .type "tuple", .type "dict", false, rfl, .ty _, .base (.tup hU), kit_ty (by decide +kernel), false, rfl, iteF ?_⟩
      exact ⟨_, rfl, false, rfl, iteF kk⟩
end
end K21
set_option Elab.async false
set_option linter.all false
set_option maxRecDepth 100000
set_option maxHeartbeats 8000000
namespace K21
open PySem PySem.Spec PyProof.Rows L2 KB LiI
def VAs (H : Hp) (ys : List V) : Prop := ∀ y ∈ ys, ∃ d, VA H y d ∧ StrS d
theorem VAs.same {H H' : Hp} (k : Same H H') {ys : List V} (h : VAs H ys) : VAs H' ys := fun y m => by
  obtain ⟨d, hd, hs⟩ := h y m
  exact ⟨d, hd.same k, hs⟩
theorem VAs.app {H : Hp} {ys zs : List V} (h : VAs H ys) (k : VAs H zs) : VAs H (ys ++ zs) := fun y m => (List.mem_append.mp m).elim (h y) (k y)
theorem VAs.cons {H : Hp} {y : V} {ys : List V} (d : PyData) (h : VA H y d) (s : StrS d) (k : VAs H ys) : VAs H (y :: ys) := fun z m => by
  rcases List.mem_cons.mp m with rfl | m
  · exact ⟨d, h, s⟩
  · exact k z m
theorem VAs.nil {H : Hp} : VAs H [] := fun y m => nomatch m
theorem strS_tup (ds : List PyData) : StrS (.tuple ds) := fun z e => by cases e
theorem strS_lst (ds : List PyData) : StrS (.list ds) := fun z e => by cases e
theorem strS_emp : StrS (.str (Str.ofString "")) := fun z e => by
  cases e
  simp [SeqAt.shaped, PyData.canLay0, PyData.depth]
  decide +kernel
theorem va_tup {H : Hp} {T : Addr} {xs : List V} {ds : List PyData} (h : H T = some (.tup xs)) (l : xs.length = ds.length) (l1 : ds.length ≤ 1000) (k : ∀ (i : Nat) (u : V) (e : PyData), xs[i]? = some u → ds[i]? = some e → Tr H 1 u e) : VA H (.ref T) (.tuple ds) := .inl (Tr.tup h l l1 k)
theorem va_lst {H : Hp} {T : Addr} {xs : List V} {ds : List PyData} (h : H T = some (.lst xs)) (l : xs.length = ds.length) (l1 : ds.length ≤ 1000) (k : ∀ (i : Nat) (u : V) (e : PyData), xs[i]? = some u → ds[i]? = some e → Tr H 1 u e) : VA H (.ref T) (.list ds) := .inl (Tr.lst h l l1 k)
theorem tr_i {H : Hp} {i : Int} : Tr H 1 (.int i) (.int i) := Tr.flat (.int _)
theorem tr_n {H : Hp} : Tr H 1 .non .none := Tr.flat .non
theorem off_step {G : Hp} {pu T : Addr} {o : HO} (hT : G T = none) (n : T ≠ pu) : Same (off G pu) (off (upd G T o) pu) ∧ off (upd G T o) pu T = some o := ⟨off_same pu (Same.updf hT), by rw [off_at n, upd_same]⟩
theorem cut_n (xs : List V) (n : Nat) : cutV xs none (some (n : Int)) = xs.take n := by
  unfold cutV
  have e1 : HT.sIx xs.length 0 none = 0 := rfl
  have e2 : HT.sIx xs.length xs.length (some (n : Int)) = min n xs.length := by
    unfold HT.sIx
    simp
    omega
  rw [e1, e2, List.drop_zero]
  by_cases h : n ≤ xs.length
  · rw [Nat.min_eq_left h]
    rfl
  · rw [List.take_of_length_le (by omega), List.take_of_length_le (by omega)]
def spBent : Sp := fun vs H Q _ => ∃ (pu a b : Addr) (ds : List Dd) (m : Nat → Nat) (N : Nat), vs = [.ref pu, .ref a, .ref b] ∧ Purse H pu N ∧ N ≤ 2 ^ 38 ∧ LogAt (off H pu) a ds ∧ Lg ds ∧ ds ≠ [] ∧ MkAt H b (pgs ds) m ∧
  ∀ q ys H', But pu H H' → Purse H' pu (N + 8) → H q = none → H' q = some (.lst ys) → ys.length ≤ 100 → VAs (off H' pu) ys → Q (.ref q) H'
section
variable {P : Program} {w : World} {K : PySem.W.Frag} {mg : Str → Option Value} {base : Heap}
abbrev s_bent_pairs : Stmt := top 58
abbrev N_bent_pairs : List Str := ["_law_purse_here", "_law_log_here", "_law_marks_here", "_law_numbers", "_law_pages", "_law_found", "_law_spin", "_law_number", "_law_page", "_law_deed"]
theorem sc_bent_pairs : FnScope N_bent_pairs ["_law_purse_here", "_law_log_here", "_law_marks_here"] (defScope s_bent_pairs) := ⟨rfl, rfl, rfl, by decide +kernel, rfl, by decide +kernel, by decide +kernel⟩
theorem ok_bent_pairs {f : Addr} {fd : FuncData} (F : FnP K "_law_bent_pairs" s_bent_pairs f fd) (Z : FreeS mg)
    {f_of_pages : Addr} {d_of_pages : FuncData} (g_of_pages : mg "_law_of_pages" = some (.ref f_of_pages)) (F_of_pages : FnP K "_law_of_pages" s_of_pages f_of_pages d_of_pages) (G_of_pages : FnOk P w K mg base CX0 1 f_of_pages d_of_pages ["_law_log_here"] spOfP)
    {f_too_new : Addr} {d_too_new : FuncData} (g_too_new : mg "_law_too_new" = some (.ref f_too_new)) (F_too_new : FnP K "_law_too_new" s_too_new f_too_new d_too_new) (G_too_new : FnOk P w K mg base CX0 1 f_too_new d_too_new ["_law_log_here", "_law_marks_here"] spTooNew)
    {f_one_of : Addr} {d_one_of : FuncData} (g_one_of : mg "_law_one_of" = some (.ref f_one_of)) (F_one_of : FnP K "_law_one_of" s_one_of f_one_of d_one_of) (G_one_of : FnOk P w K mg base CX0 3 f_one_of d_one_of ["_law_purse_here", "_law_some"] (spOne K)) :
    FnOk P w K mg base CX0 4 f fd ["_law_purse_here", "_law_log_here", "_law_marks_here"] spBent := by
  have b_of_pages : Binds K d_of_pages ["_law_log_here"] [] := F_of_pages.bindsN fun _ _ _ _ _ _ us hl => match us, hl with | [_], _ => rfl
  have b_too_new : Binds K d_too_new ["_law_log_here", "_law_marks_here"] [] := F_too_new.bindsN fun _ _ _ _ _ _ us hl => match us, hl with | [_, _], _ => rfl
  have b_one_of : Binds K d_one_of ["_law_purse_here", "_law_some"] [] := F_one_of.bindsN fun _ _ _ _ _ _ us hl => match us, hl with | [_, _], _ => rfl
  refine F.ok sc_bent_pairs (fun vs H Q E h => ?_) (fun cdv A outer s H vs Q E hr h => ?_)
  · obtain ⟨pu, a, b, ds, m, N, rfl, _⟩ := h
    rfl
  · obtain ⟨pu, a, b, ds, m, N, rfl, hP, hN, hL, hG, ne, hb, k⟩ := h
    have sl : (3000 : Nat) ≤ sizeLine := by decide
    have nd := sc_bent_pairs.nd
    refine ⟨_, PSs.nox (pss_cons (ps_par (i := 3) (j := 4) rfl nd rfl rfl (by decide) rfl rfl (pa_cons (pe_lc (own := [("_law_deed", 9)]) (g := gName 9) (tt := tYes) (te := tOp (rIxT K) (tVar 9) (tC (.int 0))) (by rfl) nd (pi_list (pv 1))
          (blkOk_by (own := [("_law_deed", 9)]) (N := N_bent_pairs) (sc := defScope s_bent_pairs) (by decide +kernel)) (fun _ _ _ _ _ => pg_name (i := 9) nd rfl (Or.inl rfl)) (fun _ _ _ _ _ => pts_nil)
          (fun _ _ _ _ _ => pe_ix ix_tup (pv 9) (pe_int) (fun _ _ => rfl))) (pa_cons (pe_call G_of_pages (hr.mono (by decide)) rfl g_of_pages F_of_pages.kp b_of_pages .nil pass0 (pa_cons (pv 1) (pa_nil))) (pa_nil))) rfl)
      (pss_cons (ps_set (i := 5) nd rfl (Or.inl rfl) (pe_lst (pa_cons (pe_non) (pa_cons (pe_int) (pa_cons (pe_bl) (pa_cons (pe_str) (pa_cons (pe_tup (pa_nil)) (pa_cons (pe_lst (pa_nil)) (pa_cons (pe_dnewK) (pa_cons (pe_tup (pa_cons (pe_ix ix_list (pv 3) (pe_int) (fun _ _ => rfl)) (pa_nil))) (pa_cons (pe_lst (pa_cons (pe_ix ix_list (pv 3) (pe_int) (fun _ _ => rfl)) (pa_cons (pe_ix ix_list (pv 4) (pe_int) (fun _ _ => rfl)) (pa_nil)))) (pa_cons (pe_tup (pa_cons (pe_ix ix_list (pv 3) (pe_int) (fun _ _ => rfl)) (pa_cons (pe_ix ix_list (pv 4) (pe_int) (fun _ _ => rfl)) (pa_cons (pe_int) (pa_nil))))) (pa_cons (pe_tup (pa_cons (pe_non) (pa_cons (pe_ix ix_list (pv 4) (pe_int) (fun _ _ => rfl)) (pa_nil)))) (pa_cons (pe_tup (pa_cons (pe_ix ix_list (pv 3) (pe_int) (fun _ _ => rfl)) (pa_cons (pe_non) (pa_nil)))) (pa_nil)))))))))))))))
      (pss_cons (ps_for PassesOwn.never rfl (pi_range1 (by rfl) Z.range (pa_cons (pe_int) (pa_nil))) (pg_name (i := 6) nd rfl (Or.inl rfl))
        (pss_one (ps_expr (pe_bm PySem.F.plainAttrs_list PySem.F.slot_list_append PySem.F.type_list_append mt_append (pv 5) (pa_cons (pe_tup (pa_cons (pe_call G_one_of (hr.mono (by decide)) rfl g_one_of F_one_of.kp b_one_of .nil pass0 (pa_cons (pv 0) (pa_cons (pv 3) (pa_nil)))) (pa_cons (pe_call G_one_of (hr.mono (by decide)) rfl g_one_of F_one_of.kp b_one_of .nil pass0 (pa_cons (pv 0) (pa_cons (pv 4) (pa_nil)))) (pa_nil)))) (pa_nil))))))
      (pss_cons (ps_for PassesOwn.never rfl (pi_list (pe_slice sl_list (pe_call G_too_new (hr.mono (by decide)) rfl g_too_new F_too_new.kp b_too_new .nil pass0 (pa_cons (pv 1) (pa_cons (pv 2) (pa_nil)))) (po_none) (po_some (pe_int)))) (pg_tup rfl (pgs_cons (pg_name (i := 7) nd rfl (Or.inl rfl)) (pgs_cons (pg_name (i := 8) nd rfl (Or.inl rfl)) (pgs_nil))))
        (pss_one (ps_set (i := 5) nd rfl (Or.inl rfl) (pe_op op_cat (pv 5) (pe_lst (pa_cons (pe_tup (pa_cons (pv 7) (pa_cons (pv 8) (pa_nil)))) (pa_cons (pe_tup (pa_cons (pv 8) (pa_cons (pv 7) (pa_nil)))) (pa_cons (pe_lst (pa_cons (pv 7) (pa_cons (pv 8) (pa_nil)))) (pa_cons (pe_tup (pa_cons (pe_tup (pa_cons (pv 7) (pa_cons (pv 8) (pa_nil)))) (pa_nil))) (pa_cons (pe_tup (pa_cons (pe_op op_add (pv 7) (pe_int)) (pa_cons (pv 8) (pa_nil)))) (pa_cons (pe_tup (pa_cons (pv 7) (pa_cons (pe_op op_add (pv 8) (pe_int)) (pa_nil)))) (pa_nil))))))))))))
      (pss_one (ps_ret (pe_op op_cat (pv 5) (pe_lc (own := [("_law_number", 7), ("_law_page", 8)]) (g := gTup K 2 (gCons (gName 7) (gCons (gName 8) (gNil)))) (tt := tYes) (te := tTup (tCons (tIf (tTest (tOp rEq (tVar 7) (tC (.int 1)))) (tOp rEq (tVar 7) (tC (.int 1))) (tVar 7)) (tCons (tIf (tTest (tOp (rI0 fun i j => .bl (decide (i < j))) (tVar 8) (tC (.int 2)))) (tOp rEq (tVar 8) (tC (.int 1))) (tVar 8)) (tNil)))) (by rfl) nd (pi_list (pe_slice sl_list (pe_call G_too_new (hr.mono (by decide)) rfl g_too_new F_too_new.kp b_too_new .nil pass0 (pa_cons (pv 1) (pa_cons (pv 2) (pa_nil)))) (po_none) (po_some (pe_int))))
          (blkOk_by (own := [("_law_number", 7), ("_law_page", 8)]) (N := N_bent_pairs) (sc := defScope s_bent_pairs) (by decide +kernel)) (fun _ _ _ _ _ => pg_tup rfl (pgs_cons (pg_name (i := 7) nd rfl (Or.inl rfl)) (pgs_cons (pg_name (i := 8) nd rfl (Or.inl rfl)) (pgs_nil)))) (fun _ _ _ _ _ => pts_nil)
          (fun _ _ _ _ _ => pe_tup (pa_cons (pe_ifExp (pt_cmpR op_eq (pv 7) (pe_int) (nomark _)) (pe_cmpR op_eq (pv 7) (pe_int) (nomark _)) (pv 7)) (pa_cons (pe_ifExp (pt_cmpR op_lt (pv 8) (pe_int) (nomark _)) (pe_cmpR op_eq (pv 8) (pe_int) (nomark _)) (pv 8)) (pa_nil)))))))))))), ?_⟩
    have hLH : LogAt H a ds := hL.same (off_le _ _)
    obtain ⟨xs, ha, lx, hx⟩ := id hLH
    have l60 := hG.len
    have pl := hG.pl
    have r20 : ∀ d ∈ ds, d.r.length ≤ 20 := fun d hd => (hG.ok d hd).len
    refine ⟨_, rfl, a, rfl, ⟨_, SqL.of ha⟩, fun D hD => ?_⟩
    refine lc_sel (n := xs.length) (walk_list (K := K) (a := a) (xs := xs)) (fun i => (ds[i]?).bind fun d => if (fun _ : Dd => true) d = true then some (V.int (d.n : Int)) else none) (by omega) hD (fun G s8 => SqL.of (s8 _ _ ha)) ?_ ?_
    · rintro i x G8 G9 Qy Qn hi s8 ⟨rfl, hv⟩ ky_ kn
      have li : i < ds.length := by omega
      have hdi : ds[i]? = some ds[i] := List.getElem?_eq_getElem li
      obtain ⟨t, rd, tw, rfl, ht, hr1, _⟩ := (hx i x _ hv hdi).same s8
      rw [hdi, Option.bind_some] at ky_ kn
      exact ⟨rfl, _, rfl, t, _, 0, _, rfl, rfl, SqT.of ht, rfl, ky_ _ _ (Same.refl _) rfl⟩
    · intro G1 s1 hR
      rw [lx, sel_dn, List.filter_eq_self.mpr fun _ _ => rfl] at hR
      refine ⟨_, rfl, a, ds, rfl, hLH.same s1, hG, fun pg G2 s2 npg hpg => ?_⟩
      have sH2 := s1.trans s2
      have P2 := hP.same sH2
      have hD2 := s2 _ _ hR
      have nD : D ≠ pu := fresh_ne hP hD
      have npp : pg ≠ pu := fresh_ne (hP.same s1) npg
      have nepg : 1 ≤ (pgs ds).length := by
        cases ds with
        | nil => exact absurd rfl ne
        | cons d ds => exact List.length_pos_of_mem (pgs_mem.mpr ⟨d, List.mem_cons_self, (hG.ok d List.mem_cons_self).own⟩)
      have neds : 1 ≤ ds.length := List.length_pos_iff.mpr ne
      have lnv : (numsV (ds.map (·.n))).length = ds.length := by unfold numsV; rw [List.length_map, List.length_map]
      have lpv : (numsV (pgs ds)).length = (pgs ds).length := List.length_map _
      obtain ⟨n0, hn0⟩ : ∃ n : Nat, (numsV (ds.map (·.n)))[0]? = some (.int (n : Int)) := ⟨(ds.map (·.n))[0]'(by rw [List.length_map]; omega), by
        unfold numsV
        rw [List.getElem?_map, List.getElem?_eq_getElem (by rw [List.length_map]; omega)]
        rfl⟩
      obtain ⟨p0, hp0⟩ : ∃ n : Nat, (numsV (pgs ds))[0]? = some (.int (n : Int)) := ⟨(pgs ds)[0], by
        unfold numsV
        rw [List.getElem?_map, List.getElem?_eq_getElem (by omega)]
        rfl⟩
      have an0 : atI (numsV (ds.map (·.n))) 0 = some (.int (n0 : Int)) := atI_nat (j := 0) hn0
      have ap0 : atI (numsV (pgs ds)) 0 = some (.int (p0 : Int)) := atI_nat (j := 0) hp0
      have hL2 : LogAt (off G2 pu) a ds := hL.same (off_same pu sH2)
      have hb2 := sH2 _ _ hb
      have nG2 : ∀ c, G2 c = none → H c = none := fun c e => none_back sH2 e
      have bG2 : But pu H G2 := But.of sH2
      clear hR s2 s1
      refine ⟨_, _, rfl, ?_⟩
      refine ⟨Nat.zero_le _, fun A1 hA1 => ⟨Nat.zero_le _, fun A2 hA2 => fun A3 hA3 => ?_⟩⟩
      have q1 := Same.updf (o := .tup []) hA1
      have q2 := Same.updf (o := .lst []) hA2
      have q3 := Same.updf (o := .dK []) hA3
      have q13 := q1.trans (q2.trans q3)
      have P3 := P2.same q13
      have e1 := (q2.trans q3) _ _ (upd_same (H := G2) (a := A1) (o := .tup []))
      have e2 := q3 _ _ (upd_same (H := upd G2 A1 (.tup [])) (a := A2) (o := .lst []))
      have e3 := upd_same (H := upd (upd G2 A1 (.tup [])) A2 (.lst [])) (a := A3) (o := .dK [])
      have n1 : A1 ≠ pu := fresh_ne P2 hA1
      have n2 : A2 ≠ pu := fresh_ne (P2.same q1) hA2
      have n3 : A3 ≠ pu := fresh_ne (P2.same (q1.trans q2)) hA3
      generalize upd (upd (upd G2 A1 (.tup [])) A2 (.lst [])) A3 (.dK []) = G3 at *
      have hD3 := q13 _ _ hD2
      have hp3 := q13 _ _ hpg
      refine ⟨_, rfl, D, _, 0, _, rfl, rfl, SqL.of hD3, an0, (by show 1 ≤ sizeLine; omega), fun A4 hA4 => ?_⟩
      have q4 := Same.updf (o := .tup [V.int (n0 : Int)]) hA4
      refine ⟨_, rfl, D, _, 0, _, rfl, rfl, SqL.of (q4 _ _ hD3), an0, _, rfl, pg, _, 0, _, rfl, rfl, SqL.of (q4 _ _ hp3), ap0, (by show 2 ≤ sizeLine; omega), fun A5 hA5 => ?_⟩
      have q5 := Same.updf (o := .lst [V.int (n0 : Int), V.int (p0 : Int)]) hA5
      have q45 := q4.trans q5
      refine ⟨_, rfl, D, _, 0, _, rfl, rfl, SqL.of (q45 _ _ hD3), an0, _, rfl, pg, _, 0, _, rfl, rfl, SqL.of (q45 _ _ hp3), ap0, (by show 3 ≤ sizeLine; omega), fun A6 hA6 => ?_⟩
      have q6 := Same.updf (o := .tup [V.int (n0 : Int), V.int (p0 : Int), V.int 0]) hA6
      have q46 := q45.trans q6
      refine ⟨_, rfl, pg, _, 0, _, rfl, rfl, SqL.of (q46 _ _ hp3), ap0, (by show 2 ≤ sizeLine; omega), fun A7 hA7 => ?_⟩
      have q7 := Same.updf (o := .tup [V.non, V.int (p0 : Int)]) hA7
      have q47 := q46.trans q7
      refine ⟨_, rfl, D, _, 0, _, rfl, rfl, SqL.of (q47 _ _ hD3), an0, (by show 2 ≤ sizeLine; omega), fun A8 hA8 => ?_⟩
      have q8 := Same.updf (o := .tup [V.int (n0 : Int), V.non]) hA8
      have q48 := q47.trans q8
      refine ⟨(by show 12 ≤ sizeLine; omega), fun L hLn => ?_⟩
      have P8 := P3.same q48
      have nL : L ≠ pu := fresh_ne P8 hLn
      have n4 : A4 ≠ pu := fresh_ne P3 hA4
      have n5 : A5 ≠ pu := fresh_ne (P3.same q4) hA5
      have n6 : A6 ≠ pu := fresh_ne (P3.same q45) hA6
      have n7 : A7 ≠ pu := fresh_ne (P3.same q46) hA7
      have n8 : A8 ≠ pu := fresh_ne (P3.same q47) hA8
      have e4 := (q5.trans (q6.trans (q7.trans q8))) _ _ (upd_same (H := G3) (a := A4) (o := .tup [V.int (n0 : Int)]))
      have e5 := (q6.trans (q7.trans q8)) _ _ (upd_same (H := upd G3 A4 (.tup [V.int (n0 : Int)])) (a := A5) (o := .lst [V.int (n0 : Int), V.int (p0 : Int)]))
      have e6 := (q7.trans q8) _ _ (upd_same (H := upd (upd G3 A4 (.tup [V.int (n0 : Int)])) A5 (.lst [V.int (n0 : Int), V.int (p0 : Int)])) (a := A6) (o := .tup [V.int (n0 : Int), V.int (p0 : Int), V.int 0]))
      have e7 := q8 _ _ (upd_same (H := upd (upd (upd G3 A4 (.tup [V.int (n0 : Int)])) A5 (.lst [V.int (n0 : Int), V.int (p0 : Int)])) A6 (.tup [V.int (n0 : Int), V.int (p0 : Int), V.int 0])) (a := A7) (o := .tup [V.non, V.int (p0 : Int)]))
      have e8 := upd_same (H := upd (upd (upd (upd G3 A4 (.tup [V.int (n0 : Int)])) A5 (.lst [V.int (n0 : Int), V.int (p0 : Int)])) A6 (.tup [V.int (n0 : Int), V.int (p0 : Int), V.int 0])) A7 (.tup [V.non, V.int (p0 : Int)])) (a := A8) (o := .tup [V.int (n0 : Int), V.non])
      generalize upd (upd (upd (upd (upd G3 A4 (.tup [V.int (n0 : Int)])) A5 (.lst [V.int (n0 : Int), V.int (p0 : Int)])) A6 (.tup [V.int (n0 : Int), V.int (p0 : Int), V.int 0])) A7 (.tup [V.non, V.int (p0 : Int)])) A8 (.tup [V.int (n0 : Int), V.non]) = Gx at *
      have e1 := q48 _ _ e1
      have e2 := q48 _ _ e2
      have e3 := q48 _ _ e3
      have s2x := q13.trans q48
      have bHx : But pu H Gx := bG2.trans (But.of s2x)
      have hDx := s2x _ _ hD2
      have hpx := s2x _ _ hpg
      have hLx := hL2.same (off_same pu s2x)
      have hbx := s2x _ _ hb2
      have nHL : H L = none := nG2 _ (none_back s2x hLn)
      have va0 : VAs (off Gx pu) [V.non, V.int 0, V.bl true, V.str (Str.ofString ""), V.ref A1, V.ref A2, V.ref A3, V.ref A4, V.ref A5, V.ref A6, V.ref A7, V.ref A8] := by
        have at_ : ∀ {T : Addr} {o : HO}, T ≠ pu → Gx T = some o → off Gx pu T = some o := fun n e => (off_at n).trans e
        refine .cons .none (.inl (Tr.flat .non)) (fun z e => by cases e) ?_
        refine .cons (.int 0) (.inl (Tr.flat (.int _))) (fun z e => by cases e) ?_
        refine .cons (.bool true) (.inl (Tr.flat (.bl _))) (fun z e => by cases e) ?_
        refine .cons (.str (Str.ofString "")) (.inl (Tr.flat (.str _))) strS_emp ?_
        refine .cons _ (va_tup (ds := []) (at_ n1 e1) rfl (by simp) tr_nil) (strS_tup _) ?_
        refine .cons _ (va_lst (ds := []) (at_ n2 e2) rfl (by simp) tr_nil) (strS_lst _) ?_
        refine .cons (.dict []) (.inr ⟨A3, rfl, at_ n3 e3, rfl⟩) (fun z e => by cases e) ?_
        refine .cons _ (va_tup (at_ n4 e4) rfl (by simp) (tr_cons tr_i tr_nil)) (strS_tup _) ?_
        refine .cons _ (va_lst (at_ n5 e5) rfl (by simp) (tr_cons tr_i (tr_cons tr_i tr_nil))) (strS_lst _) ?_
        refine .cons _ (va_tup (at_ n6 e6) rfl (by simp) (tr_cons tr_i (tr_cons tr_i (tr_cons tr_i tr_nil)))) (strS_tup _) ?_
        refine .cons _ (va_tup (at_ n7 e7) rfl (by simp) (tr_cons tr_n (tr_cons tr_i tr_nil))) (strS_tup _) ?_
        exact .cons _ (va_tup (at_ n8 e8) rfl (by simp) (tr_cons tr_i (tr_cons tr_n tr_nil))) (strS_tup _) .nil
      have off2_step : ∀ {X Y : Hp}, But pu X Y → Same (off (off X pu) L) (off (off Y pu) L) := fun b => off_same L (but_off b)
      have P4 := P8.same (Same.updf (o := .lst [V.non, V.int 0, V.bl true, V.str (Str.ofString ""), V.ref A1, V.ref A2, V.ref A3, V.ref A4, V.ref A5, V.ref A6, V.ref A7, V.ref A8]) hLn)
      refine ⟨4, rfl, by decide, by decide, ?_⟩
      refine for_it (n := 4) (walk_range (lo := 0) (n := 4)) (fun i σ G => But pu Gx G ∧ (∃ M, Purse G pu M ∧ M ≤ N + 2 * i) ∧ ∃ ys v6, G L = some (.lst ys) ∧ ys.length = 12 + i ∧ VAs (off (off G pu) L) ys ∧ σ = [some (.ref pu), some (.ref a), some (.ref b), some (.ref D), some (.ref pg), some (.ref L), v6, none, none, none])
        ⟨But.of (Same.updf hLn), ⟨_, P4, Nat.le_refl _⟩, _, _, upd_same, rfl, va0.same (fun c o e => by
          have nc : c ≠ L := fun z => by
            rw [z] at e
            have := off_le _ _ _ _ e
            rw [hLn] at this
            cases this
          rw [off_at nc]
          exact off_same pu (Same.updf hLn) _ _ e), rfl⟩ (fun i σ G _ _ => trivial) ?_ ?_
      · rintro i x σ G G' hi ⟨bG, ⟨M, PM, lM⟩, ys, v6, hys, ly, vy, rfl⟩ ⟨rfl, rfl⟩
        refine ⟨_, rfl, .inl ⟨rfl, _, SqL.of hys⟩, _, rfl, _, rfl, pu, D, _, M, rfl, nD, SqL.of (bG _ _ nD hDx), by omega, by omega, PM, by omega, fun w1 H7 m7 b7 P7 => ?_⟩
        obtain ⟨r1, _, rfl⟩ := List.mem_map.mp m7
        refine ⟨_, rfl, _, rfl, pu, pg, _, M + 1, rfl, npp, SqL.of (b7 _ _ npp (bG _ _ npp hpx)), by omega, by omega, P7, by omega, fun w2 H8 m8 b8 P9 => ?_⟩
        obtain ⟨r2, _, rfl⟩ := List.mem_map.mp m8
        refine ⟨(by show 2 ≤ sizeLine; omega), fun T hT => ?_⟩
        have sT := Same.updf (o := .tup [V.int (r1 : Int), V.int (r2 : Int)]) hT
        have hys8 := b8 _ _ nL (b7 _ _ nL hys)
        have nTL : T ≠ L := (ne_of_none hys8 hT).symm
        have nT : T ≠ pu := fresh_ne P9 hT
        have bT : But pu G' (upd H8 T (.tup [V.int (r1 : Int), V.int (r2 : Int)])) := b7.trans (b8.trans (But.of sT))
        refine ⟨L, ys, .ref T, rfl, rfl, sT _ _ hys8, by omega, ?_⟩
        refine ⟨fun c o n e => ?_, ⟨_, (P9.same sT).same' (upd_ne nL.symm), by omega⟩, _, _, upd_same, by rw [List.length_append, ly]; rfl, ?_, rfl⟩
        · rw [upd_ne (ne_of_none e hLn)]
          exact bT _ _ n (bG _ _ n e)
        · rw [off2_upd]
          refine (vy.same (off2_step bT)).app (.cons _ (va_tup (by rw [off_at nTL, off_at nT, upd_same]) rfl (by simp) (tr_cons tr_i (tr_cons tr_i tr_nil))) (strS_tup _) .nil)
      · rintro σ G5 ⟨b5, ⟨M, P5, lM⟩, ys5, v6, hy5, ly5, vy5, rfl⟩
        have hL5 : LogAt G5 a ds := (hLx.same (but_off b5)).same (off_le _ _)
        have hb5 : MkAt G5 b (pgs ds) m := b5 _ _ (fun z => by
          obtain ⟨_, _, _, _, e', _⟩ := hP
          unfold MkAt at hb
          rw [z, e'] at hb
          cases hb) hbx
        have wl := wrD_len hG m
        refine ⟨_, rfl, _, rfl, a, b, ds, pgs ds, m, rfl, hL5, hG, hb5, List.Perm.refl _, fun w1 ws G6 s6 nw1 hw1 pw1 => ?_⟩
        have lws := paired_len pw1
        refine ⟨_, rfl, w1, ws, rfl, SqL.of hw1, fun c1 hc1 => ⟨c1, rfl, ⟨_, SqL.of upd_same⟩, ?_⟩⟩
        have ec3 : cutV ws none (some 3) = ws.take 3 := cut_n ws 3
        rw [ec3]
        have s7 := Same.updf (o := .lst (ws.take 3)) hc1
        have s57 := s6.trans s7
        have hc7 := upd_same (H := G6) (a := c1) (o := .lst (ws.take 3))
        have hL7 := s57 _ _ hy5
        have lt3 : (ws.take 3).length ≤ 3 := by
          rw [List.length_take]
          omega
        have pw7 : Paired (TwoAt (upd G6 c1 (.lst (ws.take 3)))) (wr ds m) ws := paired_mono (fun w y h => h.same s7) pw1
        generalize upd G6 c1 (.lst (ws.take 3)) = G7 at *
        refine for_it (walk_list (K := K) (a := c1) (xs := ws.take 3)) (fun i σ G => Same G7 G ∧ ∃ L' ys v6 v7 v8, G L' = some (.lst ys) ∧ L' ≠ pu ∧ H L' = none ∧ ys.length ≤ 16 + 6 * i ∧ VAs (off G pu) ys ∧ σ = [some (.ref pu), some (.ref a), some (.ref b), some (.ref D), some (.ref pg), some (.ref L'), v6, v7, v8, none])
          ⟨Same.refl _, L, ys5, _, _, _, hL7, nL, nHL, by omega, vy5.same ((off_le _ _).trans (off_same pu s57)), rfl⟩ (fun i σ G _ hh => SqL.of (hh.1 _ _ hc7)) ?_ ?_
        · rintro i x σ G G' hi ⟨sG, L', ys, v6, v7, v8, hys, nL', nHL', ly, vy, rfl⟩ ⟨rfl, hv⟩
          have hwx : ws[i]? = some x := by
            rw [List.getElem?_take] at hv
            split at hv
            · exact hv
            · cases hv
          obtain ⟨wx, ewx, T0, rfl, hT0⟩ := paired_get2 pw7 hwx
          have hT0G := sG _ _ hT0
          have PG := (P5.same s57).same sG
          refine ⟨T0, [_, _], rfl, .inl (.inl hT0G), rfl, _, [_], rfl, _, [], rfl, rfl, ?_⟩
          refine ⟨_, rfl, _, rfl, _, rfl, (by show 2 ≤ sizeLine; omega), fun B1 hB1 => ?_⟩
          have u1 := Same.updf (o := .tup [V.int (wx.1.n : Int), V.int (wx.2 : Int)]) hB1
          refine ⟨_, rfl, _, rfl, (by show 2 ≤ sizeLine; omega), fun B2 hB2 => ?_⟩
          have u2 := Same.updf (o := .tup [V.int (wx.2 : Int), V.int (wx.1.n : Int)]) hB2
          refine ⟨_, rfl, _, rfl, (by show 2 ≤ sizeLine; omega), fun B3 hB3 => ?_⟩
          have u3 := Same.updf (o := .lst [V.int (wx.1.n : Int), V.int (wx.2 : Int)]) hB3
          refine ⟨_, rfl, _, rfl, (by show 2 ≤ sizeLine; omega), fun B4 hB4 => ⟨(by show 1 ≤ sizeLine; omega), fun B5 hB5 => ?_⟩⟩
          have u4 := Same.updf (o := .tup [V.int (wx.1.n : Int), V.int (wx.2 : Int)]) hB4
          have u5 := Same.updf (o := .tup [V.ref B4]) hB5
          refine ⟨_, rfl, _, _, rfl, rfl, _, rfl, (by show 2 ≤ sizeLine; omega), fun B6 hB6 => ?_⟩
          have u6 := Same.updf (o := .tup [V.int ((wx.1.n : Int) + 1), V.int (wx.2 : Int)]) hB6
          refine ⟨_, rfl, _, rfl, _, _, rfl, rfl, (by show 2 ≤ sizeLine; omega), fun B7 hB7 => ?_⟩
          have u7 := Same.updf (o := .tup [V.int (wx.1.n : Int), V.int ((wx.2 : Int) + 1)]) hB7
          refine ⟨(by show 6 ≤ sizeLine; omega), fun B8 hB8 => ?_⟩
          have u8 := Same.updf (o := .lst [V.ref B1, V.ref B2, V.ref B3, V.ref B5, V.ref B6, V.ref B7]) hB8
          have u18 := u1.trans (u2.trans (u3.trans (u4.trans (u5.trans (u6.trans (u7.trans u8))))))
          refine ⟨L', B8, ys, _, rfl, rfl, u18 _ _ hys, upd_same, (by show ys.length + 6 ≤ sizeLine; omega), fun L2 hL2 => ?_⟩
          have u9 := Same.updf (o := .lst (ys ++ [V.ref B1, V.ref B2, V.ref B3, V.ref B5, V.ref B6, V.ref B7])) hL2
          have u19 := u18.trans u9
          have m1 : B1 ≠ pu := fresh_ne PG hB1
          have m2 : B2 ≠ pu := fresh_ne (PG.same u1) hB2
          have m3 : B3 ≠ pu := fresh_ne (PG.same (u1.trans u2)) hB3
          have m4 : B4 ≠ pu := fresh_ne (PG.same (u1.trans (u2.trans u3))) hB4
          have m5 : B5 ≠ pu := fresh_ne (PG.same (u1.trans (u2.trans (u3.trans u4)))) hB5
          have m6 : B6 ≠ pu := fresh_ne (PG.same (u1.trans (u2.trans (u3.trans (u4.trans u5))))) hB6
          have m7 : B7 ≠ pu := fresh_ne (PG.same (u1.trans (u2.trans (u3.trans (u4.trans (u5.trans u6)))))) hB7
          have mL : L2 ≠ pu := fresh_ne (PG.same u18) hL2
          have t79 := (u7.trans u8).trans u9
          have t69 := u6.trans t79
          have t59 := u5.trans t69
          have t49 := u4.trans t59
          have t39 := u3.trans t49
          have t29 := u2.trans t39
          have s7H : ∀ c, c ≠ pu → G' c = none → H c = none := fun c n e => But.none ((bHx.trans b5).trans (But.of (s57.trans sG))) n e
          refine ⟨sG.trans u19, L2, _, _, _, _, upd_same, mL, s7H _ mL (none_back u18 hL2), by rw [List.length_append]; show ys.length + 6 ≤ _; omega, ?_, rfl⟩
          refine (vy.same (off_same pu u19)).app ?_
          have at_ : ∀ {T : Addr} {o : HO}, T ≠ pu → _ = some o → _ = some o := fun {T o} n e => (off_at (H := upd (upd (upd (upd (upd (upd (upd (upd (upd G' B1 (.tup [V.int (wx.1.n : Int), V.int (wx.2 : Int)])) B2 (.tup [V.int (wx.2 : Int), V.int (wx.1.n : Int)])) B3 (.lst [V.int (wx.1.n : Int), V.int (wx.2 : Int)])) B4 (.tup [V.int (wx.1.n : Int), V.int (wx.2 : Int)])) B5 (.tup [V.ref B4])) B6 (.tup [V.int ((wx.1.n : Int) + 1), V.int (wx.2 : Int)])) B7 (.tup [V.int (wx.1.n : Int), V.int ((wx.2 : Int) + 1)])) B8 (.lst [V.ref B1, V.ref B2, V.ref B3, V.ref B5, V.ref B6, V.ref B7])) L2 (.lst (ys ++ [V.ref B1, V.ref B2, V.ref B3, V.ref B5, V.ref B6, V.ref B7]))) n).trans e
          refine .cons _ (va_tup (at_ m1 (t29 _ _ upd_same)) rfl (by simp) (tr_cons tr_i (tr_cons tr_i tr_nil))) (strS_tup _) ?_
          refine .cons _ (va_tup (at_ m2 (t39 _ _ upd_same)) rfl (by simp) (tr_cons tr_i (tr_cons tr_i tr_nil))) (strS_tup _) ?_
          refine .cons _ (va_lst (at_ m3 (t49 _ _ upd_same)) rfl (by simp) (tr_cons tr_i (tr_cons tr_i tr_nil))) (strS_lst _) ?_
          refine .cons _ (va_tup (ds := [.tuple [.int _, .int _]]) (at_ m5 (t69 _ _ upd_same)) rfl (by simp) (tr_cons (Tr.tup (n := 0) (at_ m4 (t59 _ _ upd_same)) rfl (by simp) (tr_cons (Tr.flat (.int _)) (tr_cons (Tr.flat (.int _)) tr_nil))) tr_nil)) (strS_tup _) ?_
          refine .cons _ (va_tup (at_ m6 (t79 _ _ upd_same)) rfl (by simp) (tr_cons tr_i (tr_cons tr_i tr_nil))) (strS_tup _) ?_
          exact .cons _ (va_tup (at_ m7 ((u8.trans u9) _ _ upd_same)) rfl (by simp) (tr_cons tr_i (tr_cons tr_i tr_nil))) (strS_tup _) .nil
        · rintro σ G8 ⟨s8, L', ys, v6, v7, v8, hys, nL', nHL', ly, vy, rfl⟩
          have hL8 := (hL5.same s57).same s8
          have hb8 : MkAt G8 b (pgs ds) m := s8 _ _ (s57 _ _ hb5)
          refine ⟨_, rfl, _, rfl, _, rfl, a, b, ds, pgs ds, m, rfl, hL8, hG, hb8, List.Perm.refl _, fun w2 ws2 G9 s9 nw2 hw2 pw2 => ?_⟩
          refine ⟨_, rfl, w2, ws2, rfl, SqL.of hw2, fun c2 hc2 => ⟨c2, rfl, ⟨_, SqL.of upd_same⟩, fun D2 hD2 => ?_⟩⟩
          have ec2 : cutV ws2 none (some 2) = ws2.take 2 := cut_n ws2 2
          rw [ec2] at hD2 ⊢
          have lt2 : (ws2.take 2).length ≤ 2 := by
            rw [List.length_take]
            omega
          have s10 := Same.updf (o := .lst (ws2.take 2)) hc2
          have hc10 := upd_same (H := G9) (a := c2) (o := .lst (ws2.take 2))
          have s810 := s9.trans s10
          have P10 := ((P5.same s57).same s8).same s810
          have pw10 : Paired (TwoAt (upd G9 c2 (.lst (ws2.take 2)))) (wr ds m) ws2 := paired_mono (fun w y h => h.same s10) pw2
          generalize upd G9 c2 (.lst (ws2.take 2)) = G10 at *
          refine lc_rel (walk_list (K := K) (a := c2) (xs := ws2.take 2)) (fun _ => true) (fun j y G => ∃ T u v, y = .ref T ∧ T ≠ pu ∧ G T = some (.tup [u, v]) ∧ (∃ d, FlatD u d) ∧ ∃ e, FlatD v e) (fun j y G G' s1 ⟨T, u, v, e, n, h, r⟩ => ⟨T, u, v, e, n, s1 _ _ h, r⟩) (by omega) hD2 (fun G s => SqL.of (s _ _ hc10)) ?_ ?_
          · rintro j y G11 G12 Qy Qn hj s11 ⟨acc, hacc⟩ ⟨rfl, hv⟩ ky_ kn_
            have hwx : ws2[j]? = some y := by
              rw [List.getElem?_take] at hv
              split at hv
              · exact hv
              · cases hv
            obtain ⟨wx, ewx, T0, rfl, hT0⟩ := paired_get2 pw10 hwx
            have fin : ∀ u v, (∃ d, FlatD u d) → (∃ e, FlatD v e) → ∀ T, G12 T = none → Qy (.ref T) (upd G12 T (.tup [u, v])) := fun u v hu hv T hT =>
              ky_ _ _ rfl (Same.updf hT) ⟨T, u, v, rfl, fresh_ne (P10.same s11) hT, by rw [off_at (ne_of_none hacc hT).symm, upd_same], hu, hv⟩
            refine ⟨T0, [_, _], rfl, .inl (.inl (s11 _ _ hT0)), rfl, _, [_], rfl, _, [], rfl, rfl, ?_⟩
            refine ⟨rfl, _, rfl, rfl, _, rfl, ?_⟩
            cases hc : decide (V.int (wx.1.n : Int) = V.int 1) with
            | true =>
              refine iteT ⟨_, rfl, rfl, _, rfl, _, _, rfl, rfl, _, rfl, ?_⟩
              cases hc2 : decide ((wx.2 : Int) < 2) with
              | true => exact iteT ⟨_, rfl, rfl, (by show 2 ≤ sizeLine; omega), fun T hT => fin _ _ ⟨_, .bl _⟩ ⟨_, .bl _⟩ T hT⟩
              | false => exact iteF ⟨_, rfl, (by show 2 ≤ sizeLine; omega), fun T hT => fin _ _ ⟨_, .bl _⟩ ⟨_, .int _⟩ T hT⟩
            | false =>
              refine iteF ⟨_, rfl, _, rfl, _, _, rfl, rfl, _, rfl, ?_⟩
              cases hc2 : decide ((wx.2 : Int) < 2) with
              | true => exact iteT ⟨_, rfl, rfl, (by show 2 ≤ sizeLine; omega), fun T hT => fin _ _ ⟨_, .int _⟩ ⟨_, .bl _⟩ T hT⟩
              | false => exact iteF ⟨_, rfl, (by show 2 ≤ sizeLine; omega), fun T hT => fin _ _ ⟨_, .int _⟩ ⟨_, .int _⟩ T hT⟩
          · rintro G11 zs s11 hzs pz
            have lz := paired_len pz
            have lz2 : zs.length ≤ 2 := by
              rw [filter_true, List.length_range] at lz
              omega
            have s811 := s810.trans s11
            refine ⟨L', D2, ys, zs, rfl, rfl, s811 _ _ hys, hzs, by omega, fun Lf hLf => ?_⟩
            have s12 := Same.updf (o := .lst (ys ++ zs)) hLf
            have s812 := s811.trans s12
            have bAll : But pu H (upd G11 Lf (.lst (ys ++ zs))) := ((bHx.trans b5).trans (But.of (s57.trans s8))).trans (But.of s812)
            have PF := ((P5.same s57).same s8).same s812
            have nLf : Lf ≠ pu := fresh_ne (((P5.same s57).same s8).same s811) hLf
            refine k Lf (ys ++ zs) _ bAll (PF.mono (by omega)) (But.none ((bHx.trans b5).trans (But.of ((s57.trans s8).trans s811))) nLf hLf) upd_same (by rw [List.length_append]; have := ly; omega) ((vy.same (off_same pu s812)).app fun y my => ?_)
            obtain ⟨i, li, rfl⟩ := List.getElem_of_mem my
            obtain ⟨_, _, T, u, v, e, n, h, ⟨d, hd⟩, e', he⟩ := paired_get2 pz (List.getElem?_eq_getElem li)
            rw [e]
            refine ⟨_, va_tup (by rw [off_at n]; exact s12 _ _ (off_le _ _ _ _ h)) rfl (by simp) (tr_cons (Tr.flat hd) (tr_cons (Tr.flat he) tr_nil)), strS_tup _⟩
end
end K21
set_option Elab.async false
set_option linter.all false
set_option maxRecDepth 100000
set_option maxHeartbeats 8000000
namespace K21
open PySem PySem.Spec PyProof.Rows L2 KB LiI
abbrev s_is_why_wrong : Stmt := V.s_is_why_wrong
/-- a copy of a value of any kind -/
def spSameV : Sp := fun vs H Q _ => ∃ (x : V) (d : PyData), vs = [x] ∧ VA H x d ∧ ∀ y H', Same H H' → VA H' y d → Q y H'
/-- what redone gives: the list that is lacking, or nothing -/
def RV (ds : List Dd) (m : Nat → Nat) (H H' : Hp) (v : V) : Prop := (wr ds m = [] ∧ ∃ q, v = .ref q ∧ H q = none ∧ H' q = some (.lst (numsV (lackN ds m)))) ∨ (wr ds m ≠ [] ∧ v = .non)
def rD (ds : List Dd) (m : Nat → Nat) : PyData := if wr ds m = [] then .list (numsD (lackN ds m)) else .none
def spRedoneR : Sp := fun vs H Q _ => ∃ (a b : Addr) (ds : List Dd) (ks : List Nat) (m : Nat → Nat), vs = [.ref a, .ref b] ∧ LogAt H a ds ∧ Lg ds ∧ MkAt H b ks m ∧ ks.Perm (pgs ds) ∧ Mk ds m ∧ ∀ v H', Same H H' → RV ds m H H' v → Q v H'
theorem redR (vs : List V) (H : Hp) (Q : VK) (E : XK) (h : spRedoneR vs H Q E) : spRedone vs H Q E := by
  obtain ⟨a, b, ds, ks, m, e, hL, hG, hb, pk, mk, k⟩ := h
  exact ⟨a, b, ds, ks, m, e, hL, hG, hb, pk, mk, fun hw q H' s nq hq => k _ _ s (.inl ⟨hw, q, rfl, nq, hq⟩), fun hw H' s => k _ _ s (.inr ⟨hw, rfl⟩)⟩
/-- what why_wrong gives -/
def WV (ds : List Dd) (m : Nat → Nat) (H H' : Hp) (v : V) : Prop := (wr ds m = [] ∧ v = .non) ∨ ∃ d p ws q, wr ds m = (d, p) :: ws ∧ v = .ref q ∧ H q = none ∧ H' q = some (.tup [.int (d.n : Int), .int (p : Int)])
def wD (ds : List Dd) (m : Nat → Nat) : PyData := match wr ds m with
  | [] => .none
  | w :: _ => prD w
def spWhyR : Sp := fun vs H Q _ => ∃ (a b : Addr) (ds : List Dd) (ks : List Nat) (m : Nat → Nat), vs = [.ref a, .ref b] ∧ LogAt H a ds ∧ Lg ds ∧ MkAt H b ks m ∧ ks.Perm (pgs ds) ∧ Mk ds m ∧ ∀ v H', Same H H' → WV ds m H H' v → Q v H'
theorem whyR (vs : List V) (H : Hp) (Q : VK) (E : XK) (h : spWhyR vs H Q E) : spWhyWr vs H Q E := by
  obtain ⟨a, b, ds, ks, m, e, hL, hG, hb, pk, mk, k⟩ := h
  exact ⟨a, b, ds, ks, m, e, hL, hG, hb, pk, mk, fun hw H' s => k _ _ s (.inl ⟨hw, rfl⟩), fun d p ws hw q H' s nq hq => k _ _ s (.inr ⟨d, p, ws, q, hw, rfl, nq, hq⟩)⟩
theorem sameV_of (vs : List V) (H : Hp) (Q : VK) (E : XK) (h : spSameV vs H Q E) : spSame 2 vs H Q E ∨ spSameD vs H Q E := by
  obtain ⟨x, d, e, hx, k⟩ := h
  rcases hx with hx | ⟨a, rfl, ha, rfl⟩
  · exact .inl ⟨x, d, e, hx, fun y H' s t => k y H' s (.inl (t.same (nw_le _ _)))⟩
  · exact .inr ⟨a, e, ha, fun q H' s nq hq => k _ _ s (.inr ⟨q, rfl, hq, rfl⟩)⟩
theorem lack_len (ds : List Dd) (m : Nat → Nat) : (lackN ds m).length ≤ ds.length := by
  unfold lackN
  rw [List.length_map]
  exact List.length_filter_le _ _
theorem rv_td {ds : List Dd} {m : Nat → Nat} {H H' : Hp} {v : V} (h : RV ds m H H' v) (l : ds.length ≤ 1000) : TD H' 1 v (rD ds m) := by
  have ll := lack_len ds m
  unfold rD
  rcases h with ⟨hw, q, rfl, _, hq⟩ | ⟨hw, rfl⟩
  · rw [if_pos hw]
    exact nums_td hq (by omega)
  · rw [if_neg hw]
    exact TD.flat .non
/-- the lists that lead to the newest, as they were found -/
def LsI (ds : List Dd) (m : Nat → Nat) (B H : Hp) (lys : List V) : Prop := Paired (LsAt B H) (if wr ds m = [] then [lackN ds m] else []) lys
theorem LsI.same {ds : List Dd} {m : Nat → Nat} {B H H' : Hp} (s : Same H H') {lys : List V} (h : LsI ds m B H lys) : LsI ds m B H' lys := paired_mono (fun _ _ h => h.same s) h
theorem LsI.td {ds : List Dd} {m : Nat → Nat} {B H : Hp} {lys : List V} (h : LsI ds m B H lys) (l : ds.length ≤ 1000) : TD H 1 (lys.headD .non) (rD ds m) := by
  have ll := lack_len ds m
  unfold LsI at h
  unfold rD
  by_cases hw : wr ds m = []
  · rw [if_pos hw] at h ⊢
    cases h with
    | cons r t =>
      obtain ⟨b, rfl, _, hb⟩ := r
      exact nums_td hb (by omega)
  · rw [if_neg hw] at h ⊢
    cases h
    exact TD.flat .non
theorem LsI.len {ds : List Dd} {m : Nat → Nat} {B H : Hp} {lys : List V} (h : LsI ds m B H lys) : lys.length ≤ 1 ∧ lys.isEmpty = !(wr ds m).isEmpty := by
  unfold LsI at h
  by_cases hw : wr ds m = []
  · rw [if_pos hw] at h
    cases h with
    | cons r t =>
      cases t
      rw [hw]
      exact ⟨Nat.le_refl _, rfl⟩
  · rw [if_neg hw] at h
    cases h
    refine ⟨Nat.zero_le _, ?_⟩
    cases hz : wr ds m with
    | nil => exact absurd hz hw
    | cons x xs => rfl
theorem pe_imp {X : Cx} {e : Expr} {t u : TE} (h : PE X e t) (k : ∀ σ H Q, u σ H Q → t σ H Q) : PE X e u := ⟨fun pins s σ H Q I q => h.run pins s σ H Q I (k _ _ _ q)⟩
/-- the first of a list that has one item at most, or None -/
def tHead (i : Nat) : TE := fun σ H Q => ∃ (a : Addr) (ys : List V), σ[i]? = some (some (.ref a)) ∧ H a = some (.lst ys) ∧ ∀ H', Same H H' → Q (ys.headD .non) H'
theorem LsI.but {ds : List Dd} {m : Nat → Nat} {B G G' : Hp} {pu : Addr} {M : Nat} (hP : Purse B pu M) (k : But pu G G') {lys : List V} (h : LsI ds m B G lys) : LsI ds m B G' lys := paired_mono (fun _ _ ⟨b, e, n, h⟩ => ⟨b, e, n, k b _ (fresh_ne hP n) h⟩) h
theorem TwoAt.but {G G' : Hp} {pu : Addr} {M : Nat} (hP : Purse G pu M) (k : But pu G G') {w : Dd × Nat} {y : V} : TwoAt G w y → TwoAt G' w y := fun ⟨T, e, h⟩ => ⟨T, e, k T _ (fun z => by
  obtain ⟨_, _, _, _, e', _⟩ := hP
  rw [z, e'] at h
  cases h) h⟩
theorem mergeR {G : Hp} {R : Hp → Prop} {goal : Prop} (a : (∀ G', Same G G' → R G') → goal) (b : ∀ G', Same G G' → R G') : goal := a b
theorem wv_non {ds : List Dd} {m : Nat → Nat} {H H' : Hp} {v : V} (h : WV ds m H H' v) : decide (v = V.non) = (wr ds m).isEmpty := by
  rcases h with ⟨hw, rfl⟩ | ⟨d, p, ws, q, hw, rfl, _⟩
  · rw [hw]
    exact decide_eq_true rfl
  · rw [hw]
    exact decide_eq_false fun z => nomatch z
theorem wv_va {ds : List Dd} {m : Nat → Nat} {H H' : Hp} {v : V} {pu : Addr} {M : Nat} (hP : Purse H pu M) (h : WV ds m H H' v) : VA (off H' pu) v (wD ds m) := by
  unfold wD
  rcases h with ⟨hw, rfl⟩ | ⟨d, p, ws, q, hw, rfl, nq, hq⟩
  · rw [hw]
    exact .inl (Tr.flat .non)
  · rw [hw]
    exact va_tup ((off_at (fresh_ne hP nq)).trans hq) rfl (by simp) (tr_cons tr_i (tr_cons tr_i tr_nil))
theorem strS_wD (ds : List Dd) (m : Nat → Nat) : StrS (wD ds m) := fun z e => by
  unfold wD at e
  split at e
  · cases e
  · cases e
theorem wD_any {ds : List Dd} {m : Nat → Nat} (h : (wr ds m).isEmpty = false) : inPr (wD ds m) (wr ds m) = true := by
  unfold wD
  cases hw : wr ds m with
  | nil =>
    rw [hw] at h
    cases h
  | cons w ws =>
    unfold inPr
    rw [List.any_cons]
    have e : isPr (prD w) w.1.n w.2 = true := decide_eq_true ⟨rfl, rfl⟩
    show (isPr (prD w) w.1.n w.2 || _) = true
    rw [e, Bool.true_or]
theorem range_opt {α β : Type} (f : α → β) : ∀ l : List α, ((List.range l.length).filterMap fun i => (l[i]?).map f) = l.map f
  | [] => rfl
  | x :: l => by
    rw [List.length_cons, List.range_succ_eq_map, List.filterMap_cons, List.filterMap_map]
    have e : ((fun i => ((x :: l)[i]?).map f) ∘ Nat.succ) = fun i => (l[i]?).map f := rfl
    rw [e, range_opt f l]
    rfl
theorem any_bits {K : PySem.W.Frag} {H : Hp} {D : Addr} {ws : List (Dd × Nat)} {n : Nat} (e : n = ws.length) (d : PyData) (hR : H D = some (.lst ((List.range n).filterMap fun i => (ws[i]?).map fun w => V.bl (isPr d w.1.n w.2)))) :
    ∃ bs : List Bool, SqL K H D (bs.map V.bl) ∧ bs.any id = inPr d ws := by
  subst e
  rw [range_opt] at hR
  refine ⟨ws.map fun w => isPr d w.1.n w.2, SqL.of (by rw [hR, List.map_map]; rfl), ?_⟩
  unfold inPr
  rw [List.any_map]
  rfl
/-- y is a list of some numbers of the deeds, in their order; it is not the purse -/
def SbAt (pu : Addr) (ds : List Dd) (G : Hp) (y : V) : Prop := ∃ s b, y = .ref b ∧ b ≠ pu ∧ G b = some (.lst (numsV s)) ∧ s.Sublist (ds.map (·.n))
theorem SbAt.same {pu : Addr} {ds : List Dd} {G G' : Hp} (k : Same G G') {y : V} : SbAt pu ds G y → SbAt pu ds G' y := fun ⟨s, b, e, n, h, l⟩ => ⟨s, b, e, n, k _ _ h, l⟩
theorem SbAt.but {pu D : Addr} {ds : List Dd} {G G' : Hp} (k : But pu G G') {y : V} : SbAt pu ds (off G D) y → SbAt pu ds (off G' D) y := fun ⟨s, b, e, n, h, l⟩ => ⟨s, b, e, n, by
  have nd : b ≠ D := fun z => by
    unfold off at h
    rw [if_pos z] at h
    cases h
  rw [off_at nd] at h ⊢
  exact k _ _ n h, l⟩
theorem SbAt.but0 {pu : Addr} {ds : List Dd} {G G' : Hp} (k : But pu G G') {y : V} : SbAt pu ds G y → SbAt pu ds G' y := fun ⟨s, b, e, n, h, l⟩ => ⟨s, b, e, n, k _ _ n h, l⟩
theorem off_upd1 (X : Hp) (D : Addr) (o : HO) : off (upd X D o) D = off X D := by
  funext c
  by_cases z : c = D
  · unfold off
    rw [if_pos z, if_pos z]
  · rw [off_at z, off_at z, upd_ne z]
theorem lack_sub (ds : List Dd) (m : Nat → Nat) : (lackN ds m).Sublist (ds.map (·.n)) := by
  unfold lackN
  exact List.Sublist.map _ List.filter_sublist
theorem LsI.sb {pu : Addr} {M : Nat} {ds : List Dd} {m : Nat → Nat} {B H : Hp} (hP : Purse B pu M) {lys : List V} (h : LsI ds m B H lys) : ∀ y ∈ lys, SbAt pu ds H y := by
  unfold LsI at h
  intro y my
  obtain ⟨i, li, rfl⟩ := List.getElem_of_mem my
  obtain ⟨s, es, b, e, n, hb⟩ := paired_get2 h (List.getElem?_eq_getElem li)
  have ms := List.mem_of_getElem? es
  by_cases hw : wr ds m = []
  · rw [if_pos hw] at ms
    rw [List.mem_singleton.mp ms] at hb
    exact ⟨_, b, e, fresh_ne hP n, hb, lack_sub _ _⟩
  · rw [if_neg hw] at ms
    cases ms
theorem wat_tr {G : Hp} {v : V} {w : Nat × Bool} (h : WAt G v w) : Tr G 1 v (oD w) := by
  unfold oD
  rcases h with ⟨e, rfl⟩ | ⟨e, T, rfl, hT⟩
  · rw [if_pos e]
    exact Tr.flat (.int _)
  · rw [if_neg (by rw [e]; decide)]
    exact Tr.tup (n := 0) hT rfl (by simp) (tr_cons (Tr.flat (.str _)) (tr_cons (Tr.flat (.int _)) tr_nil))
theorem range_dV (l : List Nat) (f : Nat → V) : ((List.range l.length).map fun i => (ky (l.getD i 0), f (l.getD i 0))) = dV l f := range_map_get l f
theorem head_of {K : PySem.W.Frag} {i : Nat} {σ : L2.St} {H : Hp} {Q : VK} (h : tHead i σ H Q) : tIf (tTest (tOp (rEmp K true) (tVar i) (tLst tNil))) (tOp (rIxL K) (tVar i) (tC (.int 0))) (tC .non) σ H Q := by
  obtain ⟨a, ys, hσ, ha, k⟩ := h
  refine ⟨_, hσ, Nat.zero_le _, fun E hE => ?_⟩
  have s := Same.updf (o := .lst []) hE
  refine ⟨a, E, ys, rfl, rfl, SqL.of (s _ _ ha), SqL.of upd_same, _, rfl, ?_⟩
  cases ys with
  | nil => exact iteF (k _ s)
  | cons y yt => exact iteT ⟨_, hσ, a, _, 0, _, rfl, rfl, SqL.of (s _ _ ha), atI_nat (j := 0) rfl, k _ s⟩
def spAgain : Sp := fun vs H Q _ => ∃ (pu a b : Addr) (ds : List Dd) (m : Nat → Nat) (N : Nat), vs = [.ref pu, .ref a, .ref b] ∧ Purse H pu N ∧ N ≤ 2 ^ 37 ∧ LogAt (off H pu) a ds ∧ Lg ds ∧ Bd ds ∧ ds ≠ [] ∧ ds.length ≤ 6 ∧ (pgs ds).length ≤ 20 ∧ MkAt H b (pgs ds) m ∧ Mk ds m ∧
  ∀ H', But pu H H' → Purse H' pu (N + 40) → Q (.bl true) H'
section
variable {P : Program} {w : World} {K : PySem.W.Frag} {mg : Str → Option Value} {base : Heap}
abbrev s_again_right : Stmt := top 59
abbrev N_again_right : List Str := ["_law_purse_here", "_law_log_here", "_law_marks_here", "_law_handed", "_law_lent", "_law_lists_here", "_law_wrong", "_law_told", "_law_why", "_law_value", "_law_noted", "_law_due", "_law_some", "_law_numbers", "_law_late", "_law_spin", "_law_deed", "_law_pair", "_law_page"]
theorem sc_again_right : FnScope N_again_right ["_law_purse_here", "_law_log_here", "_law_marks_here"] (defScope s_again_right) := ⟨rfl, rfl, rfl, by decide +kernel, rfl, by decide +kernel, by decide +kernel⟩
theorem ok_again_right {f : Addr} {fd : FuncData} (F : FnP K "_law_again_right" s_again_right f fd) (Z : FreeS mg)
    {f_why_wrong : Addr} {d_why_wrong : FuncData} (g_why_wrong : mg "why_wrong" = some (.ref f_why_wrong)) (F_why_wrong : FnP K "why_wrong" s_why_wrong f_why_wrong d_why_wrong) (G_why_wrong : FnOk P w K mg base CX0 9 f_why_wrong d_why_wrong ["deeds", "stamps"] spWhyWr)
    {f_exact : Addr} {d_exact : FuncData} (g_exact : mg "_law_exact" = some (.ref f_exact)) (F_exact : FnP K "_law_exact" s_exact f_exact d_exact) (GA_exact : ∀ n : Nat, FnOk P w K mg base CX0 (n + 1) f_exact d_exact ["_law_mine", "_law_theirs"] (spExactD n))
    {f_same : Addr} {d_same : FuncData} (g_same : mg "_law_same" = some (.ref f_same)) (F_same : FnP K "_law_same" s_same f_same d_same) (GA_same : ∀ n : Nat, FnOk P w K mg base CX0 (n + 1) f_same d_same ["_law_thing"] (spSame n))
    {f_leading : Addr} {d_leading : FuncData} (g_leading : mg "_law_leading" = some (.ref f_leading)) (F_leading : FnP K "_law_leading" s_leading f_leading d_leading) (G_leading : FnOk P w K mg base CX0 5 f_leading d_leading ["_law_log_here", "_law_marks_here"] spLeading)
    {f_too_new : Addr} {d_too_new : FuncData} (g_too_new : mg "_law_too_new" = some (.ref f_too_new)) (F_too_new : FnP K "_law_too_new" s_too_new f_too_new d_too_new) (G_too_new : FnOk P w K mg base CX0 1 f_too_new d_too_new ["_law_log_here", "_law_marks_here"] spTooNew)
    {f_are_right : Addr} {d_are_right : FuncData} (g_are_right : mg "are_right" = some (.ref f_are_right)) (F_are_right : FnP K "are_right" s_are_right f_are_right d_are_right) (G_are_right : FnOk P w K mg base CX0 9 f_are_right d_are_right ["deeds", "stamps"] spAreR)
    {f_redone : Addr} {d_redone : FuncData} (g_redone : mg "redone" = some (.ref f_redone)) (F_redone : FnP K "redone" s_redone f_redone d_redone) (G_redone : FnOk P w K mg base CX0 10 f_redone d_redone ["deeds", "stamps"] spRedone)
    {f_bent_pairs : Addr} {d_bent_pairs : FuncData} (g_bent_pairs : mg "_law_bent_pairs" = some (.ref f_bent_pairs)) (F_bent_pairs : FnP K "_law_bent_pairs" s_bent_pairs f_bent_pairs d_bent_pairs) (G_bent_pairs : FnOk P w K mg base CX0 4 f_bent_pairs d_bent_pairs ["_law_purse_here", "_law_log_here", "_law_marks_here"] spBent)
    {f_walked : Addr} {d_walked : FuncData} (g_walked : mg "walked" = some (.ref f_walked)) (F_walked : FnP K "walked" s_walked f_walked d_walked) (G_walked : FnOk P w K mg base CX0 9 f_walked d_walked ["deeds", "stamps", "numbers"] spWalked)
    {f_done_again : Addr} {d_done_again : FuncData} (g_done_again : mg "_law_done_again" = some (.ref f_done_again)) (F_done_again : FnP K "_law_done_again" s_done_again f_done_again d_done_again) (G_done_again : FnOk P w K mg base CX0 4 f_done_again d_done_again ["_law_log_here", "_law_marks_here", "_law_numbers"] spDoneA)
    {f_is_why_wrong : Addr} {d_is_why_wrong : FuncData} (g_is_why_wrong : mg "is_why_wrong" = some (.ref f_is_why_wrong)) (F_is_why_wrong : FnP K "is_why_wrong" s_is_why_wrong f_is_why_wrong d_is_why_wrong) (G_is_why_wrong : FnOk P w K mg base CX0 9 f_is_why_wrong d_is_why_wrong ["deeds", "stamps", "value"] spIsWhy)
    {f_draw : Addr} {d_draw : FuncData} (g_draw : mg "_law_draw" = some (.ref f_draw)) (F_draw : FnP K "_law_draw" s_draw f_draw d_draw) (G_draw : FnOk P w K mg base CX0 2 f_draw d_draw ["_law_purse_here", "_law_many"] spDraw) (G_redR : FnOk P w K mg base CX0 10 f_redone d_redone ["deeds", "stamps"] spRedoneR) (G_whyR : FnOk P w K mg base CX0 9 f_why_wrong d_why_wrong ["deeds", "stamps"] spWhyR) (G_exP : FnOk P w K mg base CX0 2 f_exact d_exact ["_law_mine", "_law_theirs"] spExP) (G_sameV : FnOk P w K mg base CX0 3 f_same d_same ["_law_thing"] spSameV) :
    FnOk P w K mg base CX0 11 f fd ["_law_purse_here", "_law_log_here", "_law_marks_here"] spAgain := by
  have b_why_wrong : Binds K d_why_wrong ["deeds", "stamps"] [] := F_why_wrong.bindsN fun _ _ _ _ _ _ us hl => match us, hl with | [_, _], _ => rfl
  have b_exact : Binds K d_exact ["_law_mine", "_law_theirs"] [] := F_exact.bindsN fun _ _ _ _ _ _ us hl => match us, hl with | [_, _], _ => rfl
  have b_same : Binds K d_same ["_law_thing"] [] := F_same.bindsN fun _ _ _ _ _ _ us hl => match us, hl with | [_], _ => rfl
  have b_leading : Binds K d_leading ["_law_log_here", "_law_marks_here"] [] := F_leading.bindsN fun _ _ _ _ _ _ us hl => match us, hl with | [_, _], _ => rfl
  have b_too_new : Binds K d_too_new ["_law_log_here", "_law_marks_here"] [] := F_too_new.bindsN fun _ _ _ _ _ _ us hl => match us, hl with | [_, _], _ => rfl
  have b_are_right : Binds K d_are_right ["deeds", "stamps"] [] := F_are_right.bindsN fun _ _ _ _ _ _ us hl => match us, hl with | [_, _], _ => rfl
  have b_redone : Binds K d_redone ["deeds", "stamps"] [] := F_redone.bindsN fun _ _ _ _ _ _ us hl => match us, hl with | [_, _], _ => rfl
  have b_bent_pairs : Binds K d_bent_pairs ["_law_purse_here", "_law_log_here", "_law_marks_here"] [] := F_bent_pairs.bindsN fun _ _ _ _ _ _ us hl => match us, hl with | [_, _, _], _ => rfl
  have b_walked : Binds K d_walked ["deeds", "stamps", "numbers"] [] := F_walked.bindsN fun _ _ _ _ _ _ us hl => match us, hl with | [_, _, _], _ => rfl
  have b_done_again : Binds K d_done_again ["_law_log_here", "_law_marks_here", "_law_numbers"] [] := F_done_again.bindsN fun _ _ _ _ _ _ us hl => match us, hl with | [_, _, _], _ => rfl
  have b_is_why_wrong : Binds K d_is_why_wrong ["deeds", "stamps", "value"] [] := F_is_why_wrong.bindsN fun _ _ _ _ _ _ us hl => match us, hl with | [_, _, _], _ => rfl
  have b_draw : Binds K d_draw ["_law_purse_here", "_law_many"] [] := F_draw.bindsN fun _ _ _ _ _ _ us hl => match us, hl with | [_, _], _ => rfl
  refine F.ok sc_again_right (fun vs H Q E h => ?_) (fun cdv A outer s H vs Q E hr h => ?_)
  · obtain ⟨pu, a, b, ds, m, N, rfl, _⟩ := h
    rfl
  · obtain ⟨pu, a, b, ds, m, N, rfl, hP, hN, hL, hG, bd, ne, l6, p20, hb, mk, k⟩ := h
    have sl : (3000 : Nat) ≤ sizeLine := by decide
    have hu65 : _ + 65 < cLine := Nat.lt_of_le_of_lt (Nat.add_le_add_left (by decide : 65 ≤ 200) _) (Nat.lt_of_le_of_lt (Nat.add_le_add_right (Nat.le_add_right _ _) _) hr.un)
    have hu := Nat.lt_of_le_of_lt (Nat.add_le_add_left (by decide : 1 ≤ 65) _) hu65
    have hu64 := Nat.lt_of_le_of_lt (Nat.add_le_add_left (by decide : 64 ≤ 65) _) hu65
    have hu0 := Nat.lt_of_succ_lt hu
    have nd := sc_again_right.nd
    refine ⟨_, PSs.nox (pss_cons (ps_par (i := 3) (j := 4) rfl nd rfl rfl (by decide) rfl rfl (pa_cons (pe_call (GA_same 7) (hr.mono (by decide)) rfl g_same F_same.kp b_same .nil pass0 (pa_cons (pv 1) pa_nil)) (pa_cons (pe_callTy (call_dictPR rfl) (by rfl) Z.tdict (by decide +kernel) (pa_cons (pe_revL (pe_listItems rfl (pv 2) (by rfl) Z.tlist rfl)) (pa_nil))) (pa_nil))) rfl)
      (pss_cons (ps_par (i := 5) (j := 6) rfl nd rfl rfl (by decide) rfl rfl (pa_cons (pe_call G_leading (hr.mono (by decide)) rfl g_leading F_leading.kp b_leading .nil pass0 (pa_cons (pv 1) (pa_cons (pv 2) (pa_nil)))) (pa_cons (pe_call G_too_new (hr.mono (by decide)) rfl g_too_new F_too_new.kp b_too_new .nil pass0 (pa_cons (pv 1) (pa_cons (pv 2) (pa_nil)))) (pa_nil))) rfl)
      (pss_cons (ps_if (PW.pt (pw_or (pt_cmpR op_gt (pe_callB call_len_seq (by rfl) Z.len (by decide +kernel) (pa_cons (pv 5) (pa_nil))) (pe_int) (nomark _)) (pw_or1 (pt_cmpR op_ne (pe_cmpR (op_eqE hu0) (pv 5) (pe_lst (pa_nil)) (nomark _)) (pe_cmpR (op_neE hu0) (pv 6) (pe_lst (pa_nil)) (nomark _)) (nomark _))))) (pss_one (ps_ret (pe_bl))) (pss_nil))
      (pss_cons (ps_set (i := 7) nd rfl (Or.inl rfl) (pe_lst (pa_cons (pe_call G_are_right (hr.mono (by decide)) rfl g_are_right F_are_right.kp b_are_right .nil pass0 (pa_cons (pv 3) (pa_cons (pv 4) (pa_nil)))) (pa_cons (pe_call G_redR (hr.mono (by decide)) rfl g_redone F_redone.kp b_redone .nil pass0 (pa_cons (pv 3) (pa_cons (pv 4) pa_nil))) (pa_nil)))))
      (pss_cons (ps_if (pt_not (pt_val (pe_call (GA_exact 8) (hr.mono (by decide)) rfl g_exact F_exact.kp b_exact .nil pass0 (pa_cons (pe_lst (pa_cons (pv 7) (pa_cons (pv 3) (pa_cons (pe_listItems rfl (pv 4) (by rfl) Z.tlist rfl) (pa_nil))))) (pa_cons (pe_lst (pa_cons (pe_lst (pa_cons (pe_cmpR (op_neE hu0) (pv 5) (pe_lst (pa_nil)) (nomark _)) (pa_cons (pe_imp (pe_ifExp (pt_cmpR (op_neE hu0) (pv 5) (pe_lst pa_nil) (nomark _)) (pe_ix ix_list (pv 5) pe_int (fun _ _ => rfl)) pe_non) (fun σ H Q h => head_of h)) (pa_nil)))) (pa_cons (pv 1) (pa_cons (pe_revL (pe_listItems rfl (pv 2) (by rfl) Z.tlist rfl)) (pa_nil))))) (pa_nil)))))) (pss_one (ps_ret (pe_bl))) (pss_nil))
      (pss_cons (ps_set (i := 8) nd rfl (Or.inr rfl) (pe_call G_whyR (hr.mono (by decide)) rfl g_why_wrong F_why_wrong.kp b_why_wrong .nil pass0 (pa_cons (pv 3) (pa_cons (pv 4) pa_nil))))
      (pss_cons (ps_if (PW.pt (pw_or (pt_cmpR op_ne (pe_cmpR op_isN (pv 8) (pe_non) (nomark _)) (pe_cmpR (op_eqE hu0) (pv 6) (pe_lst (pa_nil)) (nomark _)) (nomark _)) (pw_or1 (PW.pt (pw_and (pt_cmpR op_notN (pv 8) (pe_non) (nomark _)) (pw_and1 (pt_not (pt_val (pe_callB (cr_any rfl) (by rfl) Z.any (by decide +kernel) (pa_cons (pe_lc (own := [("_law_pair", 17)]) (g := gName 17) (tt := tYes) (te := tCall spExP [] E0 (tCons (tVar 8) (tCons (tVar 17) tNil))) (by rfl) nd (pi_list (pv 6))
          (blkOk_by (own := [("_law_pair", 17)]) (N := N_again_right) (sc := defScope s_again_right) (by decide +kernel)) (fun _ _ _ _ _ => pg_name (i := 17) nd rfl (Or.inl rfl)) (fun _ _ _ _ _ => pts_nil)
          (fun _ _ _ _ _ => pe_call G_exP (hr.mono (by decide)) rfl g_exact F_exact.kp b_exact .nil pass0 (pa_cons (pv 8) (pa_cons (pv 17) pa_nil)))) (pa_nil))))))))))) (pss_one (ps_ret (pe_bl))) (pss_nil))
      (pss_cons (ps_for PassesOwn.never rfl (pi_list (pe_op op_cat (pe_lst (pa_cons (pv 8) (pa_nil))) (pe_call G_bent_pairs (hr.mono (by decide)) rfl g_bent_pairs F_bent_pairs.kp b_bent_pairs .nil pass0 (pa_cons (pv 0) (pa_cons (pv 1) (pa_cons (pv 2) (pa_nil))))))) (pg_name (i := 9) nd rfl (Or.inr rfl))
        (pss_cons (ps_asg (pe_tup (pa_cons (pe_call G_sameV (hr.mono (by decide)) rfl g_same F_same.kp b_same .nil pass0 (pa_cons (pv 9) pa_nil)) (pa_cons (pe_callB (cr_any rfl) (by rfl) Z.any (by decide +kernel) (pa_cons (pe_lc (own := [("_law_pair", 17)]) (g := gName 17) (tt := tYes) (te := tCall spExP [] E0 (tCons (tVar 9) (tCons (tVar 17) tNil))) (by rfl) nd (pi_list (pv 6))
          (blkOk_by (own := [("_law_pair", 17)]) (N := N_again_right) (sc := defScope s_again_right) (by decide +kernel)) (fun _ _ _ _ _ => pg_name (i := 17) nd rfl (Or.inl rfl)) (fun _ _ _ _ _ => pts_nil)
          (fun _ _ _ _ _ => pe_call G_exP (hr.mono (by decide)) rfl g_exact F_exact.kp b_exact .nil pass0 (pa_cons (pv 9) (pa_cons (pv 17) pa_nil)))) (pa_nil))) (pa_nil)))) (pg_tup rfl (pgs_cons (pg_name (i := 10) nd rfl (Or.inl rfl)) (pgs_cons (pg_name (i := 11) nd rfl (Or.inr rfl)) (pgs_nil)))))
      (pss_one (ps_if (pt_not (pt_val (pe_call (GA_exact 8) (hr.mono (by decide)) rfl g_exact F_exact.kp b_exact .nil pass0 (pa_cons (pe_lst (pa_cons (pe_call G_is_why_wrong (hr.mono (by decide)) rfl g_is_why_wrong F_is_why_wrong.kp b_is_why_wrong .nil pass0 (pa_cons (pv 3) (pa_cons (pv 4) (pa_cons (pv 9) (pa_nil))))) (pa_cons (pv 9) (pa_nil)))) (pa_cons (pe_lst (pa_cons (pv 11) (pa_cons (pv 10) (pa_nil)))) (pa_nil)))))) (pss_one (ps_ret (pe_bl))) (pss_nil)))))
      (pss_cons (ps_for PassesOwn.never rfl (pi_list (pe_op op_cat (pe_op op_cat (pv 5) (pe_lst (pa_cons (pe_lst (pa_nil)) (pa_cons (pe_lc (own := [("_law_deed", 16)]) (g := gName 16) (tt := tYes) (te := tOp (rIxT K) (tVar 16) (tC (.int 0))) (by rfl) nd (pi_list (pv 1))
          (blkOk_by (own := [("_law_deed", 16)]) (N := N_again_right) (sc := defScope s_again_right) (by decide +kernel)) (fun _ _ _ _ _ => pg_name (i := 16) nd rfl (Or.inl rfl)) (fun _ _ _ _ _ => pts_nil)
          (fun _ _ _ _ _ => pe_ix ix_tup (pv 16) (pe_int) (fun _ _ => rfl))) (pa_nil))))) (pe_lc (own := [("_law_spin", 15)]) (g := gName 15) (tt := tYes) (te := tLc (iList K (tVar 1)) (gName 16) (tTest (tOp rEq (tCall spDraw [] E0 (tCons (tVar 0) (tCons (tC (.int 2)) (tNil)))) (tC (.int 0)))) (tOp (rIxT K) (tVar 16) (tC (.int 0))) [16]) (by rfl) nd (pi_range1 (by rfl) Z.range (pa_cons (pe_int) (pa_nil)))
          (blkOk_by (own := [("_law_spin", 15)]) (N := N_again_right) (sc := defScope s_again_right) (by decide +kernel)) (fun _ _ _ _ _ => pg_name (i := 15) nd rfl (Or.inl rfl)) (fun _ _ _ _ _ => pts_nil)
          (fun _ _ _ _ _ => pe_lc (own := [("_law_deed", 16)]) (g := gName 16) (tt := tTest (tOp rEq (tCall spDraw [] E0 (tCons (tVar 0) (tCons (tC (.int 2)) (tNil)))) (tC (.int 0)))) (te := tOp (rIxT K) (tVar 16) (tC (.int 0))) (by rfl) nd (pi_list (pv 1))
          (blkOk_by (own := [("_law_deed", 16)]) (N := N_again_right) (sc := ({ kind := .function, names := [(".0", .local), ("_law_spin", .local), ("_law_log_here", .cell), ("_law_purse_here", .cell)], isGenerator := false, isCoroutine := false } : Scope)) (by decide +kernel)) (fun _ _ _ _ _ => pg_name (i := 16) nd rfl (Or.inl rfl)) (fun _ _ _ _ _ => pts_one (pt_cmpR op_eq (pe_call G_draw (hr.mono (by decide)) rfl g_draw F_draw.kp b_draw .nil pass0 (pa_cons (pv 0) (pa_cons (pe_int) (pa_nil)))) (pe_int) (nomark _)))
          (fun _ _ _ _ _ => pe_ix ix_tup (pv 16) (pe_int) (fun _ _ => rfl)))))) (pg_name (i := 12) nd rfl (Or.inl rfl))
        (pss_cons (ps_asg (pe_tup (pa_cons (pe_callTy call_list_ofR (by rfl) Z.tlist (by decide +kernel) (pa_cons (pv 12) (pa_nil))) (pa_cons (pe_call G_done_again (hr.mono (by decide)) rfl g_done_again F_done_again.kp b_done_again .nil pass0 (pa_cons (pv 1) (pa_cons (pv 2) (pa_cons (pv 12) (pa_nil))))) (pa_nil)))) (pg_tup rfl (pgs_cons (pg_name (i := 13) nd rfl (Or.inl rfl)) (pgs_cons (pg_name (i := 11) nd rfl (Or.inr rfl)) (pgs_nil)))))
      (pss_cons (ps_set (i := 14) nd rfl (Or.inl rfl) (pe_call G_walked (hr.mono (by decide)) rfl g_walked F_walked.kp b_walked .nil pass0 (pa_cons (pv 3) (pa_cons (pv 4) (pa_cons (pv 13) (pa_nil))))))
      (pss_cons (ps_if (pt_not (pt_val (pe_call (GA_exact 8) (hr.mono (by decide)) rfl g_exact F_exact.kp b_exact .nil pass0 (pa_cons (pe_lst (pa_cons (pv 14) (pa_cons (pv 13) (pa_nil)))) (pa_cons (pe_lst (pa_cons (pe_callTy (call_dictPR rfl) (by rfl) Z.tdict (by decide +kernel) (pa_cons (pe_lc (own := [("_law_page", 18)]) (g := gName 18) (tt := tYes) (te := tTup (tCons (tVar 18) (tCons (tDGet (tVar 11) (tVar 18)) (tNil)))) (by rfl) nd (pi_list (pe_callB ((cr_sortedDI rfl)) (by rfl) Z.sorted (by decide +kernel) (pa_cons (pv 11) (pa_nil))))
          (blkOk_by (own := [("_law_page", 18)]) (N := N_again_right) (sc := defScope s_again_right) (by decide +kernel)) (fun _ _ _ _ _ => pg_name (i := 18) nd rfl (Or.inl rfl)) (fun _ _ _ _ _ => pts_nil)
          (fun _ _ _ _ _ => pe_tup (pa_cons (pv 18) (pa_cons (pe_dget hu (pv 11) (pv 18) (fun _ _ => rfl)) (pa_nil))))) (pa_nil))) (pa_cons (pv 12) (pa_nil)))) (pa_nil)))))) (pss_one (ps_ret (pe_bl))) (pss_nil))
      (pss_one (ps_expr (pe_dclear (pv 14))))))))
      (pss_cons (ps_for PassesOwn.never rfl (pi_list (pe_op op_rep (pe_lst (pa_cons (pe_ix ix_list (pv 7) (pe_int) (fun _ _ => rfl)) (pa_nil))) (pe_callTy call_int1 (by rfl) Z.int (by decide +kernel) (pa_cons (pe_cmpR (op_neE hu0) (pv 5) (pe_lst (pa_nil)) (nomark _)) (pa_nil))))) (pg_name (i := 12) nd rfl (Or.inl rfl))
        (pss_one (ps_expr (pe_bm PySem.F.plainAttrs_list PySem.F.slot_list_append PySem.F.type_list_append mt_append (pv 12) (pa_cons (pe_non) (pa_nil))))))
      (pss_one (ps_ret (pe_call (GA_exact 8) (hr.mono (by decide)) rfl g_exact F_exact.kp b_exact .nil pass0 (pa_cons (pe_lst (pa_cons (pe_call G_redR (hr.mono (by decide)) rfl g_redone F_redone.kp b_redone .nil pass0 (pa_cons (pv 1) (pa_cons (pv 2) pa_nil))) (pa_cons (pv 3) (pa_cons (pe_cmpR (op_eqDM hu65) (pv 4) (pv 2) (nomark _)) (pa_nil))))) (pa_cons (pe_lst (pa_cons (pe_imp (pe_ifExp (pt_cmpR (op_neE hu0) (pv 5) (pe_lst pa_nil) (nomark _)) (pe_ix ix_list (pv 5) pe_int (fun _ _ => rfl)) pe_non) (fun σ H Q h => head_of h)) (pa_cons (pv 1) (pa_cons (pe_bl) (pa_nil))))) (pa_nil)))))))))))))))), ?_⟩
    have hLH : LogAt H a ds := hL.same (off_le _ _)
    have pR : (pgs ds).reverse.Perm (pgs ds) := List.reverse_perm _
    have wl := wrD_len hG m
    -- the copies
    refine ⟨_, rfl, .ref a, logD ds, rfl, hLH.tr hG, fun yh G1 s1 trh => ?_⟩
    obtain ⟨a', rfl, hL'⟩ := log_of_tr trh
    refine ⟨_, rfl, b, _, rfl, s1 _ _ hb, fun G2 pl ts s2 npl nts nin hpl pts => ⟨pl, _, rfl, SqL.of hpl, fun A3 hA3 => ?_⟩⟩
    have s3 := Same.updf (o := .lst (ts.map V.ref).reverse) hA3
    refine ⟨A3, ts.reverse, (mV (pgs ds) m).reverse, rfl, SqL.of (by rw [upd_same, List.map_reverse]), paired_mono (fun t q h => SqT.of (s3 _ _ h)) (paired_rev pts), fun ln hln => ?_⟩
    have erev : (mV (pgs ds) m).reverse = mV (pgs ds).reverse m := by
      unfold mV dV
      rw [List.map_reverse]
    rw [erev, merge_dV0 (pR.nodup_iff.mpr (pgs_nd ds))]
    have s4 := Same.updf (o := .dK (mV (pgs ds).reverse m)) hln
    have hS4 : Same H _ := s1.trans ((show Same G1 G2 from s2).trans (s3.trans s4))
    have hln4 : upd (upd G2 A3 (.lst (ts.map V.ref).reverse)) ln (.dK (mV (pgs ds).reverse m)) ln = some (.dK (mV (pgs ds).reverse m)) := upd_same
    have hL4 : LogAt (off (upd (upd G2 A3 (.lst (ts.map V.ref).reverse)) ln (.dK (mV (pgs ds).reverse m))) pu) a' ds := hL'.same fun c o e => by
      have n1 : c ≠ pu := fresh_ne hP (nw_none e)
      rw [off_at n1]
      exact ((show Same G1 G2 from s2).trans (s3.trans s4)) _ _ (nw_le _ _ _ _ e)
    have nln : ln ≠ pu := fresh_ne (((hP.same s1).same (show Same G1 G2 from s2)).same s3) hln
    generalize upd (upd G2 A3 (.lst (ts.map V.ref).reverse)) ln (.dK (mV (pgs ds).reverse m)) = G4 at *
    refine ⟨_, _, rfl, ?_⟩
    refine ⟨_, rfl, _, rfl, a, b, ds, m, rfl, hLH.same hS4, hG, bd, l6, hS4 _ _ hb, mk, fun lq lys G5 s5 nlq hlq pls => ?_⟩
    have pls : LsI ds m G4 G5 lys := pls
    refine ⟨_, rfl, _, rfl, a, b, ds, pgs ds, m, rfl, hLH.same (hS4.trans s5), hG, (hS4.trans s5) _ _ hb, List.Perm.refl _, fun wq wys G6 s6 nwq hwq pws => ⟨_, _, rfl, ?_⟩⟩
    obtain ⟨ll1, lemp⟩ := pls.len
    have lws := paired_len pws
    have hlq6 := s6 _ _ hlq
    refine ⟨_, rfl, lq, lys, rfl, Or.inl (SqL.of hlq6), _, _, rfl, rfl, _, rfl, ?_⟩
    rw [decide_eq_false (show ¬ (1 : Int) < (lys.length : Int) by omega)]
    refine iteF ⟨_, rfl, Nat.zero_le _, fun E1 hE1 => ?_⟩
    have s7 := Same.updf (o := .lst []) hE1
    refine ⟨lq, E1, lys, rfl, rfl, SqL.of (s7 _ _ hlq6), SqL.of upd_same, _, rfl, Nat.zero_le _, fun E2 hE2 => ?_⟩
    have s8 := Same.updf (o := .lst []) hE2
    refine ⟨wq, E2, wys, rfl, rfl, SqL.of ((s7.trans s8) _ _ hwq), SqL.of upd_same, rfl, _, rfl, ?_⟩
    have ewz : wys.isEmpty = (wr ds m).isEmpty := by
      cases wys with
      | nil =>
        rw [List.length_eq_zero_iff.mp lws]
        rfl
      | cons y ys =>
        cases hz : wr ds m with
        | nil =>
          rw [hz] at lws
          cases lws
        | cons z zs => rfl
    rw [lemp, ewz]
    have ez : (!decide (V.bl ((!(wr ds m).isEmpty) != false) = V.bl ((wr ds m).isEmpty != true))) = false := by
      cases (wr ds m).isEmpty <;> decide +kernel
    rw [ez]
    refine iteF ?_
    have s68 := s7.trans s8
    have hlq8 := s68 _ _ hlq6
    have hwq8 := s68 _ _ hwq
    have pls8 : LsI ds m G4 _ lys := (pls.same s6).same s68
    have pws8 : Paired (TwoAt _) (wr ds m) wys := paired_mono (fun w y h => h.same s68) pws
    have hS8 := (hS4.trans s5).trans (s6.trans s68)
    have s48 := s5.trans (s6.trans s68)
    have hL8 := hL4.same (off_same pu s48)
    have hln8 := s48 _ _ hln4
    have nE1 := hE1
    clear hE1 hE2
    generalize upd (upd G6 E1 (.lst [])) E2 (.lst []) = G8 at *
    -- told
    have La'8 := hL8.same (off_le _ _)
    refine ⟨_, rfl, _, rfl, a', ln, ds, (pgs ds).reverse, m, rfl, La'8, hG, hln8, pR, mk, fun G9 s9 => ?_⟩
    refine ⟨_, rfl, _, rfl, a', ln, ds, (pgs ds).reverse, m, rfl, La'8.same s9, hG, s9 _ _ hln8, pR, mk, fun rv G10 s10 hrv => ⟨(by show 2 ≤ sizeLine; omega), fun td htd => ?_⟩⟩
    have s11 := Same.updf (o := .lst [V.bl (wr ds m).isEmpty, rv]) htd
    have htd11 := upd_same (H := G10) (a := td) (o := .lst [V.bl (wr ds m).isEmpty, rv])
    have s811 := s9.trans (s10.trans s11)
    have hrv11 : RV ds m G8 (upd G10 td (.lst [V.bl (wr ds m).isEmpty, rv])) rv := by
      rcases hrv with ⟨h1, q, h2, h3, h4⟩ | h
      · exact .inl ⟨h1, q, h2, none_back s9 h3, s11 _ _ h4⟩
      · exact .inr h
    have hrvt : rv ≠ .ref td := fun z => by
      rcases hrv with ⟨h1, q, h2, h3, h4⟩ | ⟨h1, h2⟩
      · rw [h2] at z
        cases z
        rw [h4] at htd
        cases htd
      · rw [h2] at z
        cases z
    have ntd8 : G8 td = none := none_back (s9.trans s10) htd
    clear hrv htd s9 s10 s11
    generalize upd G10 td (.lst [V.bl (wr ds m).isEmpty, rv]) = G11 at *
    have hL11 := hL8.same (off_same pu s811)
    have hS11 := hS8.trans s811
    -- the first comparison
    refine ⟨_, rfl, _, rfl, _, rfl, ln, _, rfl, s811 _ _ hln8, fun G12 q1 x1 s12 nq1 nx1 ni1 hq1 hx1 => ⟨(by show 3 ≤ sizeLine; omega), fun A5 hA5 => ?_⟩⟩
    have s13 := Same.updf (o := .lst [V.ref td, V.ref a', V.ref q1]) hA5
    have s1113 := (show Same G11 G12 from s12).trans s13
    refine ⟨_, rfl, Nat.zero_le _, fun E3 hE3 => ?_⟩
    have s14 := Same.updf (o := .lst []) hE3
    have s814 := (s811.trans s1113).trans s14
    refine ⟨lq, E3, lys, rfl, rfl, SqL.of (s814 _ _ hlq8), SqL.of upd_same, lq, lys, rfl, s814 _ _ hlq8, fun G15 s15 => ⟨(by show 2 ≤ sizeLine; omega), fun A6 hA6 => ?_⟩⟩
    have eb : (lys.isEmpty != true) = (wr ds m).isEmpty := by
      rw [lemp]
      cases (wr ds m).isEmpty <;> rfl
    rw [eb]
    have s16 := Same.updf (o := .lst [V.bl (wr ds m).isEmpty, lys.headD .non]) hA6
    have s1116 := (s1113.trans s14).trans (s15.trans s16)
    refine ⟨_, rfl, _, rfl, b, _, rfl, (hS11.trans s1116) _ _ hb, fun G17 q2 x2 s17 nq2 nx2 ni2 hq2 hx2 => ⟨q2, _, rfl, SqL.of hq2, fun A7 hA7 => ?_⟩⟩
    have s18 := Same.updf (o := .lst (x2.map V.ref).reverse) hA7
    refine ⟨(by show 3 ≤ sizeLine; omega), fun A8 hA8 => ?_⟩
    have s19 := Same.updf (o := .lst [V.ref A6, V.ref a, V.ref A7]) hA8
    have s1619 := (show Same _ G17 from s17).trans (s18.trans s19)
    have s1119 := s1116.trans s1619
    have lr : (pgs ds).reverse.length ≤ 1000 := by
      rw [List.length_reverse]
      omega
    have lpls : LsI ds m G4 _ lys := pls8.same (s811.trans s1119)
    refine ⟨.ref A5, .ref A8, .list [.list [.bool (wr ds m).isEmpty, rD ds m], logD ds, itD (pgs ds).reverse m], rfl, ?_, ?_, fun G20 s20 => ⟨true, rfl, iteF ?_⟩⟩
    · refine TD.lst ((s14.trans ((s15.trans s16).trans s1619)) _ _ upd_same) rfl (by simp) (td_cons (td_le (TD.lst (n := 1) (s1119 _ _ htd11) rfl (by simp) (td_cons (TD.flat (.bl _)) (td_cons (rv_td (show RV ds m G8 _ rv from ?_) (by omega)) td_nil))) 5) (td_cons (TD.of (((hL11.same (off_le _ _)).same s1119).tr hG)) (td_cons (td_le (it_td ((s13.trans (s14.trans ((s15.trans s16).trans s1619))) _ _ hq1) (paired_mono (fun t q h => (s13.trans (s14.trans ((s15.trans s16).trans s1619))) _ _ h) hx1) lr) 5) td_nil)))
      rcases hrv11 with ⟨h1, q, h2, h3, h4⟩ | h
      · exact .inl ⟨h1, q, h2, h3, s1119 _ _ h4⟩
      · exact .inr h
    · exact TD.lst upd_same rfl (by simp) (td_cons (td_le (TD.lst (n := 1) (s1619 _ _ upd_same) rfl (by simp) (td_cons (TD.flat (.bl _)) (td_cons (lpls.td (by omega)) td_nil))) 5) (td_cons (TD.of ((hLH.same (hS11.trans s1119)).tr hG)) (td_cons (td_le (it_td (s19 _ _ (by rw [upd_same, List.map_reverse])) (by
        rw [← erev]
        exact paired_rev (paired_mono (fun t q h => (s18.trans s19) _ _ h) hx2)) lr) 5) td_nil)))
    have s1120 := s1119.trans s20
    have s820 := s811.trans s1120
    have hS20 := hS8.trans s820
    clear lpls s20 s1119 s1619 s19 s18 s17 s1116 s16 s15 s814 s14 s1113 s13 s12
    -- why
    refine ⟨_, rfl, _, rfl, a', ln, ds, (pgs ds).reverse, m, rfl, La'8.same s820, hG, s820 _ _ hln8, pR, mk, fun wv G21 s21 hwv => ?_⟩
    have P20 := hP.same hS20
    have dn := wv_non hwv
    have hS21 := hS20.trans s21
    have hva := wv_va P20 hwv
    refine ⟨_, rfl, rfl, _, rfl, Nat.zero_le _, fun E4 hE4 => ?_⟩
    have s22 := Same.updf (o := .lst []) hE4
    have s822 := (s820.trans s21).trans s22
    refine ⟨wq, E4, wys, rfl, rfl, SqL.of (s822 _ _ hwq8), SqL.of upd_same, rfl, _, rfl, ?_⟩
    rw [dn, ewz]
    have ez2 : (!decide (V.bl (wr ds m).isEmpty = V.bl ((wr ds m).isEmpty != false))) = false := by
      cases (wr ds m).isEmpty <;> decide +kernel
    rw [ez2]
    refine iteF ?_
    have hva22 := hva.same (off_same pu s22)
    have hS22 := hS21.trans s22
    have pws22 : Paired (TwoAt _) (wr ds m) wys := paired_mono (fun w y h => h.same s822) pws8
    have s1122 := (s1120.trans s21).trans s22
    clear hE4 s22
    generalize upd G21 E4 (.lst []) = G22 at *
    refine ⟨_, rfl, rfl, _, rfl, ?_⟩
    rw [dn]
    apply mergeR (G := G22)
    case a =>
      intro rest
      cases hz : (wr ds m).isEmpty with
      | true => exact iteF (iteF (rest G22 (Same.refl _)))
      | false =>
        refine iteT ⟨_, rfl, wq, rfl, ⟨_, SqL.of (s822 _ _ hwq8)⟩, fun D hD => ?_⟩
        refine lc_sel (n := wys.length) (walk_list (K := K) (a := wq) (xs := wys)) (fun i => ((wr ds m)[i]?).map fun w => V.bl (isPr (wD ds m) w.1.n w.2)) (by omega) hD (fun G s8 => SqL.of (s8 _ _ (s822 _ _ hwq8))) ?_ ?_
        · rintro i y H2 H3 Qy Qn hi sH ⟨rfl, hv⟩ ky' kn
          obtain ⟨w1, ew, T, rfl, hT⟩ := paired_get2 pws22 hv
          rw [ew] at ky'
          exact ⟨rfl, _, rfl, _, rfl, wv, _, T, w1.1.n, w1.2, rfl, (hva22.same (off_le _ _)).same sH, strS_wD ds m, sH _ _ hT, fun H5 s5 => ky' _ _ s5 rfl⟩
        · intro H2 s2 hR
          obtain ⟨bs, hB, hb'⟩ := any_bits (K := K) lws.symm _ hR
          refine ⟨D, bs, rfl, hB, _, rfl, ?_⟩
          rw [hb', wD_any hz]
          exact iteF (rest _ s2)
    intro G23 s23
    have P23 := (hP.same hS22).same s23
    have hS23 := hS22.trans s23
    have s823 := s822.trans s23
    refine ⟨_, rfl, (by show 1 ≤ sizeLine; omega), fun W1 hW1 => ?_⟩
    have s24 := Same.updf (o := .lst [wv]) hW1
    have hS24 := hS23.trans s24
    refine ⟨_, rfl, _, rfl, _, rfl, pu, a, b, ds, m, N, rfl, P23.same s24, by omega, hL.same (off_same pu hS24), hG, ne, hS24 _ _ hb, fun bq bys G25 b25 P25 nbq hbq lby vby => ?_⟩
    have nW1 : W1 ≠ pu := fresh_ne P23 hW1
    refine ⟨W1, bq, [wv], bys, rfl, rfl, b25 _ _ nW1 upd_same, hbq, (by rw [List.length_singleton]; omega), fun Vq hVq => ⟨Vq, rfl, ⟨_, SqL.of upd_same⟩, ?_⟩⟩
    have s26 := Same.updf (o := .lst ([wv] ++ bys)) hVq
    have hVq26 := upd_same (H := G25) (a := Vq) (o := .lst ([wv] ++ bys))
    have b2226 : But pu G22 (upd G25 Vq (.lst ([wv] ++ bys))) := (But.of (s23.trans s24)).trans (b25.trans (But.of s26))
    have P26 := P25.same s26
    have vas : VAs (off (upd G25 Vq (.lst ([wv] ++ bys))) pu) ([wv] ++ bys) := (VAs.cons _ (hva22.same (but_off b2226)) (strS_wD ds m) .nil).app (vby.same (off_same pu s26))
    have pws26 : Paired (TwoAt (upd G25 Vq (.lst ([wv] ++ bys)))) (wr ds m) wys := paired_mono (fun w y h => h.but (hP.same hS22) b2226) pws22
    have b826 : But pu G8 (upd G25 Vq (.lst ([wv] ++ bys))) := (But.of s822).trans b2226
    have b1126 : But pu G11 (upd G25 Vq (.lst ([wv] ++ bys))) := (But.of s1122).trans b2226
    have bH26 : But pu H (upd G25 Vq (.lst ([wv] ++ bys))) := (But.of hS22).trans b2226
    clear hW1 hVq nbq hbq vby P25 b25 s24 s26
    generalize upd G25 Vq (.lst ([wv] ++ bys)) = G26 at *
    have nlq : lq ≠ pu := fresh_ne (hP.same hS4) nlq
    have nwq : wq ≠ pu := fresh_ne ((hP.same hS4).same s5) nwq
    have nbp : b ≠ pu := fun z => by
      obtain ⟨_, _, _, _, e', _⟩ := hP
      unfold MkAt at hb
      rw [z, e'] at hb
      cases hb
    have hlq26 := b826 _ _ nlq hlq8
    have hwq26 := b826 _ _ nwq hwq8
    have hln26 := b826 _ _ nln hln8
    have hb26 := bH26 _ _ nbp hb
    have hL26 : LogAt (off G26 pu) a ds := hL.same (but_off bH26)
    have hLa26 : LogAt (off G26 pu) a' ds := hL8.same (but_off b826)
    refine for_it (walk_list (K := K) (a := Vq) (xs := [wv] ++ bys)) (fun i σ G => Same G26 G ∧ ∃ v9 v10 v11, σ = [some (.ref pu), some (.ref a), some (.ref b), some (.ref a'), some (.ref ln), some (.ref lq), some (.ref wq), some (.ref td), some wv, v9, v10, v11, none, none, none, none, none, none, none])
      ⟨Same.refl _, _, _, _, rfl⟩ (fun i σ G _ hh => SqL.of (hh.1 _ _ hVq26)) ?_ ?_
    · rintro i x σ G28 G29 hi ⟨s28, v9, v10, v11, rfl⟩ ⟨rfl, hv⟩
      obtain ⟨d, hxv, hxs⟩ := vas x (List.mem_of_getElem? hv)
      have hx28 := (hxv.same (off_le _ _)).same s28
      refine ⟨_, rfl, x, d, rfl, hx28, fun nv G30 s30 hnv => ?_⟩
      have s2630 := s28.trans s30
      refine ⟨_, rfl, wq, rfl, ⟨_, SqL.of (s2630 _ _ hwq26)⟩, fun D hD => ?_⟩
      refine lc_sel (n := wys.length) (walk_list (K := K) (a := wq) (xs := wys)) (fun i => ((wr ds m)[i]?).map fun w => V.bl (isPr d w.1.n w.2)) (by omega) hD (fun G s8 => SqL.of (s8 _ _ (s2630 _ _ hwq26))) ?_ ?_
      · rintro i y H2 H3 Qy Qn hi sH ⟨rfl, hv⟩ ky' kn
        obtain ⟨w1, ew, T, rfl, hT⟩ := paired_get2 pws26 hv
        rw [ew] at ky'
        exact ⟨rfl, _, rfl, _, rfl, x, d, T, w1.1.n, w1.2, rfl, (hx28.same s30).same sH, hxs, (s2630.trans sH) _ _ hT, fun H5 s5 => ky' _ _ s5 rfl⟩
      · intro H2 s2 hR
        obtain ⟨bs, hB, hb'⟩ := any_bits (K := K) lws.symm _ hR
        refine ⟨D, bs, rfl, hB, ?_⟩
        rw [hb']
        refine ⟨(by show 2 ≤ sizeLine; omega), fun T hT => ⟨T, [_, _], rfl, .inl (.inl upd_same), rfl, _, [_], rfl, _, [], rfl, rfl, ?_⟩⟩
        have s31 := Same.updf (o := .tup [nv, V.bl (inPr d (wr ds m))]) hT
        have s2831 := (s30.trans s2).trans s31
        have s2631 := s28.trans s2831
        refine ⟨_, rfl, _, rfl, _, rfl, a', ln, x, ds, (pgs ds).reverse, m, d, rfl, (hLa26.same (off_le _ _)).same s2631, hG, s2631 _ _ hln26, pR, mk, hx28.same s2831, fun G32 s32 => ⟨_, rfl, (by show 2 ≤ sizeLine; omega), fun A5 hA5 => ?_⟩⟩
        have s33 := Same.updf (o := .lst [V.bl (inPr d (wr ds m)), x]) hA5
        refine ⟨_, rfl, _, rfl, (by show 2 ≤ sizeLine; omega), fun A6 hA6 => ?_⟩
        have s34 := Same.updf (o := .lst [V.bl (inPr d (wr ds m)), nv]) hA6
        have s3134 := s32.trans (s33.trans s34)
        refine ⟨.ref A5, .ref A6, .list [.bool (inPr d (wr ds m)), d], rfl, ?_, ?_, fun G35 s35 => ⟨true, rfl, iteF ⟨s2631.trans (s3134.trans s35), _, _, _, rfl⟩⟩⟩
        · exact td_le (TD.lst (n := 2) (s34 _ _ upd_same) rfl (by simp) (td_cons (TD.flat (.bl _)) (td_cons ((hx28.same s2831).same s3134).td td_nil))) 5
        · exact td_le (TD.lst (n := 2) upd_same rfl (by simp) (td_cons (TD.flat (.bl _)) (td_cons (hnv.same ((s2.trans s31).trans s3134)).td td_nil))) 5
    · rintro σ G27 ⟨s27, v9, v10, v11, rfl⟩
      have b827 := b826.trans (But.of s27)
      have b1127 := b1126.trans (But.of s27)
      have bH27 := bH26.trans (But.of s27)
      have P27 := P26.same s27
      have hL27 := hL26.same (off_same pu s27)
      have hLa27 := hLa26.same (off_same pu s27)
      have hlq27 := s27 _ _ hlq26
      have hln27 := s27 _ _ hln26
      have hb27 := s27 _ _ hb26
      clear pws26 vas hVq26 hwq26
      have hLH27 := hL27.same (off_le _ _)
      obtain ⟨xs, ha, lx, hx⟩ := id hLH27
      refine ⟨_, rfl, Nat.zero_le _, fun E5 hE5 => ⟨_, rfl, a, rfl, ⟨_, SqL.of (Same.updf hE5 _ _ ha)⟩, fun D5 hD5 => ?_⟩⟩
      have t1 := Same.updf (o := .lst []) hE5
      refine lc_sel (n := xs.length) (walk_list (K := K) (a := a) (xs := xs)) (fun i => (ds[i]?).bind fun d => if (fun _ : Dd => true) d = true then some (V.int (d.n : Int)) else none) (by omega) hD5 (fun G s8 => SqL.of (s8 _ _ (t1 _ _ ha))) ?_ ?_
      · rintro i x G8 G9 Qy Qn hi s8 ⟨rfl, hv⟩ ky_ kn
        have li : i < ds.length := by omega
        have hdi : ds[i]? = some ds[i] := List.getElem?_eq_getElem li
        obtain ⟨t, rd, tw, rfl, ht, hr1, _⟩ := (hx i x _ hv hdi).same (t1.trans s8)
        rw [hdi, Option.bind_some] at ky_ kn
        exact ⟨rfl, _, rfl, t, _, 0, _, rfl, rfl, SqT.of ht, rfl, ky_ _ _ (Same.refl _) rfl⟩
      · intro G36 t2 hR
        rw [lx, sel_dn, List.filter_eq_self.mpr fun _ _ => rfl] at hR
        refine ⟨(by show 2 ≤ sizeLine; omega), fun B5 hB5 => ?_⟩
        have t3 := Same.updf (o := .lst [V.ref E5, V.ref D5]) hB5
        refine ⟨lq, B5, lys, _, rfl, rfl, (t1.trans (t2.trans t3)) _ _ hlq27, upd_same, (by show lys.length + 2 ≤ sizeLine; omega), fun C5 hC5 => ?_⟩
        have t4 := Same.updf (o := .lst (lys ++ [V.ref E5, V.ref D5])) hC5
        have t14 := t1.trans (t2.trans (t3.trans t4))
        have hE54 := (t2.trans (t3.trans t4)) _ _ (upd_same (H := G27) (a := E5) (o := .lst []))
        have hD54 := (t3.trans t4) _ _ hR
        have hC54 := upd_same (H := upd G36 B5 (.lst [V.ref E5, V.ref D5])) (a := C5) (o := .lst (lys ++ [V.ref E5, V.ref D5]))
        have nE5 : E5 ≠ pu := fresh_ne P27 hE5
        have nD5 : D5 ≠ pu := fresh_ne (P27.same t1) hD5
        have nC5 : C5 ≠ pu := fresh_ne (P27.same (t1.trans (t2.trans t3))) hC5
        clear hE5 hD5 hB5 hC5 hR t1 t2 t3 t4
        generalize upd (upd G36 B5 (.lst [V.ref E5, V.ref D5])) C5 (.lst (lys ++ [V.ref E5, V.ref D5])) = G37 at *
        have P37 := P27.same t14
        refine ⟨3, rfl, by decide, by decide, fun D6 hD6 => ?_⟩
        have nD6 : D6 ≠ pu := fresh_ne P37 hD6
        have dr : ∀ M, M ≤ 2 ^ 38 → ∀ H', Purse H' pu M → (1 : Int) ≤ 2 ∧ (2 : Int).natAbs.log2 < 9000 ∧ Purse H' pu M ∧ M + mixes 2 ≤ 2 ^ 50 ∧ mixes 2 ≤ 2 ^ 50 := fun M hM H' hP' => by
          have e : mixes 2 = 1 := mixes_one (by decide) (by decide)
          exact ⟨by decide, log_small (by decide) (by decide), hP', by omega, by omega⟩
        have mx2 : mixes 2 = 1 := mixes_one (by decide) (by decide)
        have hL37 := hL27.same (off_same pu t14)
        refine lc_it (n := 3) (walk_range (lo := 0) (n := 3)) (fun j G => But pu G37 G ∧ (∃ M, Purse G pu M ∧ M ≤ N + 8 + 6 * j) ∧ ∃ ys, G D6 = some (.lst ys) ∧ ys.length = j ∧ ∀ y ∈ ys, SbAt pu ds (off G D6) y)
          ⟨But.of (Same.updf hD6), ⟨_, P37.same (Same.updf hD6), Nat.le_refl _⟩, [], upd_same, rfl, fun y m => nomatch m⟩ (fun _ _ _ _ => trivial) ?_ ?_
        · rintro j x G2 G3 hj ⟨b2, ⟨M, P2, lM⟩, ys, hys, ly, py⟩ ⟨rfl, rfl⟩
          obtain ⟨xs2, ha2', lx2, hx2⟩ := hL37.same (but_off b2)
          have ha2 := off_le _ _ _ _ ha2'
          have na2 : a ≠ pu := fun z => by
            unfold off at ha2'
            rw [if_pos z] at ha2'
            cases ha2'
          refine ⟨rfl, _, rfl, a, rfl, ⟨_, SqL.of ha2⟩, fun D7 hD7 => ?_⟩
          have nD7 : D7 ≠ pu := fresh_ne P2 hD7
          refine lc_it (n := xs2.length) (walk_list (K := K) (a := a) (xs := xs2)) (fun i G => But pu G3 G ∧ (∃ M', Purse G pu M' ∧ M' ≤ M + i) ∧ ∃ s : List Nat, G D7 = some (.lst (numsV s)) ∧ s.Sublist ((ds.map (·.n)).take i))
            ⟨But.of (Same.updf hD7), ⟨_, P2.same (Same.updf hD7), Nat.le_refl _⟩, [], upd_same, List.nil_sublist _⟩ (fun i G _ hh => SqL.of (hh.1 _ _ na2 ha2)) ?_ ?_
          · rintro i y G4 G5 hi ⟨b4, ⟨M', P4, lM'⟩, s, hs, ss⟩ ⟨rfl, hv⟩
            have li : i < ds.length := by omega
            have hdi : ds[i]? = some ds[i] := List.getElem?_eq_getElem li
            have tk : (ds.map (·.n)).take (i + 1) = (ds.map (·.n)).take i ++ [ds[i].n] := by
              rw [List.take_succ, List.getElem?_map, hdi]
              rfl
            obtain ⟨d1, d2, d3, d4, d5⟩ := dr M' (by omega) _ P4
            refine ⟨rfl, _, rfl, pu, 2, M', rfl, d1, d2, d3, d4, d5, fun r H7 r0 r1 b7 P7 => ?_⟩
            rw [mx2] at P7
            refine ⟨rfl, _, rfl, ?_⟩
            have lss : s.length ≤ i := by
              have := ss.length_le
              rw [List.length_take] at this
              omega
            by_cases e3 : r = 0
            · subst e3
              obtain ⟨t, rd, tw, rfl, ht, hr1, _⟩ := ((hx2 i y _ hv hdi).same (but_off (b4.trans b7))).same (off_le _ _)
              refine iteT ⟨_, rfl, t, _, 0, _, rfl, rfl, SqT.of ht, rfl, numsV s, b7 _ _ nD7 hs, (by unfold numsV; rw [List.length_map]; omega), ?_⟩
              refine ⟨fun c o n e => ?_, ⟨_, P7.same' (upd_ne nD7.symm), by omega⟩, s ++ [ds[i].n], ?_, ?_⟩
              · rw [upd_ne (ne_of_none e hD7)]
                exact b7 _ _ n (b4 _ _ n e)
              · rw [upd_same, numsV_snoc]
              · rw [tk]
                exact ss.append (List.Sublist.refl _)
            · rw [decide_eq_false (fun z => e3 (V.int.inj z))]
              refine iteF ⟨b4.trans b7, ⟨_, P7, by omega⟩, s, b7 _ _ nD7 hs, ?_⟩
              rw [tk]
              exact ss.trans (List.sublist_append_left _ _)
          · rintro G4 ⟨b4, ⟨M', P4, lM'⟩, s, hs, ss⟩
            have ss2 : s.Sublist (ds.map (·.n)) := ss.trans (List.take_sublist _ _)
            have hys4 := b4 _ _ nD6 hys
            have n76 : D7 ≠ D6 := (ne_of_none hys hD7).symm
            refine ⟨ys, hys4, by omega, fun c o n e => ?_, ⟨_, P4.same' (upd_ne nD6.symm), by omega⟩, ys ++ [.ref D7], upd_same, by rw [List.length_append, ly]; rfl, fun y my => ?_⟩
            · rw [upd_ne (ne_of_none e hD6)]
              exact b4 _ _ n (b2 _ _ n e)
            · rw [off_upd1]
              rcases List.mem_append.mp my with my | my
              · exact (py y my).but b4
              · rw [List.mem_singleton.mp my]
                exact ⟨s, D7, rfl, nD7, by rw [off_at n76]; exact hs, ss2⟩
        · rintro G38 ⟨b38, ⟨M, P38, lM⟩, ys, hys, ly, py⟩
          have hC38 := b38 _ _ nC5 hC54
          refine ⟨C5, D6, _, ys, rfl, rfl, hC38, hys, (by rw [List.length_append, ly]; show lys.length + 2 + 3 ≤ sizeLine; omega), fun F6 hF6 => ⟨F6, rfl, ⟨_, SqL.of upd_same⟩, ?_⟩⟩
          have t5 := Same.updf (o := .lst (lys ++ [V.ref E5, V.ref D5] ++ ys)) hF6
          have hF39 := upd_same (H := G38) (a := F6) (o := .lst (lys ++ [V.ref E5, V.ref D5] ++ ys))
          have b2739 : But pu G27 (upd G38 F6 (.lst (lys ++ [V.ref E5, V.ref D5] ++ ys))) := (But.of t14).trans (b38.trans (But.of t5))
          have b3739 : But pu G37 (upd G38 F6 (.lst (lys ++ [V.ref E5, V.ref D5] ++ ys))) := b38.trans (But.of t5)
          have sb39 : ∀ y ∈ lys ++ [V.ref E5, V.ref D5] ++ ys, SbAt pu ds (upd G38 F6 (.lst (lys ++ [V.ref E5, V.ref D5] ++ ys))) y := fun y my => by
            rcases List.mem_append.mp my with my | my
            · rcases List.mem_append.mp my with my | my
              · exact (((pls8.but (hP.same hS4) b827).sb (hP.same hS4)) y my).but0 b2739
              · rcases List.mem_cons.mp my with rfl | my
                · exact ⟨[], E5, rfl, nE5, b3739 _ _ nE5 hE54, List.nil_sublist _⟩
                · rw [List.mem_singleton.mp my]
                  exact ⟨_, D5, rfl, nD5, b3739 _ _ nD5 hD54, List.Sublist.refl _⟩
            · exact ((py y my).same (off_le _ _)).same t5
          have P39 := P38.same t5
          clear hF6 hys py hC38 hE54 hD54 hC54 t5
          generalize upd G38 F6 (.lst (lys ++ [V.ref E5, V.ref D5] ++ ys)) = G39 at *
          have b839 := b827.trans b2739
          have b1139 := b1127.trans b2739
          have bH39 := bH27.trans b2739
          have hL39 : LogAt (off G39 pu) a ds := hL27.same (but_off b2739)
          have hLa39 : LogAt (off G39 pu) a' ds := hLa27.same (but_off b2739)
          have hlq39 := b2739 _ _ nlq hlq27
          have hln39 := b2739 _ _ nln hln27
          have hb39 := b2739 _ _ nbp hb27
          clear hx hL27 hLa27 hlq27 hln27 hb27 hLH27 ha b2739 b3739 b38 hL37
          refine for_it (walk_list (K := K) (a := F6) (xs := lys ++ [V.ref E5, V.ref D5] ++ ys)) (fun i σ G => Same G39 G ∧ ∃ v11 v12 v13 v14, σ = [some (.ref pu), some (.ref a), some (.ref b), some (.ref a'), some (.ref ln), some (.ref lq), some (.ref wq), some (.ref td), some wv, v9, v10, v11, v12, v13, v14, none, none, none, none])
            ⟨Same.refl _, _, _, _, _, rfl⟩ (fun i σ G _ hh => SqL.of (hh.1 _ _ hF39)) ?_ ?_
          · rintro i x σ G40 G41 hi ⟨s41, v11', v12, v13, v14, rfl⟩ ⟨rfl, hv⟩
            obtain ⟨s, sb, rfl, nsb, hsb, ss⟩ := sb39 x (List.mem_of_getElem? hv)
            have hsb41 := s41 _ _ hsb
            have lsub : s.length ≤ 6 := by
              have := ss.length_le
              rw [List.length_map] at this
              omega
            have sasc : s.Pairwise (· < ·) := (List.pairwise_map.mpr hG.asc).sublist ss
            have smem : ∀ n ∈ s, ∃ d ∈ ds, d.n = n := fun n mn => by
              obtain ⟨d, hd, e⟩ := List.mem_map.mp (ss.subset mn)
              exact ⟨d, hd, e⟩
            refine ⟨_, rfl, sb, numsV s, rfl, .inl (SqL.of hsb41), fun nl hnl => ?_⟩
            have r1 := Same.updf (o := .lst (numsV s)) hnl
            have hnl1 := upd_same (H := G41) (a := nl) (o := .lst (numsV s))
            generalize upd G41 nl (.lst (numsV s)) = G42 at *
            have sA := s41.trans r1
            refine ⟨_, rfl, _, rfl, _, rfl, a, b, sb, ds, m, s, rfl, (hL39.same (off_le _ _)).same sA, hG, sA _ _ hb39, r1 _ _ hsb41, by omega, fun dq dg G43 r2 ndq hdq hdg => ?_⟩
            refine ⟨(by show 2 ≤ sizeLine; omega), fun T hT => ⟨T, [_, _], rfl, .inl (.inl upd_same), rfl, _, [_], rfl, _, [], rfl, rfl, ?_⟩⟩
            have r3 := Same.updf (o := .tup [V.ref nl, V.ref dq]) hT
            have sB := sA.trans (r2.trans r3)
            refine ⟨_, rfl, _, rfl, _, rfl, a', ln, nl, ds, (pgs ds).reverse, m, s, rfl, (hLa39.same (off_le _ _)).same sB, hG, sB _ _ hln39, pR, mk, (r2.trans r3) _ _ hnl1, sasc, by omega, smem, fun wq2 wg G45 r4 nwq2 hwq2 hwg => ?_⟩
            have sC := sB.trans r4
            have hdq45 := (r3.trans r4) _ _ hdq
            have hdg45 : ∀ p ∈ pgs ds, WAt G45 (dg p) (walN ds m s ds p) := fun p hp => (hdg p hp).same (r3.trans r4)
            have hnl45 := (r2.trans (r3.trans r4)) _ _ hnl1
            have hsb45 := (r1.trans (r2.trans (r3.trans r4))) _ _ hsb41
            have nwq39 : G41 wq2 = none := none_back (r1.trans (r2.trans r3)) nwq2
            have r15 := r1.trans (r2.trans (r3.trans r4))
            clear hT hdq hdg r3 r4
            refine ⟨_, rfl, _, rfl, (by show 2 ≤ sizeLine; omega), fun A5 hA5 => ?_⟩
            have r5 := Same.updf (o := .lst [V.ref wq2, V.ref nl]) hA5
            have hA55 := upd_same (H := G45) (a := A5) (o := .lst [V.ref wq2, V.ref nl])
            have kd : (dV (pgs ds) dg).map (·.1) = ((pgs ds).map fun x : Nat => (x : Int)).map Sum.inl := by
              unfold dV
              rw [List.map_map, List.map_map]
              rfl
            refine ⟨_, rfl, dq, _, (pgs ds).map fun x : Nat => (x : Int), rfl, .inl (r5 _ _ hdq45), kd, (by rw [List.length_map]; omega), fun ks' kp hpm hso hkp => ?_⟩
            have ek : ks' = (pgs ds).map fun x : Nat => (x : Int) := le_uniq hpm hso (List.pairwise_map.mpr ((pgs_asc ds).imp fun h => by omega))
            subst ek
            have mm : ((pgs ds).map fun x : Nat => (x : Int)).map V.int = numsV (pgs ds) := by
              rw [List.map_map]
              rfl
            rw [mm]
            have r6 := Same.updf (o := .lst (numsV (pgs ds))) hkp
            have hkp6 := upd_same (H := upd G45 A5 (.lst [V.ref wq2, V.ref nl])) (a := kp) (o := .lst (numsV (pgs ds)))
            have r56 := r5.trans r6
            have hA56 := r6 _ _ hA55
            clear hA5 hA55 hkp r5 r6
            generalize upd (upd G45 A5 (.lst [V.ref wq2, V.ref nl])) kp (.lst (numsV (pgs ds))) = G46 at *
            have lnp : (numsV (pgs ds)).length = (pgs ds).length := List.length_map _
            refine ⟨kp, rfl, ⟨_, SqL.of hkp6⟩, fun D8 hD8 => ?_⟩
            refine lc_rel (walk_list (K := K) (a := kp) (xs := numsV (pgs ds))) (fun _ => true) (fun i y G => ∃ T, y = .ref T ∧ G T = some (.tup [kV (ky ((pgs ds).getD i 0)), dg ((pgs ds).getD i 0)])) (fun i y G G' s1 ⟨T, e, h⟩ => ⟨T, e, s1 _ _ h⟩) (by omega) hD8 (fun G s => SqL.of (s _ _ hkp6)) ?_ ?_
            · rintro i y G47 G48 Qy Qn hi s47 ⟨acc, hacc⟩ ⟨rfl, hv⟩ ky_ kn_
              have li : i < (pgs ds).length := by omega
              unfold numsV at hv
              rw [List.getElem?_map, List.getElem?_eq_getElem li] at hv
              obtain rfl := Option.some.inj hv
              have eg : (pgs ds).getD i 0 = (pgs ds)[i] := by simp [li]
              rw [eg] at ky_
              have dg2 : DGet G48 dq (.int ((pgs ds)[i] : Int)) (some (dg (pgs ds)[i])) := by
                have := DGet.k (k := ky (pgs ds)[i]) ((r56.trans s47) _ _ hdq45)
                rw [dV_val (List.getElem_mem li)] at this
                exact this
              refine ⟨rfl, _, rfl, _, rfl, _, rfl, dq, _, rfl, dg2, (by show 2 ≤ sizeLine; omega), fun T2 hT2 => ky_ _ _ rfl (Same.updf hT2) ⟨T2, rfl, ?_⟩⟩
              rw [off_at (ne_of_none hacc hT2).symm, upd_same]
              rfl
            · rintro G47 zs s47 hzs pz
              rw [lnp, filter_true] at pz
              obtain ⟨hts, rfl, pt⟩ := pairs_addr (K := K) (f := fun i => (ky ((pgs ds).getD i 0), dg ((pgs ds).getD i 0))) (paired_mono (fun i y ⟨T, e, h⟩ => ⟨T, e, off_le _ _ _ _ h⟩) pz)
              rw [range_dV] at pt
              refine ⟨D8, hts, _, rfl, SqL.of hzs, pt, fun dd hdd => ?_⟩
              rw [merge_dV0 (pgs_nd ds)]
              have r7 := Same.updf (o := .dK (dV (pgs ds) dg)) hdd
              refine ⟨_, rfl, (by show 2 ≤ sizeLine; omega), fun A6 hA6 => ?_⟩
              have r8 := Same.updf (o := .lst [V.ref dd, V.ref sb]) hA6
              have r78 := s47.trans (r7.trans r8)
              have r58 := r56.trans r78
              refine ⟨.ref A5, .ref A6, .list [.dict ((pgs ds).map fun p : Nat => (.int (p : Int), oD (walN ds m s ds p))), .list (numsD s)], rfl, ?_, ?_, fun G50 s50 => ⟨true, rfl, iteF ?_⟩⟩
              · refine td_le (TD.lst (n := 2) (r78 _ _ hA56) rfl (by simp) (td_cons (TD.dctV (n := 0) (fv := wg) (g := fun p => oD (walN ds m s ds p)) (r58 _ _ hwq2) (by omega) fun p hp => wat_tr ((hwg p hp).same r58)) (td_cons (td_le (nums_td (r58 _ _ hnl45) (by omega)) 1) td_nil))) 5
              · refine td_le (TD.lst (n := 2) upd_same rfl (by simp) (td_cons (TD.dctV (n := 0) (fv := dg) (g := fun p => oD (walN ds m s ds p)) (r8 _ _ upd_same) (by omega) fun p hp => wat_tr ((hdg45 p hp).same r58)) (td_cons (td_le (nums_td (r58 _ _ hsb45) (by omega)) 1) td_nil))) 5
              have hwq50 := (r58.trans s50) _ _ hwq2
              have sU : Same G41 (upd G50 wq2 (.dK [])) := fun c o e => by
                rw [upd_ne (ne_of_none e nwq39)]
                exact (r58.trans s50) _ _ (r15 _ _ e)
              refine ⟨_, rfl, .inr (.inr (.inl ⟨rfl, .inl ⟨_, hwq50⟩⟩)), wq2, _, rfl, rfl, hwq50, ?_⟩
              exact ⟨s41.trans sU, _, _, _, _, rfl⟩
          · rintro σ G51 ⟨s51, v11', v12, v13, v14, rfl⟩
            have b851 := b839.trans (But.of s51)
            have bH51 := bH39.trans (But.of s51)
            have P51 := P39.same s51
            have b1151 := b1139.trans (But.of s51)
            have ntd : td ≠ pu := fresh_ne (hP.same hS8) ntd8
            have htd51 := b1151 _ _ ntd htd11
            have hlq51 := s51 _ _ hlq39
            have ar1 : atI [V.bl (wr ds m).isEmpty, rv] 1 = some rv := atI_nat (j := 1) rfl
            refine ⟨_, rfl, td, _, 1, rv, rfl, rfl, SqL.of htd51, ar1, (by show 1 ≤ sizeLine; omega), fun B9 hB9 => ⟨_, rfl, Nat.zero_le _, fun E9 hE9 => ?_⟩⟩
            have r1 := Same.updf (o := .lst [rv]) hB9
            have r2 := Same.updf (o := .lst []) hE9
            obtain ⟨k1, k2, k3, k4⟩ := rep_bool (lys.isEmpty != true) rv
            refine ⟨lq, E9, lys, rfl, rfl, SqL.of ((r1.trans r2) _ _ hlq51), SqL.of upd_same, .inr ⟨_, rfl, B9, _, [rv], rfl, rfl, r2 _ _ upd_same, k1, k2, k3, fun W9 hW9 => ⟨W9, rfl, ⟨_, SqL.of upd_same⟩, ?_⟩⟩⟩
            rw [k4]
            have eb : (lys.isEmpty != true) = (wr ds m).isEmpty := by
              rw [lemp]
              cases (wr ds m).isEmpty <;> rfl
            rw [eb]
            have r3 := Same.updf (o := .lst (if (wr ds m).isEmpty = true then [rv] else [])) hW9
            have hW93 := upd_same (H := upd (upd G51 B9 (.lst [rv])) E9 (.lst [])) (a := W9) (o := .lst (if (wr ds m).isEmpty = true then [rv] else []))
            have nW9 : W9 ≠ pu := fresh_ne (P51.same (r1.trans r2)) hW9
            have r13 := r1.trans (r2.trans r3)
            have nWq : ∀ q, rv = .ref q → wr ds m = [] → q ≠ pu ∧ q ≠ W9 ∧ G8 q = none ∧ G11 q = some (.lst (numsV (lackN ds m))) := fun q e hw => by
              rcases hrv11 with ⟨_, q2, e2, h3, h4⟩ | ⟨h1, _⟩
              · rw [e2] at e
                cases e
                have n1 : q ≠ pu := fresh_ne (hP.same hS8) h3
                refine ⟨n1, fun z => ?_, h3, h4⟩
                have := (r1.trans r2) _ _ (b1151 _ _ n1 h4)
                rw [z, hW9] at this
                cases this
              · exact absurd hw h1
            have b8W := b851.trans (But.of r13)
            have b11W := b1151.trans (But.of r13)
            have P9 := P51.same r13
            have lk6 := lack_len ds m
            clear hB9 hE9 hW9 r1 r2 r3 k1 k2 k3 k4 hlq51
            generalize upd (upd (upd G51 B9 (.lst [rv])) E9 (.lst [])) W9 (.lst (if (wr ds m).isEmpty = true then [rv] else [])) = G53 at *
            refine for_it (walk_list (K := K) (a := W9) (xs := if (wr ds m).isEmpty = true then [rv] else [])) (fun i σ G => But pu G8 G ∧ Purse G pu M ∧ G W9 = some (.lst (if (wr ds m).isEmpty = true then [rv] else [])) ∧ (∀ q, rv = .ref q → wr ds m = [] → ∃ acc, G q = some (.lst acc) ∧ acc.length ≤ 6 + i) ∧ ∃ v12', σ = [some (.ref pu), some (.ref a), some (.ref b), some (.ref a'), some (.ref ln), some (.ref lq), some (.ref wq), some (.ref td), some wv, v9, v10, v11', v12', v13, v14, none, none, none, none])
              ⟨b8W, P9, hW93, fun q e hw => ⟨_, b11W _ _ (nWq q e hw).1 (nWq q e hw).2.2.2, by unfold numsV; rw [List.length_map]; omega⟩, _, rfl⟩ (fun i σ G _ hh => SqL.of hh.2.2.1) ?_ ?_
            · rintro i x σ G G' hi ⟨bG, PG, hW, hq, v12', rfl⟩ ⟨rfl, hv⟩
              have hc : (wr ds m).isEmpty = true := by
                cases h : (wr ds m).isEmpty with
                | true => rfl
                | false =>
                  rw [h] at hi
                  cases hi
              have hw : wr ds m = [] := List.isEmpty_iff.mp hc
              have ex : x = rv := by
                rw [if_pos hc] at hv
                exact List.mem_singleton.mp (List.mem_of_getElem? hv)
              subst ex
              obtain ⟨q, rfl⟩ : ∃ q, x = .ref q := by
                rcases hrv11 with ⟨_, q2, e2, _⟩ | ⟨h1, _⟩
                · exact ⟨q2, e2⟩
                · exact absurd hw h1
              obtain ⟨n1, n2, n3, n4⟩ := nWq q rfl hw
              obtain ⟨acc, hacc, lacc⟩ := hq q rfl hw
              have li : i < 1 := by
                rw [if_pos hc] at hi
                exact hi
              refine ⟨_, rfl, .inl ⟨rfl, _, SqL.of hacc⟩, q, acc, .non, rfl, rfl, hacc, by omega, ?_⟩
              refine ⟨fun c o n e => ?_, PG.same' (upd_ne n1.symm), (upd_ne n2.symm).trans hW, fun q' e' _ => ?_, _, rfl⟩
              · rw [upd_ne (fun z => by
                  rw [z, n3] at e
                  cases e)]
                exact bG _ _ n e
              · cases e'
                exact ⟨_, upd_same, by rw [List.length_append]; simp; omega⟩
            · rintro σ G ⟨bG, PG, hW, hq, v12', rfl⟩
              have bHG : But pu H G := (But.of hS8).trans bG
              have hLG : LogAt (off G pu) a ds := hL.same (but_off bHG)
              have hLaG : LogAt (off G pu) a' ds := hL8.same (but_off bG)
              have hbG : MkAt G b (pgs ds) m := bHG _ _ nbp hb
              have hlnG := bG _ _ nln hln8
              have hlqG := bG _ _ nlq hlq8
              have plsG := pls8.but (hP.same hS4) bG
              refine ⟨_, rfl, _, rfl, a, b, ds, pgs ds, m, rfl, hLG.same (off_le _ _), hG, hbG, List.Perm.refl _, mk, fun rv2 G54 s54 hrv2 => ?_⟩
              have fk : Key → PyData := fun k => match k with
                | .inl i => .int (m i.toNat : Int)
                | _ => .none
              refine ⟨_, rfl, _, rfl, _, rfl, ln, b, _, _, (fun k => match k with | .inl i => .int (m i.toNat : Int) | _ => .none), (fun k => match k with | .inl i => .int (m i.toNat : Int) | _ => .none), rfl, rfl, s54 _ _ hlnG, s54 _ _ hbG, by rw [dV_len, dV_len, List.length_reverse], ?_, ?_⟩
              · intro p hp
                obtain ⟨r, mr, rfl⟩ := List.mem_map.mp hp
                exact ⟨_, mV_val (List.mem_reverse.mp mr), .int _, .int _, rfl, rfl⟩
              · have ea : ((mV (pgs ds).reverse m).all fun p => PyData.eqv ((fun k : Key => match k with | .inl i => PyData.int (m i.toNat : Int) | _ => PyData.none) p.1) ((fun k : Key => match k with | .inl i => PyData.int (m i.toNat : Int) | _ => PyData.none) p.1)) = true := by
                  rw [List.all_eq_true]
                  intro p hp
                  obtain ⟨r, mr, rfl⟩ := List.mem_map.mp hp
                  show PyData.eqv (.int _) (.int _) = true
                  simp [PyData.eqv]
                rw [ea]
                refine ⟨(by show 3 ≤ sizeLine; omega), fun A5 hA5 => ?_⟩
                have r5 := Same.updf (o := .lst [rv2, V.ref a', V.bl true]) hA5
                refine ⟨lq, lys, rfl, (s54.trans r5) _ _ hlqG, fun G55 s55 => ⟨_, rfl, (by show 3 ≤ sizeLine; omega), fun A6 hA6 => ?_⟩⟩
                have r6 := Same.updf (o := .lst [lys.headD .non, V.ref a, V.bl true]) hA6
                have r56 := r5.trans (s55.trans r6)
                have rv3 : RV ds m G (upd G55 A6 (.lst [lys.headD .non, V.ref a, V.bl true])) rv2 := by
                  rcases hrv2 with ⟨h1, q, h2, h3, h4⟩ | h
                  · exact .inl ⟨h1, q, h2, h3, r56 _ _ h4⟩
                  · exact .inr h
                refine ⟨.ref A5, .ref A6, .list [rD ds m, logD ds, .bool true], rfl, ?_, ?_, fun G56 s56 => k G56 (bHG.trans (But.of ((s54.trans r56).trans s56))) (((PG.same (s54.trans r56)).same s56).mono (by omega))⟩
                · exact TD.lst ((s55.trans r6) _ _ upd_same) rfl (by simp) (td_cons (td_le (rv_td rv3 (by omega)) 6) (td_cons (TD.of (((hLaG.same (off_le _ _)).same (s54.trans r56)).tr hG)) (td_cons (TD.flat (.bl _)) td_nil)))
                · exact TD.lst upd_same rfl (by simp) (td_cons (td_le ((plsG.same (s54.trans r56)).td (by omega)) 6) (td_cons (TD.of (((hLG.same (off_le _ _)).same (s54.trans r56)).tr hG)) (td_cons (TD.flat (.bl _)) td_nil)))
end
end K21
set_option Elab.async false
set_option linter.all false
set_option maxRecDepth 100000
set_option maxHeartbeats 8000000
namespace K21
open PySem PySem.Spec PyProof.Rows L2 KB LiI
abbrev s_purses := sPurses
abbrev s_is_why_wrong2 := V.s_is_why_wrong
def spLaw (K : PySem.W.Frag) : Sp := fun vs H Q _ => ∃ (a : Addr) (ns : List Int), vs = [.ref a] ∧ SqL K H a (ns.map V.int) ∧ ∀ H', Q (.bl true) H'
theorem nil_lg : Lg [] := ⟨fun d h => (nomatch h), .nil, by decide, by decide⟩
theorem nil_mk (m : Nat → Nat) : Mk [] m := fun p h => (nomatch h)
def LR (G : Hp) (ds : List Dd) (y : V) : Prop := ∃ q, y = .ref q ∧ LogAt G q ds ∧ Lg ds ∧ (∀ d ∈ ds, d.n ≤ 100) ∧ ds ≠ [] ∧ ds.length ≤ 6 ∧ (pgs ds).length ≤ 6
def MR (G : Hp) (ds : List Dd) (y : V) : Prop := ∃ b m, y = .ref b ∧ MkAt G b (pgs ds) m ∧ Mk ds m
theorem LR.same {G G' : Hp} (k : Same G G') {ds : List Dd} {y : V} : LR G ds y → LR G' ds y := fun ⟨q, e, h, r⟩ => ⟨q, e, h.same k, r⟩
theorem MR.but {pu : Addr} {G G' : Hp} {M : Nat} (hP : Purse G pu M) (k : But pu G G') {ds : List Dd} {y : V} : MR G ds y → MR G' ds y := fun ⟨b, m, e, h, r⟩ => ⟨b, m, e, k b _ (fun z => by
  obtain ⟨_, _, _, _, e', _⟩ := hP
  unfold MkAt at h
  rw [z, e'] at h
  cases h) h, r⟩
theorem MR.upd {D : Addr} {acc : List V} {o : HO} {G : Hp} (hD : G D = some (.lst acc)) {ds : List Dd} {y : V} : MR G ds y → MR (upd G D o) ds y := fun ⟨b, m, e, h, r⟩ => ⟨b, m, e, (upd_ne (fun z => by
  unfold MkAt at h
  rw [z, hD] at h
  cases h)).trans h, r⟩
theorem LogAt.offD {G : Hp} {a D : Addr} {ds : List Dd} {acc : List V} (h : LogAt G a ds) (hG : Lg ds) (hD : G D = some (.lst acc)) (na : a ≠ D) (hr : ∀ y ∈ acc, ∃ p, y = V.ref p) : LogAt (off G D) a ds := by
  obtain ⟨xs, ha, lx, hx⟩ := h
  refine ⟨xs, by rw [off_at na]; exact ha, lx, fun i x d h1 h2 => ?_⟩
  obtain ⟨t, rd, tw, e, ht, hrd, htw⟩ := hx i x d h1 h2
  have ok := hG.ok d (List.mem_of_getElem? h2)
  refine ⟨t, rd, tw, e, ?_, ?_, tr_tup (fun a ys e => ?_) ok.w htw⟩
  · rw [off_at (fun z => by
      rw [z, hD] at ht
      cases ht)]
    exact ht
  · rw [off_at (fun z => by
      rw [z, hD] at hrd
      have e1 : acc = numsV d.r := HO.lst.inj (Option.some.inj hrd)
      obtain ⟨p, hp⟩ := hr (.int (d.p : Int)) (by rw [e1]; exact List.mem_map.mpr ⟨d.p, ok.own, rfl⟩)
      cases hp)]
    exact hrd
  · rw [off_at (fun z => by
      rw [z, hD] at e
      cases e)]
    exact e
theorem long_zero (rg : Bool) : Mk (longL rg) fun _ => 0 := fun p _ => List.mem_cons_self
theorem long_wr (rg : Bool) : wr (longL rg) (fun _ => 0) = [] := by cases rg <;> decide +kernel
theorem long_lack (rg : Bool) : lackN (longL rg) (fun _ => 0) = (List.range 24).map (· + 1) := by cases rg <;> decide +kernel
theorem rg24 : rgV 1 25 = numsV ((List.range 24).map (· + 1)) := rfl
theorem nl_log {G : Hp} {q : Addr} (h : G q = some (.lst [])) : LogAt G q [] := ⟨[], h, rfl, fun i x d e => by simp at e⟩
theorem pgs_nil : pgs [] = [] := by decide
section
variable {P : Program} {w : World} {K : PySem.W.Frag} {mg : Str → Option Value} {base : Heap}
abbrev s_law : Stmt := top 62
abbrev N_law : List Str := ["_law_script", "_law_purse_here", "_law_logs", "_law_at", "_law_log_here", "_law_some", "_law_marks_here", "_law_none", "_law_late", "_law_page", "_law_spin"]
theorem sc_law : FnScope N_law ["_law_script"] (defScope s_law) := ⟨rfl, rfl, rfl, by decide +kernel, rfl, by decide +kernel, by decide +kernel⟩
theorem ok_law {f : Addr} {fd : FuncData} (F : FnP K "law" s_law f fd) (Z : FreeS mg)
    {f_purses : Addr} {d_purses : FuncData} (g_purses : mg "_law_purses" = some (.ref f_purses)) (F_purses : FnP K "_law_purses" s_purses f_purses d_purses) (G_purses : FnOk P w K mg base CX0 2 f_purses d_purses ["_law_script", "_law_few"] (spPurses K))
    {f_exact : Addr} {d_exact : FuncData} (g_exact : mg "_law_exact" = some (.ref f_exact)) (F_exact : FnP K "_law_exact" s_exact f_exact d_exact) (GA_exact : ∀ n : Nat, FnOk P w K mg base CX0 (n + 1) f_exact d_exact ["_law_mine", "_law_theirs"] (spExactD n))
    {f_log : Addr} {d_log : FuncData} (g_log : mg "_law_log" = some (.ref f_log)) (F_log : FnP K "_law_log" s_log f_log d_log) (G_log : FnOk P w K mg base CX0 6 f_log d_log ["_law_purse_here", "_law_many", "_law_pages"] spLog)
    {f_why_wrong : Addr} {d_why_wrong : FuncData} (g_why_wrong : mg "why_wrong" = some (.ref f_why_wrong)) (F_why_wrong : FnP K "why_wrong" s_why_wrong f_why_wrong d_why_wrong) (G_why_wrong : FnOk P w K mg base CX0 9 f_why_wrong d_why_wrong ["deeds", "stamps"] spWhyWr)
    {f_is_why_wrong : Addr} {d_is_why_wrong : FuncData} (g_is_why_wrong : mg "is_why_wrong" = some (.ref f_is_why_wrong)) (F_is_why_wrong : FnP K "is_why_wrong" s_is_why_wrong f_is_why_wrong d_is_why_wrong) (G_is_why_wrong : FnOk P w K mg base CX0 9 f_is_why_wrong d_is_why_wrong ["deeds", "stamps", "value"] spIsWhy)
    {f_are_right : Addr} {d_are_right : FuncData} (g_are_right : mg "are_right" = some (.ref f_are_right)) (F_are_right : FnP K "are_right" s_are_right f_are_right d_are_right) (G_are_right : FnOk P w K mg base CX0 9 f_are_right d_are_right ["deeds", "stamps"] spAreR)
    {f_redone : Addr} {d_redone : FuncData} (g_redone : mg "redone" = some (.ref f_redone)) (F_redone : FnP K "redone" s_redone f_redone d_redone) (G_redone : FnOk P w K mg base CX0 10 f_redone d_redone ["deeds", "stamps"] spRedone)
    {f_walked : Addr} {d_walked : FuncData} (g_walked : mg "walked" = some (.ref f_walked)) (F_walked : FnP K "walked" s_walked f_walked d_walked) (G_walked : FnOk P w K mg base CX0 9 f_walked d_walked ["deeds", "stamps", "numbers"] spWalked)
    {f_stamps_behind : Addr} {d_stamps_behind : FuncData} (g_stamps_behind : mg "stamps_behind" = some (.ref f_stamps_behind)) (F_stamps_behind : FnP K "stamps_behind" s_stamps_behind f_stamps_behind d_stamps_behind) (G_stamps_behind : FnOk P w K mg base CX0 7 f_stamps_behind d_stamps_behind ["deeds", "number"] spBehindS)
    {f_sheets : Addr} {d_sheets : FuncData} (g_sheets : mg "_law_sheets" = some (.ref f_sheets)) (F_sheets : FnP K "_law_sheets" s_sheets f_sheets d_sheets) (G_sheets : FnOk P w K mg base CX0 3 f_sheets d_sheets ["_law_purse_here", "_law_many"] spSheets)
    {f_told_marks : Addr} {d_told_marks : FuncData} (g_told_marks : mg "_law_told_marks" = some (.ref f_told_marks)) (F_told_marks : FnP K "_law_told_marks" s_told_marks f_told_marks d_told_marks) (G_told_marks : FnOk P w K mg base CX0 10 f_told_marks d_told_marks ["_law_purse_here", "_law_log_here"] spTold)
    {f_draw : Addr} {d_draw : FuncData} (g_draw : mg "_law_draw" = some (.ref f_draw)) (F_draw : FnP K "_law_draw" s_draw f_draw d_draw) (G_draw : FnOk P w K mg base CX0 2 f_draw d_draw ["_law_purse_here", "_law_many"] spDraw)
    {f_drawn_marks : Addr} {d_drawn_marks : FuncData} (g_drawn_marks : mg "_law_drawn_marks" = some (.ref f_drawn_marks)) (F_drawn_marks : FnP K "_law_drawn_marks" s_drawn_marks f_drawn_marks d_drawn_marks) (G_drawn_marks : FnOk P w K mg base CX0 4 f_drawn_marks d_drawn_marks ["_law_purse_here", "_law_log_here"] spDrawnM)
    {f_marks : Addr} {d_marks : FuncData} (g_marks : mg "_law_marks" = some (.ref f_marks)) (F_marks : FnP K "_law_marks" s_marks f_marks d_marks) (G_marks : FnOk P w K mg base CX0 3 f_marks d_marks ["_law_log_here"] spMarks)
    {f_marks_at : Addr} {d_marks_at : FuncData} (g_marks_at : mg "_law_marks_at" = some (.ref f_marks_at)) (F_marks_at : FnP K "_law_marks_at" s_marks_at f_marks_at d_marks_at) (G_marks_at : FnOk P w K mg base CX0 2 f_marks_at d_marks_at ["_law_log_here", "_law_number"] spMarksAt)
    {f_again_right : Addr} {d_again_right : FuncData} (g_again_right : mg "_law_again_right" = some (.ref f_again_right)) (F_again_right : FnP K "_law_again_right" s_again_right f_again_right d_again_right) (G_again_right : FnOk P w K mg base CX0 11 f_again_right d_again_right ["_law_purse_here", "_law_log_here", "_law_marks_here"] spAgain)
    {f_long_log : Addr} {d_long_log : FuncData} (g_long_log : mg "_law_long_log" = some (.ref f_long_log)) (F_long_log : FnP K "_law_long_log" s_long_log f_long_log d_long_log) (G_long_log : FnOk P w K mg base CX0 1 f_long_log d_long_log ["_law_is_ringed"] spLong) :
    FnOk P w K mg base CX0 12 f fd ["_law_script"] (spLaw K) := by
  have b_purses : Binds K d_purses ["_law_script", "_law_few"] [] := F_purses.bindsN fun _ _ _ _ _ _ us hl => match us, hl with | [_, _], _ => rfl
  have b_exact : Binds K d_exact ["_law_mine", "_law_theirs"] [] := F_exact.bindsN fun _ _ _ _ _ _ us hl => match us, hl with | [_, _], _ => rfl
  have b_log : Binds K d_log ["_law_purse_here", "_law_many", "_law_pages"] [] := F_log.bindsN fun _ _ _ _ _ _ us hl => match us, hl with | [_, _, _], _ => rfl
  have b_why_wrong : Binds K d_why_wrong ["deeds", "stamps"] [] := F_why_wrong.bindsN fun _ _ _ _ _ _ us hl => match us, hl with | [_, _], _ => rfl
  have b_is_why_wrong : Binds K d_is_why_wrong ["deeds", "stamps", "value"] [] := F_is_why_wrong.bindsN fun _ _ _ _ _ _ us hl => match us, hl with | [_, _, _], _ => rfl
  have b_are_right : Binds K d_are_right ["deeds", "stamps"] [] := F_are_right.bindsN fun _ _ _ _ _ _ us hl => match us, hl with | [_, _], _ => rfl
  have b_redone : Binds K d_redone ["deeds", "stamps"] [] := F_redone.bindsN fun _ _ _ _ _ _ us hl => match us, hl with | [_, _], _ => rfl
  have b_walked : Binds K d_walked ["deeds", "stamps", "numbers"] [] := F_walked.bindsN fun _ _ _ _ _ _ us hl => match us, hl with | [_, _, _], _ => rfl
  have b_stamps_behind : Binds K d_stamps_behind ["deeds", "number"] [] := F_stamps_behind.bindsN fun _ _ _ _ _ _ us hl => match us, hl with | [_, _], _ => rfl
  have b_sheets : Binds K d_sheets ["_law_purse_here", "_law_many"] [] := F_sheets.bindsN fun _ _ _ _ _ _ us hl => match us, hl with | [_, _], _ => rfl
  have b_told_marks : Binds K d_told_marks ["_law_purse_here", "_law_log_here"] [] := F_told_marks.bindsN fun _ _ _ _ _ _ us hl => match us, hl with | [_, _], _ => rfl
  have b_draw : Binds K d_draw ["_law_purse_here", "_law_many"] [] := F_draw.bindsN fun _ _ _ _ _ _ us hl => match us, hl with | [_, _], _ => rfl
  have b_drawn_marks : Binds K d_drawn_marks ["_law_purse_here", "_law_log_here"] [] := F_drawn_marks.bindsN fun _ _ _ _ _ _ us hl => match us, hl with | [_, _], _ => rfl
  have b_marks : Binds K d_marks ["_law_log_here"] [] := F_marks.bindsN fun _ _ _ _ _ _ us hl => match us, hl with | [_], _ => rfl
  have b_marks_at : Binds K d_marks_at ["_law_log_here", "_law_number"] [] := F_marks_at.bindsN fun _ _ _ _ _ _ us hl => match us, hl with | [_, _], _ => rfl
  have b_again_right : Binds K d_again_right ["_law_purse_here", "_law_log_here", "_law_marks_here"] [] := F_again_right.bindsN fun _ _ _ _ _ _ us hl => match us, hl with | [_, _, _], _ => rfl
  have b_long_log : Binds K d_long_log ["_law_is_ringed"] [] := F_long_log.bindsN fun _ _ _ _ _ _ us hl => match us, hl with | [_], _ => rfl
  refine F.ok sc_law (fun vs H Q E h => ?_) (fun cdv A outer s H vs Q E hr h => ?_)
  · obtain ⟨a, ns, rfl, _⟩ := h
    rfl
  · obtain ⟨a, ns, rfl, hS, k⟩ := h
    have sl : (100000 : Nat) ≤ sizeLine := by decide
    have nd := sc_law.nd
    refine ⟨_, PSs.nox (pss_cons (ps_for PassesOwn.never rfl (pi_list (pe_call G_purses (hr.mono (by decide)) rfl g_purses F_purses.kp b_purses .nil pass0 (pa_cons (pv 0) (pa_cons (pe_int) (pa_nil))))) (pg_name (i := 1) nd rfl (Or.inr rfl))
        (pss_cons (ps_setLc (i := 2) (own := [("_law_late", 8)]) (g := gName 8) (tt := tYes) (te := tCall spLog [] E0 (tCons (tVar 1) (tCons (tOp (rI0 fun i j => .int (i + j)) (tC (.int 1)) (tCall spDraw [] E0 (tCons (tVar 1) (tCons (tC (.int 6)) (tNil))))) (tCons (tCall spSheets [] E0 (tCons (tVar 1) (tCons (tOp (rI0 fun i j => .int (i + j)) (tC (.int 1)) (tCall spDraw [] E0 (tCons (tVar 1) (tCons (tC (.int 4)) (tNil))))) (tNil)))) (tNil))))) (by rfl) nd rfl rfl rfl (pi_range1 (by rfl) Z.range (pa_cons (pe_int) (pa_nil)))
          (blkOk_by (own := [("_law_late", 8)]) (N := N_law) (sc := defScope s_law) (by decide +kernel)) (fun _ _ _ _ _ => pg_name (i := 8) nd rfl (Or.inl rfl)) (fun _ _ _ _ _ => pts_nil)
          (fun _ _ _ _ _ => pe_call G_log (hr.mono (by decide)) rfl g_log F_log.kp b_log .nil pass0 (pa_cons (pv 1) (pa_cons (pe_op op_add (pe_int) (pe_call G_draw (hr.mono (by decide)) rfl g_draw F_draw.kp b_draw .nil pass0 (pa_cons (pv 1) (pa_cons (pe_int) (pa_nil))))) (pa_cons (pe_call G_sheets (hr.mono (by decide)) rfl g_sheets F_sheets.kp b_sheets .nil pass0 (pa_cons (pv 1) (pa_cons (pe_op op_add (pe_int) (pe_call G_draw (hr.mono (by decide)) rfl g_draw F_draw.kp b_draw .nil pass0 (pa_cons (pv 1) (pa_cons (pe_int) (pa_nil))))) (pa_nil)))) (pa_nil))))))
      (pss_one (ps_for PassesOwn.never rfl (pi_tup (pe_tup (pa_cons pe_int (pa_cons pe_int (pa_cons pe_int pa_nil))))) (pg_name (i := 3) nd rfl (Or.inl rfl))
        (pss_cons (ps_set (i := 4) nd rfl (Or.inr rfl) (pe_ix ix_list (pv 2) (pv 3) (fun _ _ => rfl)))
      (pss_cons (ps_set (i := 5) nd rfl (Or.inl rfl) (pe_op op_cat (pe_lc (own := [("_law_spin", 10)]) (g := gName 10) (tt := tYes) (te := tCall spDrawnM [] E0 (tCons (tVar 1) (tCons (tVar 4) (tNil)))) (by rfl) nd (pi_range1 (by rfl) Z.range (pa_cons (pe_int) (pa_nil)))
          (blkOk_by (own := [("_law_spin", 10)]) (N := N_law) (sc := defScope s_law) (by decide +kernel)) (fun _ _ _ _ _ => pg_name (i := 10) nd rfl (Or.inl rfl)) (fun _ _ _ _ _ => pts_nil)
          (fun _ _ _ _ _ => pe_call G_drawn_marks (hr.mono (by decide)) rfl g_drawn_marks F_drawn_marks.kp b_drawn_marks .nil pass0 (pa_cons (pv 1) (pa_cons (pv 4) (pa_nil))))) (pe_lst (pa_cons (pe_call G_marks (hr.mono (by decide)) rfl g_marks F_marks.kp b_marks .nil pass0 (pa_cons (pv 4) (pa_nil))) (pa_cons (pe_call G_marks_at (hr.mono (by decide)) rfl g_marks_at F_marks_at.kp b_marks_at .nil pass0 (pa_cons (pv 4) (pa_cons (pe_int) (pa_nil)))) (pa_nil))))))
      (pss_cons (ps_for PassesOwn.never rfl (pi_list (pv 5)) (pg_name (i := 6) nd rfl (Or.inl rfl))
        (pss_one (ps_if (pt_not (pt_val (pe_call G_again_right (hr.mono (by decide)) rfl g_again_right F_again_right.kp b_again_right .nil pass0 (pa_cons (pv 1) (pa_cons (pv 4) (pa_cons (pv 6) (pa_nil))))))) (pss_one (ps_ret (pe_bl))) (pss_nil))))
      (pss_one (ps_if (pt_not (pt_val (pe_call G_told_marks (hr.mono (by decide)) rfl g_told_marks F_told_marks.kp b_told_marks .nil pass0 (pa_cons (pv 1) (pa_cons (pv 4) (pa_nil)))))) (pss_one (ps_ret (pe_bl))) (pss_nil))))))))))
      (pss_cons (ps_set (i := 7) nd rfl (Or.inl rfl) (pe_callTy (call_dictPR rfl) (by rfl) Z.tdict (by decide +kernel) (pa_cons (pe_lc (own := [("_law_page", 9)]) (g := gName 9) (tt := tYes) (te := tTup (tCons (tVar 9) (tCons (tC (.int 0)) (tNil)))) (by rfl) nd (pi_range1 (by rfl) Z.range (pa_cons (pe_int) (pa_nil)))
          (blkOk_by (own := [("_law_page", 9)]) (N := N_law) (sc := defScope s_law) (by decide +kernel)) (fun _ _ _ _ _ => pg_name (i := 9) nd rfl (Or.inl rfl)) (fun _ _ _ _ _ => pts_nil)
          (fun _ _ _ _ _ => pe_tup (pa_cons (pv 9) (pa_cons (pe_int) (pa_nil))))) (pa_nil))))
      (pss_cons (ps_if (pt_not (pt_val (pe_call (GA_exact 8) (hr.mono (by decide)) rfl g_exact F_exact.kp b_exact .nil pass0 (pa_cons (pe_lst (pa_cons (pe_call G_redone (hr.mono (by decide)) rfl g_redone F_redone.kp b_redone .nil pass0 (pa_cons (pe_call G_long_log (hr.mono (by decide)) rfl g_long_log F_long_log.kp b_long_log .nil pass0 (pa_cons (pe_bl) (pa_nil))) (pa_cons (pv 7) (pa_nil)))) (pa_cons (pe_call G_redone (hr.mono (by decide)) rfl g_redone F_redone.kp b_redone .nil pass0 (pa_cons (pe_call G_long_log (hr.mono (by decide)) rfl g_long_log F_long_log.kp b_long_log .nil pass0 (pa_cons (pe_bl) (pa_nil))) (pa_cons (pv 7) (pa_nil)))) (pa_nil)))) (pa_cons (pe_op op_rep (pe_lst (pa_cons (pe_listRg rfl (by rfl) Z.tlist (prg_2 (by rfl) Z.range (pe_int) (pe_int))) (pa_nil))) (pe_int)) (pa_nil)))))) (pss_one (ps_ret (pe_bl))) (pss_nil))
      (pss_cons (ps_if (PW.pt (pw_or (pt_cmpR op_notN (pe_call G_why_wrong (hr.mono (by decide)) rfl g_why_wrong F_why_wrong.kp b_why_wrong .nil pass0 (pa_cons (pe_lst (pa_nil)) (pa_cons (pe_dnewK) (pa_nil)))) (pe_non) (nomark _)) (pw_or1 (pt_cmpR op_notBl (pe_call G_is_why_wrong (hr.mono (by decide)) rfl g_is_why_wrong F_is_why_wrong.kp b_is_why_wrong .nil pass0 (pa_cons (pe_lst (pa_nil)) (pa_cons (pe_dnewK) (pa_cons (pe_tup (pa_cons (pe_int) (pa_cons (pe_int) (pa_nil)))) (pa_nil))))) (pe_bl) (nomark _))))) (pss_one (ps_ret (pe_bl))) (pss_nil))
      (pss_one (ps_ret (pe_call (GA_exact 8) (hr.mono (by decide)) rfl g_exact F_exact.kp b_exact .nil pass0 (pa_cons (pe_lst (pa_cons (pe_call G_are_right (hr.mono (by decide)) rfl g_are_right F_are_right.kp b_are_right .nil pass0 (pa_cons (pe_lst (pa_nil)) (pa_cons (pe_dnewK) (pa_nil)))) (pa_cons (pe_call G_redone (hr.mono (by decide)) rfl g_redone F_redone.kp b_redone .nil pass0 (pa_cons (pe_lst (pa_nil)) (pa_cons (pe_dnewK) (pa_nil)))) (pa_cons (pe_call G_walked (hr.mono (by decide)) rfl g_walked F_walked.kp b_walked .nil pass0 (pa_cons (pe_lst (pa_nil)) (pa_cons (pe_dnewK) (pa_cons (pe_lst (pa_nil)) (pa_nil))))) (pa_cons (pe_call G_stamps_behind (hr.mono (by decide)) rfl g_stamps_behind F_stamps_behind.kp b_stamps_behind .nil pass0 (pa_cons (pe_lst (pa_nil)) (pa_cons (pe_int) (pa_nil)))) (pa_nil)))))) (pa_cons (pe_lst (pa_cons (pe_bl) (pa_cons (pe_lst (pa_nil)) (pa_cons (pe_dnewK) (pa_cons (pe_dnewK) (pa_nil)))))) (pa_nil)))))))))), ?_⟩
    have mx : ∀ m : Int, 1 ≤ m → m < 100 → mixes m = 1 := fun m h1 h2 => mixes_one h1 (by omega)
    have dr : ∀ m : Int, 1 ≤ m → m < 100 → ∀ M, M ≤ 2 ^ 35 → ∀ H' pu, Purse H' pu M → 1 ≤ m ∧ m.natAbs.log2 < 9000 ∧ Purse H' pu M ∧ M + mixes m ≤ 2 ^ 50 ∧ mixes m ≤ 2 ^ 50 := fun m h1 h2 M hM H' pu hP' => by
      have e := mx m h1 h2
      exact ⟨h1, log_small h1 (by omega), hP', by omega, by omega⟩
    refine ⟨_, rfl, a, ns, rfl, hS, fun q0 pu H1 s1 npu nq0 nqp hq0 P1 => ⟨q0, rfl, ⟨_, SqL.of hq0⟩, ?_⟩⟩
    refine for_it (n := 1) (walk_list (K := K) (a := q0) (xs := [V.ref pu])) (fun i σ G => G q0 = some (.lst [V.ref pu]) ∧ (i = 0 → G = H1) ∧ ∃ v1 v2 v3 v4 v5 v6, σ = [some (.ref a), v1, v2, v3, v4, v5, v6, none, none, none, none])
      ⟨hq0, fun _ => rfl, _, _, _, _, _, _, rfl⟩ (fun i σ G _ hh => SqL.of hh.1) ?_ ?_
    · rintro i x σ G G' hi ⟨hq, eG, v1, v2, v3, v4, v5, v6, rfl⟩ ⟨rfl, hv⟩
      obtain rfl : i = 0 := by omega
      obtain rfl := eG rfl
      cases hv
      refine ⟨2, rfl, by decide, by decide, fun D hD => ?_⟩
      have nD : D ≠ pu := fresh_ne P1 hD
      refine lc_it (n := 2) (walk_range (lo := 0) (n := 2)) (fun j G => But pu G' G ∧ (∃ M, Purse G pu M ∧ M ≤ 1100 * j) ∧ ∃ ys dss, G D = some (.lst ys) ∧ Paired (LR (off (off G pu) D)) dss ys ∧ ys.length = j)
        ⟨But.of (Same.updf hD), ⟨_, P1.same (Same.updf hD), Nat.le_refl _⟩, [], [], upd_same, .nil, rfl⟩ (fun _ _ _ _ => trivial) ?_ ?_
      · rintro j x G2 G3 hj ⟨b2, ⟨M, P2, lM⟩, ys, dss, hys, py, ly⟩ ⟨rfl, rfl⟩
        obtain ⟨d1, d2, d3, d4, d5⟩ := dr 6 (by decide) (by decide) M (by omega) _ _ P2
        refine ⟨rfl, _, rfl, _, rfl, pu, 6, M, rfl, d1, d2, d3, d4, d5, fun r1 G4 r10 r11 b4 P4 => ?_⟩
        rw [mx 6 (by decide) (by decide)] at P4
        obtain ⟨r1, rfl⟩ : ∃ q : Nat, r1 = (q : Int) := ⟨r1.toNat, by omega⟩
        obtain ⟨d1, d2, d3, d4, d5⟩ := dr 4 (by decide) (by decide) (M + 1) (by omega) _ _ P4
        refine ⟨_, _, rfl, rfl, _, rfl, _, rfl, pu, 4, M + 1, rfl, d1, d2, d3, d4, d5, fun r2 G5 r20 r21 b5 P5 => ?_⟩
        rw [mx 4 (by decide) (by decide)] at P5
        obtain ⟨r2, rfl⟩ : ∃ q : Nat, r2 = (q : Int) := ⟨r2.toNat, by omega⟩
        refine ⟨_, _, rfl, rfl, pu, 1 + r2, M + 2, rfl, by omega, P5, by omega, fun p ps G6 b6 P6 np hp lp ap p30 => ?_⟩
        have npp : p ≠ pu := fresh_ne P5 np
        refine ⟨pu, p, 1 + r1, M + 12, ps, rfl, by omega, P6, by omega, npp, hp, by omega, by omega, ap, fun q ds G7 b7 P7 nq hL hG lds hps bd => ?_⟩
        have hD6 := b6 _ _ nD (b5 _ _ nD (b4 _ _ nD hys))
        have hD7 := b7 _ _ nD hD6
        have nqD : q ≠ D := (ne_of_none hD6 nq).symm
        have bAll : But pu G3 G7 := (b4.trans b5).trans (b6.trans b7)
        have allr : ∀ y ∈ ys, ∃ p, y = V.ref p := fun y my => by
          obtain ⟨i, li, rfl⟩ := List.getElem_of_mem my
          obtain ⟨ds, _, q, e, _⟩ := paired_get2 py (List.getElem?_eq_getElem li)
          exact ⟨q, e⟩
        have lpg : (pgs ds).length ≤ ps.length := List.Nodup.length_le_of_subset (pgs_nd ds) fun x m => by
          obtain ⟨d, hd, hx⟩ := pgs_mem.mp m
          exact hps d hd x hx
        have nn : ds ≠ [] := fun z => by
          rw [z] at lds
          have z : (0 : Nat) = 1 + r1 := lds
          omega
        refine ⟨ys, hD7, by omega, fun c o n e => ?_, ⟨_, P7.same' (upd_ne nD.symm), by omega⟩, ys ++ [.ref q], dss ++ [ds], upd_same, ?_, by rw [List.length_append, ly]; rfl⟩
        · rw [upd_ne (ne_of_none e hD)]
          exact bAll _ _ n (b2 _ _ n e)
        · rw [off2_upd]
          exact paired_snoc (paired_mono (fun ds y h => h.same (off_same D (but_off bAll))) py) ⟨q, rfl, hL.offD hG (by rw [off_at nD]; exact hD7) nqD allr, hG, bd, nn, by omega, by omega⟩
      · rintro B ⟨b2, ⟨M, PB, lM⟩, ys, dss, hysB, py, ly⟩
        have pyB : Paired (LR (off B pu)) dss ys := paired_mono (fun ds y h => h.same (off_le _ _)) py
        have ldss := paired_len py
        have hq0B : B q0 = some (.lst [V.ref pu]) := b2 _ _ nqp.symm hq
        refine ⟨(by show 3 ≤ sizeLine; omega), fun Tt hTt => ⟨Tt, rfl, ⟨_, SqT.of upd_same⟩, ?_⟩⟩
        have nTt : Tt ≠ pu := fresh_ne PB hTt
        refine for_it (n := 3) (walk_tup (K := K) (a := Tt) (xs := [V.int 0, V.int 1, V.int 0])) (fun i σ G => But pu B G ∧ (∃ M', Purse G pu M' ∧ M' ≤ M + 4000 * i) ∧ G Tt = some (.tup [V.int 0, V.int 1, V.int 0]) ∧ ∃ v3 v4 v5 v6, σ = [some (.ref a), some (.ref pu), some (.ref D), v3, v4, v5, v6, none, none, none, none])
          ⟨But.of (Same.updf hTt), ⟨_, PB.same (Same.updf hTt), Nat.le_refl _⟩, upd_same, _, _, _, _, rfl⟩ (fun i σ G _ hh => SqT.of hh.2.2.1) ?_ ?_
        · rintro i x σ G G5 hi ⟨bG, ⟨M', PG, lM'⟩, hT, v3, v4, v5, v6, rfl⟩ ⟨rfl, hv⟩
          have ex : ∃ k : Nat, x = .int (k : Int) ∧ k < 2 := by
            match i, hv with
            | 0, e =>
              cases e
              exact ⟨0, rfl, by decide⟩
            | 1, e =>
              cases e
              exact ⟨1, rfl, by decide⟩
            | 2, e =>
              cases e
              exact ⟨0, rfl, by decide⟩
          obtain ⟨k0, rfl, lk⟩ := ex
          obtain ⟨ds, hds⟩ : ∃ ds, dss[k0]? = some ds := ⟨_, List.getElem?_eq_getElem (by omega)⟩
          obtain ⟨yl, hyl, ql, rfl, hLB, hG, bd, nn, l6, p6⟩ := paired_get1 pyB hds
          have hDG := bG _ _ nD hysB
          have lists : ∀ {G' : Hp}, But pu B G' → LogAt (off G' pu) ql ds := fun b => hLB.same (but_off b)
          refine ⟨_, rfl, _, rfl, D, ys, (k0 : Int), .ref ql, rfl, rfl, SqL.of hDG, atI_nat (j := k0) hyl, ?_⟩
          refine ⟨4, rfl, by decide, by decide, fun D5 hD5 => ?_⟩
          have nD5 : D5 ≠ pu := fresh_ne PG hD5
          refine lc_it (n := 4) (walk_range (lo := 0) (n := 4)) (fun j G => But pu G5 G ∧ (∃ M', Purse G pu M' ∧ M' ≤ M + 4000 * i + 30 * j) ∧ ∃ ws, G D5 = some (.lst ws) ∧ ws.length = j ∧ ∀ y ∈ ws, MR G ds y)
            ⟨But.of (Same.updf hD5), ⟨_, PG.same (Same.updf hD5), lM'⟩, [], upd_same, rfl, fun y m => nomatch m⟩ (fun _ _ _ _ => trivial) ?_ ?_
          · rintro j x G6 G7 hj ⟨b6, ⟨M2, P6, lM2⟩, ws, hws, lws, mws⟩ ⟨rfl, rfl⟩
            refine ⟨rfl, _, rfl, _, rfl, pu, ql, ds, M2, rfl, P6, by omega, lists (bG.trans b6), hG, fun qm m G8 b8 P8 nqm hm mk => ?_⟩
            have hws8 := b8 _ _ nD5 hws
            refine ⟨ws, hws8, by omega, fun c o n e => ?_, ⟨_, P8.same' (upd_ne nD5.symm), by omega⟩, ws ++ [.ref qm], upd_same, by rw [List.length_append, lws]; rfl, fun y my => ?_⟩
            · rw [upd_ne (ne_of_none e hD5)]
              exact b8 _ _ n (b6 _ _ n e)
            · rcases List.mem_append.mp my with my | my
              · exact ((mws y my).but P6 b8).upd hws8
              · rw [List.mem_singleton.mp my]
                exact (show MR G8 ds (.ref qm) from ⟨qm, m, rfl, hm, mk⟩).upd hws8
          · rintro G6 ⟨b6, ⟨M2, P6, lM2⟩, ws, hws, lws, mws⟩
            have hL6 := (lists (bG.trans b6)).same (off_le G6 pu)
            refine ⟨_, rfl, ql, ds, rfl, hL6, hG, fun w1 G7 s7 nw1 hw1 => ?_⟩
            refine ⟨_, rfl, ql, 0, ds, rfl, hL6.same s7, hG, fun w2 G8 s8 nw2 hw2 => ⟨(by show 2 ≤ sizeLine; omega), fun A1 hA1 => ?_⟩⟩
            have s9 := Same.updf (o := .lst [V.ref w1, V.ref w2]) hA1
            have s69 := (s7.trans s8).trans s9
            refine ⟨D5, A1, ws, _, rfl, rfl, s69 _ _ hws, upd_same, (by rw [lws]; show 4 + 2 ≤ sizeLine; omega), fun Lm hLm => ?_⟩
            have s10 := Same.updf (o := .lst (ws ++ [V.ref w1, V.ref w2])) hLm
            have s610 := s69.trans s10
            have P10 := P6.same s610
            have b10 : But pu B _ := (bG.trans b6).trans (But.of s610)
            have hT10 := s610 _ _ (b6 _ _ nTt hT)
            have mws10 : ∀ y ∈ ws ++ [V.ref w1, V.ref w2], MR (upd (upd G8 A1 (.lst [V.ref w1, V.ref w2])) Lm (.lst (ws ++ [V.ref w1, V.ref w2]))) ds y := fun y my => by
              rcases List.mem_append.mp my with my | my
              · exact (mws y my).but P6 (But.of s610)
              · rcases List.mem_cons.mp my with rfl | my
                · exact ⟨w1, _, rfl, (s8.trans (s9.trans s10)) _ _ hw1, mkAt_mk _ _⟩
                · rw [List.mem_singleton.mp my]
                  exact ⟨w2, _, rfl, (s9.trans s10) _ _ hw2, mkAt_mk _ _⟩
            have hLm10 : upd (upd G8 A1 (.lst [V.ref w1, V.ref w2])) Lm (.lst (ws ++ [V.ref w1, V.ref w2])) Lm = some (.lst (ws ++ [V.ref w1, V.ref w2])) := upd_same
            have nLm : Lm ≠ pu := fresh_ne (P6.same s69) hLm
            have lw6 : (ws ++ [V.ref w1, V.ref w2]).length = 6 := by
              rw [List.length_append, lws]
              rfl
            generalize upd (upd G8 A1 (.lst [V.ref w1, V.ref w2])) Lm (.lst (ws ++ [V.ref w1, V.ref w2])) = G10 at *
            have bd9 : Bd ds := fun d hd => Nat.le_trans (bd d hd) (by decide)
            refine ⟨_, rfl, Lm, rfl, ⟨_, SqL.of hLm10⟩, ?_⟩
            refine for_it (walk_list (K := K) (a := Lm) (xs := ws ++ [V.ref w1, V.ref w2])) (fun j σ G => But pu G10 G ∧ (∃ M', Purse G pu M' ∧ M' ≤ M + 4000 * i + 120 + 40 * j) ∧ ∃ v6, σ = [some (.ref a), some (.ref pu), some (.ref D), some (.int (k0 : Int)), some (.ref ql), some (.ref Lm), v6, none, none, none, none])
              ⟨But.refl _ _, ⟨_, P10, by omega⟩, _, rfl⟩ (fun j σ G _ hh => SqL.of (hh.1 _ _ nLm hLm10)) ?_ ?_
            · rintro j x σ G11 G12 hj ⟨b11, ⟨M3, P11, lM3⟩, v6', rfl⟩ ⟨rfl, hv2⟩
              obtain ⟨bm, m, rfl, hbm, mk⟩ := (mws10 x (List.mem_of_getElem? hv2)).but P10 b11
              exact ⟨_, rfl, _, rfl, _, rfl, pu, ql, bm, ds, m, M3, rfl, P11, by omega, lists (b10.trans b11), hG, bd9, nn, l6, by omega, hbm, mk, fun G13 b13 P13 => ⟨true, rfl, iteF ⟨b11.trans b13, ⟨_, P13, by omega⟩, _, rfl⟩⟩⟩
            · rintro σ G11 ⟨b11, ⟨M3, P11, lM3⟩, v6', rfl⟩
              exact ⟨_, rfl, _, rfl, pu, ql, ds, M3, rfl, P11, by omega, lists (b10.trans b11), hG, bd, nn, by omega, fun G13 b13 P13 => ⟨true, rfl, iteF ⟨(b10.trans b11).trans b13, ⟨_, P13, by omega⟩, b13 _ _ nTt (b11 _ _ nTt hT10), _, _, _, _, rfl⟩⟩⟩
        · rintro σ G ⟨bG, _, _, v3, v4, v5, v6, rfl⟩
          exact ⟨bG _ _ nqp.symm hq0B, fun z => absurd z (by decide), _, _, _, _, _, _, rfl⟩
    · rintro σ G ⟨hq, eG, v1, v2, v3, v4, v5, v6, rfl⟩
      have nd12 : (List.range 12).Nodup := by decide
      refine ⟨12, rfl, by decide, by decide, fun D1 hD1 => ?_⟩
      refine lc_rel (n := 12) (walk_range (lo := 0) (n := 12)) (fun _ => true) (fun i y G => ∃ T, y = .ref T ∧ G T = some (.tup [kV (ky i), .int (0 : Nat)])) (fun i y G G' s1 ⟨T, e, h⟩ => ⟨T, e, s1 _ _ h⟩) (by decide) hD1 (fun _ _ => trivial) ?_ ?_
      · rintro i x G3 G4 Qy Qn hi s3 ⟨acc, hacc⟩ ⟨rfl, rfl⟩ ky_ kn
        refine ⟨rfl, _, rfl, (by show 2 ≤ sizeLine; omega), fun T hT => ky_ _ _ rfl (Same.updf hT) ⟨T, rfl, ?_⟩⟩
        rw [off_at (ne_of_none hacc hT).symm, upd_same]
        have e0 : (0 : Int) + (i : Int) = ((i : Nat) : Int) := Int.zero_add _
        show some (HO.tup [V.int (0 + (i : Int)), _]) = some (HO.tup [V.int (i : Int), _])
        rw [e0]
        rfl
      · rintro G1 zs s1 hzs pz
        rw [filter_true] at pz
        obtain ⟨ts, rfl, pt⟩ := pairs_addr (K := K) (f := fun i => (ky i, V.int (0 : Nat))) (paired_mono (fun i y ⟨T, e, h⟩ => ⟨T, e, off_le _ _ _ _ h⟩) pz)
        refine ⟨D1, ts, mV (List.range 12) fun _ => 0, rfl, SqL.of hzs, pt, fun q1 hq1 => ?_⟩
        rw [merge_dV0 nd12]
        have hq1' : upd G1 q1 (.dK (mV (List.range 12) fun _ => 0)) q1 = some (.dK (mV (List.range 12) fun _ => 0)) := upd_same
        generalize upd G1 q1 (.dK (mV (List.range 12) fun _ => 0)) = G2 at *
        have pm : ∀ rg, (List.range 12).Perm (pgs (longL rg)) := fun rg => by
          rw [long_pgs]
        refine ⟨false, rfl, fun l1 G5 s5 nl1 hl1 => ?_⟩
        refine ⟨_, rfl, l1, q1, longL false, List.range 12, _, rfl, hl1, long_ok false, s5 _ _ hq1', pm false, long_zero false, fun _ e1 F1 f1 ne1 he1 => ?_, fun z => absurd (long_wr false) z⟩
        refine ⟨true, rfl, fun l2 G6 s6 nl2 hl2 => ?_⟩
        refine ⟨_, rfl, l2, q1, longL true, List.range 12, _, rfl, hl2, long_ok true, (s5.trans (f1.trans s6)) _ _ hq1', pm true, long_zero true, fun _ e2 F2 f2 ne2 he2 => ⟨(by show 2 ≤ sizeLine; omega), fun A1 hA1 => ?_⟩, fun z => absurd (long_wr true) z⟩
        rw [long_lack] at he1 he2
        have g1 := Same.updf (o := .lst [V.ref e1, V.ref e2]) hA1
        refine ⟨1, 25, rfl, rfl, ⟨by decide, by decide, by decide, by decide, by decide⟩, fun R hR => ⟨(by show 1 ≤ sizeLine; omega), fun A2 hA2 => ?_⟩⟩
        have g2 := Same.updf (o := .lst (rgV 1 25)) hR
        have g3 := Same.updf (o := .lst [V.ref R]) hA2
        refine ⟨A2, 2, [.ref R], rfl, rfl, upd_same, by decide, by decide, (by show 1 * 2 ≤ sizeLine; omega), fun A3 hA3 => ?_⟩
        have g4 := Same.updf (o := .lst (List.replicate (2 : Int).toNat [V.ref R]).flatten) hA3
        have g14 := g1.trans (g2.trans (g3.trans g4))
        have l24 : ((List.range 24).map (· + 1)).length ≤ 1000 := by decide
        refine ⟨.ref A1, .ref A3, .list [.list (numsD ((List.range 24).map (· + 1))), .list (numsD ((List.range 24).map (· + 1)))], rfl, ?_, ?_, fun G9 g9 => ⟨true, rfl, iteF ?_⟩⟩
        · exact td_le (TD.lst (n := 1) ((g2.trans (g3.trans g4)) _ _ upd_same) rfl (by simp) (td_cons (nums_td ((f2.trans g14) _ _ ((s6.trans (Same.refl _)) _ _ he1)) l24) (td_cons (nums_td (g14 _ _ he2) l24) td_nil))) 6
        · have hRR := (g3.trans g4) _ _ (upd_same (H := upd F2 A1 (.lst [V.ref e1, V.ref e2])) (a := R) (o := .lst (rgV 1 25)))
          rw [rg24] at hRR
          exact td_le (TD.lst (n := 1) (xs := [V.ref R, V.ref R]) upd_same rfl (by simp) (td_cons (nums_td hRR l24) (td_cons (nums_td hRR l24) td_nil))) 6
        · refine ⟨Nat.zero_le _, fun E1 hE1 => fun d1 hd1 => ?_⟩
          have u1 := Same.updf (o := .dK []) hd1
          have pn : ([] : List Nat).Perm (pgs []) := by rw [pgs_nil]
          refine ⟨E1, d1, [], [], fun _ => 0, rfl, nl_log (u1 _ _ upd_same), nil_lg, upd_same, pn, nil_mk _, fun _ F3 f3 => ?_, fun d p ws z => nomatch z⟩
          refine ⟨rfl, _, rfl, iteF ?_⟩
          refine ⟨Nat.zero_le _, fun E2 hE2 => fun d2 hd2 => ⟨(by show 2 ≤ sizeLine; omega), fun T hT => ?_⟩⟩
          have u2 := Same.updf (o := .dK []) hd2
          have u3 := Same.updf (o := .tup [V.int 1, V.int 2]) hT
          refine ⟨E2, d2, .ref T, [], [], fun _ => 0, _, rfl, nl_log ((u2.trans u3) _ _ upd_same), nil_lg, u3 _ _ upd_same, pn, nil_mk _, va_tup upd_same rfl (by simp) (tr_cons tr_i (tr_cons tr_i tr_nil)), fun F4 f4 => ?_⟩
          refine ⟨_, _, rfl, rfl, _, rfl, iteF ?_⟩
          refine ⟨Nat.zero_le _, fun E3 hE3 => fun d3 hd3 => ?_⟩
          have u4 := Same.updf (o := .dK []) hd3
          refine ⟨E3, d3, [], [], fun _ => 0, rfl, nl_log (u4 _ _ upd_same), nil_lg, upd_same, pn, nil_mk _, fun F5 f5 => ?_⟩
          refine ⟨Nat.zero_le _, fun E4 hE4 => fun d4 hd4 => ?_⟩
          have u5 := Same.updf (o := .dK []) hd4
          refine ⟨E4, d4, [], [], fun _ => 0, rfl, nl_log (u5 _ _ upd_same), nil_lg, upd_same, pn, nil_mk _, fun _ rq F6 f6 nrq hrq => ?_, fun z => absurd rfl z⟩
          refine ⟨Nat.zero_le _, fun E5 hE5 => fun d5 hd5 => ⟨Nat.zero_le _, fun E6 hE6 => ?_⟩⟩
          have u6 := Same.updf (o := .lst []) hE5
          have u7 := Same.updf (o := .dK []) hd5
          have u8 := Same.updf (o := .lst []) hE6
          refine ⟨E5, d5, E6, [], [], fun _ => 0, [], rfl, nl_log ((u7.trans u8) _ _ upd_same), nil_lg, u8 _ _ upd_same, pn, nil_mk _, upd_same, .nil, by decide, (fun n h => nomatch h), fun kq kg F7 f7 nkq hkq _ => ?_⟩
          refine ⟨Nat.zero_le _, fun E7 hE7 => ?_⟩
          have u9 := Same.updf (o := .lst []) hE7
          refine ⟨E7, 0, [], rfl, nl_log upd_same, nil_lg, fun sq F8 f8 nsq hsq => ⟨(by show 4 ≤ sizeLine; omega), fun B1 hB1 => ?_⟩⟩
          have u10 := Same.updf (o := .lst [V.bl true, V.ref rq, V.ref kq, V.ref sq]) hB1
          refine ⟨Nat.zero_le _, fun E8 hE8 => fun d8 hd8 => fun d9 hd9 => ⟨(by show 4 ≤ sizeLine; omega), fun B2 hB2 => ?_⟩⟩
          have u11 := Same.updf (o := .lst []) hE8
          have u12 := Same.updf (o := .dK []) hd8
          have u13 := Same.updf (o := .dK []) hd9
          have u14 := Same.updf (o := .lst [V.bl true, V.ref E8, V.ref d8, V.ref d9]) hB2
          have u1114 := u11.trans (u12.trans (u13.trans u14))
          have u1014 := u10.trans u1114
          have hrq2 := (((u6.trans (u7.trans u8)).trans f7).trans (u9.trans (f8.trans u1014))) _ _ hrq
          have hkq2 := (u9.trans (f8.trans u1014)) _ _ hkq
          have hsq2 := u1014 _ _ hsq
          rw [pgs_nil] at hkq2 hsq2
          have emp : ∀ (F : Hp) (q : Addr), F q = some (.dK []) → TD F 2 (.ref q) (.dict []) := fun F q h => TD.dct (n := 0) (ps := []) (m := fun _ => 0) h (by decide)
          refine ⟨.ref B1, .ref B2, .list [.bool true, .list [], .dict [], .dict []], rfl, ?_, ?_, fun F9 f9 => k F9⟩
          · exact td_le (TD.lst (n := 2) (u1114 _ _ upd_same) rfl (by simp) (td_cons (TD.flat (.bl _)) (td_cons (td_le (TD.lst (n := 0) hrq2 rfl (by simp) td_nil) 1) (td_cons (emp _ _ hkq2) (td_cons (emp _ _ hsq2) td_nil))))) 5
          · exact td_le (TD.lst (n := 2) upd_same rfl (by simp) (td_cons (TD.flat (.bl _)) (td_cons (td_le (TD.lst (n := 0) ((u12.trans (u13.trans u14)) _ _ upd_same) rfl (by simp) td_nil) 1) (td_cons (emp _ _ ((u13.trans u14) _ _ upd_same)) (td_cons (emp _ _ (u14 _ _ upd_same)) td_nil))))) 5
end
end K21
set_option Elab.async false
set_option linter.all false
set_option maxRecDepth 100000
set_option maxHeartbeats 16000000
/-! The end. -/
namespace K21
open PySem PySem.Spec PyProof.Rows L2 KB
section
variable {P : Program} {w : World} {K : PySem.W.Frag} {h : Heap} {mg : Str → Option Value} {base : Heap}
theorem facM (c : He.SaysD fa fn K) {f : He.Fa} (hf : f ∈ fa) : f.ok K = true := by
  have c1 := (He.ba (show ((fa.all fun f => f.ok K) && fn.all fun d => d.ok K) = true from congrArg (fun z : He.AlD => z.1) c)).1
  exact List.all_eq_true.mp c1 f hf
theorem facts {f : Addr} (X : K.In h) (G : h.Ns mainGlobals mg) (hfa : mg ("law" : Str) = some (.ref f)) (c : He.SaysD fa fn K) (ex : exB K = true) :
    ∃ fd : FuncData, (∀ (s : Shared) (v : Value), BindsTo s fd ⟨[v], []⟩ [("_law_script", v)]) ∧ ∀ base : Heap, K.In base → base.Ns mainGlobals mg → FnOk P w K mg base CX0 12 f fd ["_law_script"] (spLaw K) := by
  obtain ⟨d_is_whole_number, F_is_whole_number⟩ := c.def_ 0 (d := dT 9 "is_whole_number") rfl
  obtain ⟨d_is_count, F_is_count⟩ := c.def_ 1 (d := dT 10 "is_count") rfl
  obtain ⟨d_is_tuple_of, F_is_tuple_of⟩ := c.def_ 2 (d := dT 11 "is_tuple_of") rfl
  obtain ⟨d_ascends, F_ascends⟩ := c.def_ 3 (d := dT 12 "ascends") rfl
  obtain ⟨d_are_ascending_counts, F_are_ascending_counts⟩ := c.def_ 4 (d := dT 13 "are_ascending_counts") rfl
  obtain ⟨d_is_word, F_is_word⟩ := c.def_ 5 (d := dT 14 "is_word") rfl
  obtain ⟨d_need_count, F_need_count⟩ := c.def_ 6 (d := dT 16 "need_count") rfl
  obtain ⟨d_are_words, F_are_words⟩ := c.def_ 7 (d := dT 18 "are_words") rfl
  obtain ⟨d_is_deed, F_is_deed⟩ := c.def_ 8 (d := dT 19 "is_deed") rfl
  obtain ⟨d_are_deeds, F_are_deeds⟩ := c.def_ 9 (d := dT 20 "are_deeds") rfl
  obtain ⟨d_need_deeds, F_need_deeds⟩ := c.def_ 10 (d := dT 21 "need_deeds") rfl
  obtain ⟨d_pages_of, F_pages_of⟩ := c.def_ 11 (d := dT 22 "pages_of") rfl
  obtain ⟨d_stamps_up_to, F_stamps_up_to⟩ := c.def_ 12 (d := dT 23 "stamps_up_to") rfl
  obtain ⟨d_stamps_behind, F_stamps_behind⟩ := c.def_ 13 (d := dT 24 "stamps_behind") rfl
  obtain ⟨d_stamps_read, F_stamps_read⟩ := c.def_ 14 (d := dT 25 "stamps_read") rfl
  obtain ⟨d_numbers_by_pages, F_numbers_by_pages⟩ := c.def_ 15 (d := dT 26 "numbers_by_pages") rfl
  obtain ⟨d_are_stamps, F_are_stamps⟩ := c.def_ 16 (d := dT 27 "are_stamps") rfl
  obtain ⟨d_need_stamps, F_need_stamps⟩ := c.def_ 17 (d := dT 28 "need_stamps") rfl
  obtain ⟨d_walked, F_walked⟩ := c.def_ 18 (d := dT 29 "walked") rfl
  obtain ⟨d_wrong_reads, F_wrong_reads⟩ := c.def_ 19 (d := dT 30 "wrong_reads") rfl
  obtain ⟨d_lacking, F_lacking⟩ := c.def_ 20 (d := dT 31 "lacking") rfl
  obtain ⟨d_are_right, F_are_right⟩ := c.def_ 21 (d := dT 32 "are_right") rfl
  obtain ⟨d_redone, F_redone⟩ := c.def_ 22 (d := dT 33 "redone") rfl
  obtain ⟨d_why_wrong, F_why_wrong⟩ := c.def_ 23 (d := dT 34 "why_wrong") rfl
  obtain ⟨d_is_why_wrong, F_is_why_wrong⟩ := c.def_ 24 (d := dT 35 "is_why_wrong") rfl
  obtain ⟨d_purse, F_purse⟩ := c.def_ 25 (d := dT 37 "_law_purse") rfl
  obtain ⟨d_mixed, F_mixed⟩ := c.def_ 26 (d := dT 38 "_law_mixed") rfl
  obtain ⟨d_draw, F_draw⟩ := c.def_ 27 (d := dT 39 "_law_draw") rfl
  obtain ⟨d_purses, F_purses⟩ := c.def_ 28 (d := dT 40 "_law_purses") rfl
  obtain ⟨d_one_of, F_one_of⟩ := c.def_ 29 (d := dT 41 "_law_one_of") rfl
  obtain ⟨d_same, F_same⟩ := c.def_ 30 (d := dT 42 "_law_same") rfl
  obtain ⟨d_exact, F_exact⟩ := c.def_ 31 (d := dT 43 "_law_exact") rfl
  obtain ⟨d_word, F_word⟩ := c.def_ 32 (d := dT 44 "_law_word") rfl
  obtain ⟨d_words, F_words⟩ := c.def_ 33 (d := dT 45 "_law_words") rfl
  obtain ⟨d_lists, F_lists⟩ := c.def_ 34 (d := dT 46 "_law_lists") rfl
  obtain ⟨d_speech, F_speech⟩ := c.def_ 35 (d := dT 47 "_law_speech") rfl
  obtain ⟨d_log, F_log⟩ := c.def_ 36 (d := dT 48 "_law_log") rfl
  obtain ⟨d_sheets, F_sheets⟩ := c.def_ 37 (d := dT 49 "_law_sheets") rfl
  obtain ⟨d_of_pages, F_of_pages⟩ := c.def_ 38 (d := dT 50 "_law_of_pages") rfl
  obtain ⟨d_marks_at, F_marks_at⟩ := c.def_ 39 (d := dT 51 "_law_marks_at") rfl
  obtain ⟨d_marks, F_marks⟩ := c.def_ 40 (d := dT 52 "_law_marks") rfl
  obtain ⟨d_was, F_was⟩ := c.def_ 41 (d := dT 53 "_law_was") rfl
  obtain ⟨d_done_again, F_done_again⟩ := c.def_ 42 (d := dT 54 "_law_done_again") rfl
  obtain ⟨d_leading, F_leading⟩ := c.def_ 43 (d := dT 55 "_law_leading") rfl
  obtain ⟨d_too_new, F_too_new⟩ := c.def_ 44 (d := dT 56 "_law_too_new") rfl
  obtain ⟨d_drawn_marks, F_drawn_marks⟩ := c.def_ 45 (d := dT 57 "_law_drawn_marks") rfl
  obtain ⟨d_bent_pairs, F_bent_pairs⟩ := c.def_ 46 (d := dT 58 "_law_bent_pairs") rfl
  obtain ⟨d_again_right, F_again_right⟩ := c.def_ 47 (d := dT 59 "_law_again_right") rfl
  obtain ⟨d_told_marks, F_told_marks⟩ := c.def_ 48 (d := dT 60 "_law_told_marks") rfl
  obtain ⟨d_long_log, F_long_log⟩ := c.def_ 49 (d := dT 61 "_law_long_log") rfl
  obtain ⟨d_law, F_law⟩ := c.def_ 50 (d := dT 62 "law") rfl
  have el : ∀ {α : Type} {l : List α} {i : Nat} {a : α}, l[i]? = some a → a ∈ l := fun h => List.mem_of_getElem? h
  have gl : ∀ {x : Str}, He.Fa.glo x ∈ fa0 → mg x = some (.ref (He.ga K x)) := fun {x} hx => He.glo_ok X G (facM c (List.mem_append_left _ hx))
  have fr : ∀ {x : Str}, He.Fa.free x ∈ fa1 → mg x = none := fun {x} hx => He.free_ok X G (facM c (List.mem_append_right _ (List.mem_append_left _ hx)))
  have f2 : ∀ {y : He.Fa}, y ∈ fa2 → y.ok K = true := fun {y} hx => facM c (List.mem_append_right _ (List.mem_append_right _ hx))
  have Z : FreeS mg := ⟨⟨fr (el (i := 0) rfl), fr (el (i := 1) rfl), fr (el (i := 2) rfl), fr (el (i := 3) rfl), fr (el (i := 4) rfl), fr (el (i := 5) rfl), fr (el (i := 6) rfl), fr (el (i := 7) rfl), fr (el (i := 8) rfl), fr (el (i := 9) rfl), fr (el (i := 10) rfl), fr (el (i := 11) rfl), fr (el (i := 12) rfl), fr (el (i := 13) rfl), fr (el (i := 14) rfl), fr (el (i := 15) rfl), fr (el (i := 16) rfl), fr (el (i := 17) rfl)⟩, fr (el (i := 18) rfl), fr (el (i := 19) rfl)⟩
  have g_is_whole_number := gl (x := "is_whole_number") (el (i := 0) rfl)
  have g_is_count := gl (x := "is_count") (el (i := 1) rfl)
  have g_is_tuple_of := gl (x := "is_tuple_of") (el (i := 2) rfl)
  have g_ascends := gl (x := "ascends") (el (i := 3) rfl)
  have g_are_ascending_counts := gl (x := "are_ascending_counts") (el (i := 4) rfl)
  have g_is_word := gl (x := "is_word") (el (i := 5) rfl)
  have g_need_count := gl (x := "need_count") (el (i := 6) rfl)
  have g_are_words := gl (x := "are_words") (el (i := 7) rfl)
  have g_is_deed := gl (x := "is_deed") (el (i := 8) rfl)
  have g_are_deeds := gl (x := "are_deeds") (el (i := 9) rfl)
  have g_need_deeds := gl (x := "need_deeds") (el (i := 10) rfl)
  have g_pages_of := gl (x := "pages_of") (el (i := 11) rfl)
  have g_stamps_up_to := gl (x := "stamps_up_to") (el (i := 12) rfl)
  have g_stamps_behind := gl (x := "stamps_behind") (el (i := 13) rfl)
  have g_stamps_read := gl (x := "stamps_read") (el (i := 14) rfl)
  have g_numbers_by_pages := gl (x := "numbers_by_pages") (el (i := 15) rfl)
  have g_are_stamps := gl (x := "are_stamps") (el (i := 16) rfl)
  have g_need_stamps := gl (x := "need_stamps") (el (i := 17) rfl)
  have g_walked := gl (x := "walked") (el (i := 18) rfl)
  have g_wrong_reads := gl (x := "wrong_reads") (el (i := 19) rfl)
  have g_lacking := gl (x := "lacking") (el (i := 20) rfl)
  have g_are_right := gl (x := "are_right") (el (i := 21) rfl)
  have g_redone := gl (x := "redone") (el (i := 22) rfl)
  have g_why_wrong := gl (x := "why_wrong") (el (i := 23) rfl)
  have g_is_why_wrong := gl (x := "is_why_wrong") (el (i := 24) rfl)
  have g_purse := gl (x := "_law_purse") (el (i := 25) rfl)
  have g_mixed := gl (x := "_law_mixed") (el (i := 26) rfl)
  have g_draw := gl (x := "_law_draw") (el (i := 27) rfl)
  have g_purses := gl (x := "_law_purses") (el (i := 28) rfl)
  have g_one_of := gl (x := "_law_one_of") (el (i := 29) rfl)
  have g_same := gl (x := "_law_same") (el (i := 30) rfl)
  have g_exact := gl (x := "_law_exact") (el (i := 31) rfl)
  have g_word := gl (x := "_law_word") (el (i := 32) rfl)
  have g_words := gl (x := "_law_words") (el (i := 33) rfl)
  have g_lists := gl (x := "_law_lists") (el (i := 34) rfl)
  have g_speech := gl (x := "_law_speech") (el (i := 35) rfl)
  have g_log := gl (x := "_law_log") (el (i := 36) rfl)
  have g_sheets := gl (x := "_law_sheets") (el (i := 37) rfl)
  have g_of_pages := gl (x := "_law_of_pages") (el (i := 38) rfl)
  have g_marks_at := gl (x := "_law_marks_at") (el (i := 39) rfl)
  have g_marks := gl (x := "_law_marks") (el (i := 40) rfl)
  have g_was := gl (x := "_law_was") (el (i := 41) rfl)
  have g_done_again := gl (x := "_law_done_again") (el (i := 42) rfl)
  have g_leading := gl (x := "_law_leading") (el (i := 43) rfl)
  have g_too_new := gl (x := "_law_too_new") (el (i := 44) rfl)
  have g_drawn_marks := gl (x := "_law_drawn_marks") (el (i := 45) rfl)
  have g_bent_pairs := gl (x := "_law_bent_pairs") (el (i := 46) rfl)
  have g_again_right := gl (x := "_law_again_right") (el (i := 47) rfl)
  have g_told_marks := gl (x := "_law_told_marks") (el (i := 48) rfl)
  have g_long_log := gl (x := "_law_long_log") (el (i := 49) rfl)
  have g_law := gl (x := "law") (el (i := 50) rfl)
  have C : Cn mg := ⟨He.str_ok X G (f2 (y := .str "LETTERS" "abcdefghijklmnopqrstuvwxyz") (el (i := 0) rfl)), He.int_ok X G (f2 (y := .int "MOST_LETTERS" 8) (el (i := 1) rfl))⟩
  have e12 := hfa.symm.trans g_law
  cases e12
  have bL := FunD.bindsA (ps := ["_law_script"]) F_law fun _ _ _ _ _ _ us hl => match us, hl with | [_], _ => rfl
  refine ⟨d_law, fun s v => bL s [v] rfl, fun base _ _ => ?_⟩
  have O_is_whole_number := ok_is_whole_number (P := P) (w := w) (base := base) F_is_whole_number Z  
  have O_is_count := ok_is_count (P := P) (w := w) (base := base) F_is_count Z g_is_whole_number F_is_whole_number O_is_whole_number 
  have O_is_tuple_of := ok_is_tuple_of (P := P) (w := w) (base := base) F_is_tuple_of Z  
  have O_ascends := ok_ascends (P := P) (w := w) (base := base) F_ascends Z  
  have O_are_ascending_counts := ok_are_ascending_counts (P := P) (w := w) (base := base) F_are_ascending_counts Z g_ascends F_ascends O_ascends g_is_count F_is_count O_is_count 
  have O_is_word := ok_is_word (P := P) (w := w) (base := base) F_is_word Z  C
  have O_need_count := ok_need_count (P := P) (w := w) (base := base) F_need_count Z g_is_count F_is_count O_is_count 
  have O_are_words := ok_are_words (P := P) (w := w) (base := base) F_are_words Z g_is_count F_is_count O_is_count g_is_word F_is_word O_is_word 
  have O_is_deed := ok_is_deed (P := P) (w := w) (base := base) F_is_deed Z g_is_tuple_of F_is_tuple_of O_is_tuple_of g_are_ascending_counts F_are_ascending_counts O_are_ascending_counts g_are_words F_are_words O_are_words g_is_count F_is_count O_is_count 
  have O_are_deeds := ok_are_deeds (P := P) (w := w) (base := base) F_are_deeds Z g_ascends F_ascends O_ascends g_is_deed F_is_deed O_is_deed 
  have O_need_deeds := ok_need_deeds (P := P) (w := w) (base := base) F_need_deeds Z g_are_deeds F_are_deeds O_are_deeds 
  have O_pages_of := ok_pages_of (P := P) (w := w) (base := base) F_pages_of Z  
  have O_stamps_up_to := ok_stamps_up_to (P := P) (w := w) (base := base) F_stamps_up_to Z g_pages_of F_pages_of O_pages_of 
  have O_stamps_behind := ok_stamps_behind (P := P) (w := w) (base := base) F_stamps_behind Z g_need_deeds F_need_deeds O_need_deeds g_need_count F_need_count O_need_count g_stamps_up_to F_stamps_up_to O_stamps_up_to 
  have O_stamps_read := ok_stamps_read (P := P) (w := w) (base := base) F_stamps_read Z g_need_deeds F_need_deeds O_need_deeds g_need_count F_need_count O_need_count g_stamps_up_to F_stamps_up_to O_stamps_up_to 
  have O_numbers_by_pages := ok_numbers_by_pages (P := P) (w := w) (base := base) F_numbers_by_pages Z g_pages_of F_pages_of O_pages_of 
  have O_are_stamps := ok_are_stamps (P := P) (w := w) (base := base) F_are_stamps Z g_need_deeds F_need_deeds O_need_deeds g_numbers_by_pages F_numbers_by_pages O_numbers_by_pages g_is_count F_is_count O_is_count 
  have O_need_stamps := ok_need_stamps (P := P) (w := w) (base := base) F_need_stamps Z g_are_stamps F_are_stamps O_are_stamps 
  have O_walked := ok_walked (P := P) (w := w) (base := base) F_walked Z g_need_stamps F_need_stamps O_need_stamps g_are_ascending_counts F_are_ascending_counts O_are_ascending_counts g_pages_of F_pages_of O_pages_of 
  have O_wrong_reads := ok_wrong_reads (P := P) (w := w) (base := base) F_wrong_reads Z  
  have O_lacking := ok_lacking (P := P) (w := w) (base := base) F_lacking Z  
  have O_are_right := ok_are_right (P := P) (w := w) (base := base) F_are_right Z g_need_stamps F_need_stamps O_need_stamps g_wrong_reads F_wrong_reads O_wrong_reads 
  have O_redone := ok_redone (P := P) (w := w) (base := base) F_redone Z g_lacking F_lacking O_lacking g_are_right F_are_right O_are_right 
  have O_why_wrong := ok_why_wrong (P := P) (w := w) (base := base) F_why_wrong Z g_need_stamps F_need_stamps O_need_stamps g_wrong_reads F_wrong_reads O_wrong_reads 
  have V_whole := V.ok_is_whole_number (P := P) (w := w) (base := base) F_is_whole_number Z
  have V_count := V.ok_is_count (P := P) (w := w) (base := base) F_is_count Z g_is_whole_number F_is_whole_number V_whole
  have V_tup := V.ok_is_tuple_of (P := P) (w := w) (base := base) F_is_tuple_of Z
  have O_is_why_wrong := V.ok_is_why_wrong (P := P) (w := w) (base := base) F_is_why_wrong Z g_need_stamps F_need_stamps O_need_stamps g_is_tuple_of F_is_tuple_of V_tup g_wrong_reads F_wrong_reads O_wrong_reads g_is_count F_is_count V_count
  have O_purse := ok_purse (P := P) (w := w) (base := base) F_purse Z.toFree
  have O_draw := ok_draw (P := P) (w := w) (base := base) F_draw Z.toFree F_mixed g_mixed
  have O_purse := ok_purse (P := P) (w := w) (base := base) F_purse Z.toFree
  have O_purses := ok_purses (P := P) (w := w) (base := base) F_purses Z.toFree O_purse F_purse g_purse
  have O_one_of := ok_one (P := P) (w := w) (base := base) F_one_of Z.toFree O_draw F_draw g_draw
  have O_same := ok_same (P := P) (w := w) (base := base) F_same Z g_same
  have O_exact := ok_exact (P := P) (w := w) (base := base) F_exact Z g_exact
  have O_word := ok_word (P := P) (w := w) (base := base) F_word Z g_draw F_draw O_draw 
  have O_words := ok_words (P := P) (w := w) (base := base) F_words Z g_word F_word O_word g_draw F_draw O_draw 
  have O_lists := ok_lists (P := P) (w := w) (base := base) F_lists Z  
  have O_speech := ok_speech (P := P) (w := w) (base := base) F_speech Z g_words F_words O_words g_one_of F_one_of O_one_of g_draw F_draw O_draw 
  have O_log := ok_log (P := P) (w := w) (base := base) F_log Z g_one_of F_one_of O_one_of g_draw F_draw O_draw g_speech F_speech O_speech 
  have O_sheets := ok_sheets (P := P) (w := w) (base := base) F_sheets Z g_draw F_draw O_draw 
  have O_of_pages := ok_of_pages (P := P) (w := w) (base := base) F_of_pages Z  
  have O_marks_at := ok_marks_at (P := P) (w := w) (base := base) F_marks_at Z g_of_pages F_of_pages O_of_pages 
  have O_marks := ok_marks (P := P) (w := w) (base := base) F_marks Z g_marks_at F_marks_at O_marks_at 
  have O_was := ok_was (P := P) (w := w) (base := base) F_was Z g_marks_at F_marks_at O_marks_at 
  have O_done_again := ok_done_again (P := P) (w := w) (base := base) F_done_again Z g_was F_was O_was 
  have O_leading := ok_leading (P := P) (w := w) (base := base) F_leading Z g_marks F_marks O_marks g_lists F_lists O_lists g_done_again F_done_again O_done_again 
  have O_too_new := ok_too_new (P := P) (w := w) (base := base) F_too_new Z  
  have O_drawn_marks := ok_drawn_marks (P := P) (w := w) (base := base) F_drawn_marks Z g_of_pages F_of_pages O_of_pages g_one_of F_one_of O_one_of 
  have O_bent_pairs := ok_bent_pairs (P := P) (w := w) (base := base) F_bent_pairs Z g_of_pages F_of_pages O_of_pages g_too_new F_too_new O_too_new g_one_of F_one_of O_one_of 
  have O_again_right := ok_again_right (P := P) (w := w) (base := base) F_again_right Z g_why_wrong F_why_wrong O_why_wrong g_exact F_exact O_exact g_same F_same O_same g_leading F_leading O_leading g_too_new F_too_new O_too_new g_are_right F_are_right O_are_right g_redone F_redone O_redone g_bent_pairs F_bent_pairs O_bent_pairs g_walked F_walked O_walked g_done_again F_done_again O_done_again g_is_why_wrong F_is_why_wrong O_is_why_wrong g_draw F_draw O_draw (FnOk.imp O_redone redR) (FnOk.imp O_why_wrong whyR) (ok_exP F_exact Z g_exact (ok_exI F_exact Z)) (FnOk.imp (fn_or (O_same 2) ((ok_sameD F_same Z).mono (by decide))) sameV_of)
  have O_told_marks := ok_told_marks (P := P) (w := w) (base := base) F_told_marks Z g_draw F_draw O_draw g_same F_same O_same g_stamps_behind F_stamps_behind O_stamps_behind g_exact F_exact O_exact g_marks_at F_marks_at O_marks_at g_stamps_read F_stamps_read O_stamps_read g_was F_was O_was 
  have O_long_log := ok_long_log (P := P) (w := w) (base := base) F_long_log Z  
  exact ok_law F_law Z g_purses F_purses O_purses g_exact F_exact O_exact g_log F_log O_log g_why_wrong F_why_wrong O_why_wrong g_is_why_wrong F_is_why_wrong O_is_why_wrong g_are_right F_are_right O_are_right g_redone F_redone O_redone g_walked F_walked O_walked g_stamps_behind F_stamps_behind O_stamps_behind g_sheets F_sheets O_sheets g_told_marks F_told_marks O_told_marks g_draw F_draw O_draw g_drawn_marks F_drawn_marks O_drawn_marks g_marks F_marks O_marks g_marks_at F_marks_at O_marks_at g_again_right F_again_right O_again_right g_long_log F_long_log O_long_log 
end
end K21
open PySem PySem.W PySem.Calls PyProof.Rows
theorem PySem.Challenge.cw_weavestore_k21_whole_right_stamps_and_th_holds : PySem.Challenge.rw_weavestore_k21_whole_right_stamps_and_th.Holds := by
  w_on; o_law
  refine HandSHeadRun.head_any (r := OpenLaw.row PySem.Challenge.rw_weavestore_k21_whole_right_stamps_and_th) (q := view (OpenLaw.row PySem.Challenge.rw_weavestore_k21_whole_right_stamps_and_th).prog [62]) (H := K21.hk) (ob := K21.ob) (M := 20000) (loose := K21.names) (d := HandSHeadRun.topDef (OpenLaw.row PySem.Challenge.rw_weavestore_k21_whole_right_stamps_and_th).prog 62) (kwd := []) K21.ob_eq
    (by kernel_rfl) (fun s => by kernel_rfl) K21.run (by kernel_rfl) (by kernel_rfl) (by kernel_rfl) (by rfl) (by first | assumption | decide +kernel) (by decide +kernel) ⟨rfl, rfl, rfl, rfl, rfl, by decide +kernel⟩ ?hw ?hc
  case hw => w_witness2
  case hc =>
    refine L2.walk_ofE (l := PySem.Challenge.rw_weavestore_k21_whole_right_stamps_and_th) (n := 63) (k := 12) (x := "_law_script") (CX := L2.CX0) rfl (by decide) (by kernel_rfl) ⟨rfl, by decide, by decide⟩ ?F (fun _ _ _ _ h => h)
    intro w mg fa h Y G hmg0
    obtain ⟨K, KX, c, ex⟩ := Y
    have hmg : mg ("law" : PySem.Str) = some (.ref fa) := by
      have e : (HandSHeadRun.topDef (OpenLaw.row PySem.Challenge.rw_weavestore_k21_whole_right_stamps_and_th).prog 62).name = ("law" : PySem.Str) := by kernel_rfl
      rw [← e]
      exact hmg0
    obtain ⟨fd, hb, hF⟩ := K21.facts (P := (PySem.Challenge.rw_weavestore_k21_whole_right_stamps_and_th).prog) (w := w) KX G hmg c ex
    exact ⟨K, fd, K21.spLaw K, KX, hb, fun H a ns hl _ hS => ⟨a, ns, rfl, hS, fun _ => rfl⟩, hF⟩
