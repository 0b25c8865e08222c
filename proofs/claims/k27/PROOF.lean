import PyProof.Rows.All
import Wide.All
import OpenK.AllK
import Wide.FinOn
import KE.KStateDown
import KE.KIsAll
import HandS.Words
import HandS.Head0
import HandS.Head1
import HandS.Head2
import HandS.HeadHook1
import HandS.HeadHook2
import PySem.Challenge.RW_weavestore_k27_whole_deeds_that_close_a
import HandS.ForMost
import HandS.Wide
import HandS.WideBits
import HandS.Ends
import HandS.HeadEnd
import HandS.Exc
import HandS.Defaults
import HandS.Walk
import HandS.IsInst
import HandS.Style
import HandS.Zip
import HandS.Conv
import HandS.Deep
import HandS.SortKw
import HandS.SetBool
import HandS.Strs
import PyProof.MinMaxWalk
import PyProof.WalkInts
import HandS.Text
import HandS.Dict
import HandS.DictComp
import HandS.Iter
import PyProof.ListStr
import HandS.Codes
import HandS.DictEq
import HandS.More
import HandS.ListItems
import PyProof.NeData
import KE.SortData
import HandS.Star
import HandS.WordsDict
set_option Elab.async false
set_option linter.all false
set_option maxRecDepth 100000
set_option maxHeartbeats 0
/-! What is read of the heap that the module's top leaves, and the run of it. -/
namespace K27
open PySem PySem.Spec PyProof.Rows L2
def top (i : Nat) : Stmt := PySem.Challenge.pw_weavestore_k27_whole_deeds_that_close_a.main.body.getD i (.Pass ⟨0, 0, 0, 0⟩)
def exB (K : PySem.W.Frag) : Bool := true
def dT (i : Nat) (x : Str) : He.DefD := ⟨(x, none), x, x, defArgs (top i), defBody (top i), defScope (top i), [], []⟩
def fn0 : List He.DefD := [dT 9 "is_whole_number", dT 10 "is_count", dT 11 "is_tuple_of", dT 12 "ascends", dT 13 "are_ascending_counts", dT 14 "is_word", dT 16 "are_words", dT 17 "is_deed", dT 18 "are_deeds", dT 19 "need_deeds", dT 20 "pages_of", dT 21 "numbers_by_pages", dT 22 "newest_stamps", dT 23 "are_stamps", dT 24 "need_stamps"]
def fn1 : List He.DefD := [dT 25 "wrong_reads", dT 26 "are_right", dT 28 "need_right_stamps", dT 29 "all_waits", dT 30 "off_pages", dT 31 "waited_for", dT 32 "layers_of", dT 33 "ring_of", dT 34 "next_within", dT 35 "need_no_ring", dT 36 "need_next_deed", dT 37 "need_closable", dT 38 "has_ring_with", dT 39 "closes_ring", dT 40 "led_to"]
def fn2 : List He.DefD := [dT 41 "ahead_of", dT 43 "_law_purse", dT 44 "_law_mixed", dT 45 "_law_draw", dT 46 "_law_purses", dT 47 "_law_one_of", dT 48 "_law_same", dT 49 "_law_exact", dT 50 "_law_word", dT 51 "_law_words", dT 52 "_law_lists", dT 53 "_law_speech", dT 54 "_law_log", dT 55 "_law_sheets", dT 56 "_law_of_pages"]
def fn3 : List He.DefD := [dT 57 "_law_marks_at", dT 58 "_law_marks", dT 59 "_law_too_new", dT 60 "_law_drawn_marks", dT 61 "_law_right_marks", dT 62 "_law_waiting", dT 63 "_law_written", dT 64 "_law_behind", dT 65 "_law_may_go", dT 66 "_law_layered", dT 67 "_law_pairs_waiting", dT 68 "_law_with", dT 69 "_law_is_stuck", dT 70 "_law_next_deed", dT 71 "_law_up"]
def fn4 : List He.DefD := [dT 72 "_law_ahead_due", dT 73 "_law_closing_right", dT 74 "law"]
def fn : List He.DefD := fn0 ++ (fn1 ++ (fn2 ++ (fn3 ++ (fn4))))
def gn0 : List Str := ["is_whole_number", "is_count", "is_tuple_of", "ascends", "are_ascending_counts", "is_word", "are_words", "is_deed", "are_deeds", "need_deeds", "pages_of", "numbers_by_pages", "newest_stamps", "are_stamps", "need_stamps"]
def gn1 : List Str := ["wrong_reads", "are_right", "need_right_stamps", "all_waits", "off_pages", "waited_for", "layers_of", "ring_of", "next_within", "need_no_ring", "need_next_deed", "need_closable", "has_ring_with", "closes_ring", "led_to"]
def gn2 : List Str := ["ahead_of", "_law_purse", "_law_mixed", "_law_draw", "_law_purses", "_law_one_of", "_law_same", "_law_exact", "_law_word", "_law_words", "_law_lists", "_law_speech", "_law_log", "_law_sheets", "_law_of_pages"]
def gn3 : List Str := ["_law_marks_at", "_law_marks", "_law_too_new", "_law_drawn_marks", "_law_right_marks", "_law_waiting", "_law_written", "_law_behind", "_law_may_go", "_law_layered", "_law_pairs_waiting", "_law_with", "_law_is_stuck", "_law_next_deed", "_law_up"]
def gn4 : List Str := ["_law_ahead_due", "_law_closing_right", "law"]
def gn : List Str := gn0 ++ (gn1 ++ (gn2 ++ (gn3 ++ (gn4))))
def fa0 : List He.Fa := gn.map He.Fa.glo
def fa1 : List He.Fa := [.free "sum", .free "int", .free "max", .free "min", .free "len", .free "range", .free "isinstance", .free "all", .free "any", .free "zip", .free "divmod", .free "reversed", .free "enumerate", .free "set", .free "list", .free "tuple", .free "dict", .free "bool", .free "str", .free "sorted"]
def fa2 : List He.Fa := [.str "LETTERS" "abcdefghijklmnopqrstuvwxyz", .int "MOST_LETTERS" 8]
def fa : List He.Fa := fa0 ++ (fa1 ++ fa2)
def names0 : List Str := ["StoreError", "InvalidDeed", "InvalidDeeds", "InvalidStamps", "Refused", "LETTERS", "MOST_LETTERS", "is_whole_number", "is_count", "is_tuple_of", "ascends", "are_ascending_counts", "is_word", "are_words", "is_deed"]
def names1 : List Str := ["are_deeds", "need_deeds", "pages_of", "numbers_by_pages", "newest_stamps", "are_stamps", "need_stamps", "wrong_reads", "are_right", "need_right_stamps", "all_waits", "off_pages", "waited_for", "layers_of", "ring_of"]
def names2 : List Str := ["next_within", "need_no_ring", "need_next_deed", "need_closable", "has_ring_with", "closes_ring", "led_to", "ahead_of", "_law_purse", "_law_mixed", "_law_draw", "_law_purses", "_law_one_of", "_law_same", "_law_exact"]
def names3 : List Str := ["_law_word", "_law_words", "_law_lists", "_law_speech", "_law_log", "_law_sheets", "_law_of_pages", "_law_marks_at", "_law_marks", "_law_too_new", "_law_drawn_marks", "_law_right_marks", "_law_waiting", "_law_written", "_law_behind"]
def names4 : List Str := ["_law_may_go", "_law_layered", "_law_pairs_waiting", "_law_with", "_law_is_stuck", "_law_next_deed", "_law_up", "_law_ahead_due", "_law_closing_right"]
def names : List Str := names0 ++ (names1 ++ (names2 ++ (names3 ++ (names4))))
abbrev R : PySem.W.OpenRow := PySem.W.OpenLaw.row PySem.Challenge.rw_weavestore_k27_whole_deeds_that_close_a
abbrev qv : Program := PySem.W.view R.prog [74]
abbrev AlX : Type := He.AlD × Bool
def obX (K : PySem.W.Frag) : AlX := (He.obsD fa fn K, exB K)
/-- what an object of these names, one step on -/
def tgt (g : Addr → Option Obj) (a : Addr) : List Addr := match g a with
  | some o => (match o.data with
    | .cls cd => [cd.ns]
    | .func fd => He.refV fd.code ++ He.refV fd.defaults
    | .dict es _ => es.toList.flatMap fun e => He.refV e.val
    | _ => [])
  | none => []
def as1 (g : Addr → Option Obj) : List Addr := tgt g mainGlobals
def as2 (g : Addr → Option Obj) : List Addr := (as1 g).flatMap (tgt g)
def as3 (g : Addr → Option Obj) : List Addr := (as2 g).flatMap (tgt g)
def as4 (g : Addr → Option Obj) : List Addr := (as3 g).flatMap (tgt g)
def obG (g : Addr → Option Obj) : AlX := obX (He.frG g (sysModules :: mainGlobals :: (as1 g ++ (as2 g ++ (as3 g ++ as4 g)))))
def hk : PySem.W.Hook where
  α := AlX
  obs := fun s => obG s.heap.get?
  val := fun _ => (He.valD fn, true)
  says := fun _ h => ∃ K : PySem.W.Frag, K.In h ∧ He.SaysD fa fn K ∧ exB K = true
  of := fun _ _ e => ⟨_, He.frG_in, congrArg (fun z : AlX => z.1) e, congrArg (fun z : AlX => z.2) e⟩
  keeps := fun _ _ _ ⟨K, hK, c⟩ k => ⟨K, PySem.W.Frag.In.keeps hK k, c⟩
def ob (s : PySem.W.SharedT) : AlX := obG (HandSHeadRun.getT s)
theorem ob_eq (s : PySem.W.SharedT) : ob s = hk.obs s.abs := by
  have e : HandSHeadRun.getT s = s.abs.heap.get? := funext (HandSHeadRun.getT_eq s)
  show obG (HandSHeadRun.getT s) = obG s.abs.heap.get?
  rw [e]
theorem run (w : World) : HandSHeadRun.RunEq R qv hk ob 20000 names w := by
  intro os
  kernel_rfl
end K27
set_option Elab.async false
set_option linter.all false
set_option maxRecDepth 100000
set_option maxHeartbeats 4000000
/-! What does not speak of a law: purses, what is left as it was, walks. -/
namespace L2
open PySem PySem.Spec PyProof.Rows
theorem Same.updf {H : Hp} {p : Addr} {o : HO} (h : H p = none) : Same H (L2.upd H p o) := fun b o' e => by
  rw [upd_ne (ne_of_none e h)]
  exact e
/-- a comprehension whose turns change nothing that stands: what it gives at each turn, if anything -/
theorem lc_sel {J : It} {n : Nat} {G : Hp → Prop} {Y : Nat → Hp → V → Hp → Prop} (w : Walk J n G Y) {g : TG} {tt : TT} {te : TE} {vs : List Nat} {σ : St} {H1 : Hp} {D : Addr} {Qd : Hp → Prop} (f : Nat → Option V) (hn : n ≤ 100000) (hD : H1 D = none)
    (hG : ∀ H, Same H1 H → G H)
    (hs : ∀ i x H H' (Qy : V → Hp → Prop) (Qn : Hp → Prop), i < n → Same H1 H → Y i H x H' → (∀ y H4, Same H H4 → f i = some y → Qy y H4) → (∀ H4, Same H H4 → f i = none → Qn H4) →
      g x (wipe σ vs) H' fun σ2 H2 => wipe σ2 vs = wipe σ vs ∧ tt σ2 H2 fun b H3 => if b = true then te σ2 H3 Qy else Qn H3)
    (hd : ∀ H, Same H1 H → H D = some (.lst ((List.range n).filterMap f)) → Qd H) :
    ∃ W : Nat → Nat → Hp → Prop, (∃ m, W 0 m (upd H1 D (.lst []))) ∧ ∀ i m H, W i m H →
      (J.stop i H ∧ Qd H) ∨ (J.go i H ∧ ∃ Nx : Hp → Prop, (∀ H', Nx H' → ∃ m', m' < m ∧ W (i + 1) m' H') ∧ ∀ x H', J.yld i H x H' → g x (wipe σ vs) H' fun σ2 H2 => wipe σ2 vs = wipe σ vs ∧ tt σ2 H2 fun b H3 =>
        if b = true then te σ2 H3 fun y H4 => ∃ acc, H4 D = some (.lst acc) ∧ acc.length < sizeLine ∧ Nx (upd H4 D (.lst (acc ++ [y]))) else Nx H3) := by
  refine lc_it w (fun i H => Same H1 H ∧ H D = some (.lst ((List.range i).filterMap f))) ⟨Same.updf hD, upd_same⟩ (fun i H _ h => hG H h.1) (fun i x H H' hi hP hy => ?_) (fun H h => hd H h.1 h.2)
  refine hs i x H H' _ _ hi hP.1 hy (fun y H4 s4 e => ?_) (fun H4 s4 e => ?_)
  · refine ⟨_, s4 _ _ hP.2, ?_, fun b o eb => ?_, ?_⟩
    · have l1 : ((List.range i).filterMap f).length ≤ i := by
        have := List.length_filterMap_le f (List.range i)
        rw [List.length_range] at this
        exact this
      have l2 : (100000 : Nat) < sizeLine := by decide
      omega
    · rw [upd_ne (ne_of_none eb hD)]
      exact s4 _ _ (hP.1 _ _ eb)
    · rw [upd_same, List.range_succ, List.filterMap_append, List.filterMap_cons, e]
      rfl
  · refine ⟨hP.1.trans s4, ?_⟩
    rw [List.range_succ, List.filterMap_append, List.filterMap_cons, e, List.filterMap_nil, List.append_nil]
    exact s4 _ _ hP.2
/-- a pair's two names: the tuple is new -/
theorem pair_st {i j : Nat} {xs ys : Nat → Option V} {t : Nat} {σ : St} {H H' : Hp} {v : V} {Q : St → Hp → Prop} (y : YPair xs ys t H v H') {K : PySem.W.Frag}
    (k : ∀ x z, xs t = some x → ys t = some z → Same H H' → ∃ T, v = .ref T ∧ SqT K H' T [x, z] ∧ Q ((σ.set i (some x)).set j (some z)) H') :
    ∃ x z T, v = .ref T ∧ SqT K H' T [x, z] ∧ Q ((σ.set i (some x)).set j (some z)) H' := by
  obtain ⟨T, x, z, h1, h2, h3, h4, h5⟩ := y
  obtain ⟨T', e1, e2, e3⟩ := k x z h4 h5 (by rw [h3]; exact Same.updf h2)
  exact ⟨x, z, T', e1, e2, e3⟩
end L2
namespace KB
open PySem PySem.Spec PyProof.Rows L2
/-- built-in names that the module leaves free -/
structure Free (mg : Str → Option Value) : Prop where
  sum : mg "sum" = none
  int : mg "int" = none
  max : mg "max" = none
  min : mg "min" = none
  len : mg "len" = none
  range : mg "range" = none
  isi : mg "isinstance" = none
  all : mg "all" = none
  any : mg "any" = none
  zip : mg "zip" = none
  divmod : mg "divmod" = none
  reversed : mg "reversed" = none
  enumerate : mg "enumerate" = none
  tset : mg "set" = none
  tlist : mg "list" = none
  ttuple : mg "tuple" = none
  tdict : mg "dict" = none
  tbool : mg "bool" = none
theorem op_powL {X : Cx} : OpR X (binaryOp .Pow) (rI (fun i n => 0 ≤ n ∧ (Builtin.Int.intBits i : Int) * n ≤ 2 ^ 27) fun i j => .int (i ^ j.toNat)) :=
  opI fun _ _ _ _ _ _ _ hc q => pow_int hc.1 hc.2 q
/-- a purse: what is left of a great number, the seed, how often it was mixed, the place -/
structure Purse (H : Hp) (p : Addr) (N : Nat) : Prop where
  at_ : ∃ A B c i : Int, H p = some (.lst [.int A, .int B, .int c, .int i]) ∧ (0 ≤ B ∧ B < 2147483648) ∧ 0 ≤ A ∧ 0 ≤ c ∧ c ≤ (N : Int)
theorem Purse.mono {H : Hp} {p : Addr} {N M : Nat} (h : Purse H p N) (l : N ≤ M) : Purse H p M := by
  obtain ⟨A, B, c, i, e, hB, h1, h2, h3⟩ := h
  exact ⟨A, B, c, i, e, hB, h1, h2, by omega⟩
theorem Purse.same {H H' : Hp} {p : Addr} {N : Nat} (k : Same H H') (h : Purse H p N) : Purse H' p N := by
  obtain ⟨A, B, c, i, e, r⟩ := h
  exact ⟨A, B, c, i, k _ _ e, r⟩
/-- all but p stands as it did -/
def But (p : Addr) (H H' : Hp) : Prop := ∀ b o, b ≠ p → H b = some o → H' b = some o
theorem But.refl (p : Addr) (H : Hp) : But p H H := fun _ _ _ e => e
theorem But.trans {p : Addr} {H H1 H2 : Hp} (a : But p H H1) (b : But p H1 H2) : But p H H2 := fun x o n e => b x o n (a x o n e)
theorem But.of {p : Addr} {H H' : Hp} (k : Same H H') : But p H H' := fun b o _ e => k b o e
theorem But.upd {p : Addr} {H : Hp} {o : HO} : But p H (L2.upd H p o) := fun b o' n e => by
  rw [upd_ne n]
  exact e
theorem Same.upd {H : Hp} {p : Addr} {o : HO} (h : H p = none) : Same H (L2.upd H p o) := fun b o' e => by
  rw [upd_ne (ne_of_none e h)]
  exact e
theorem cut_map (ns : List Int) (lo hi : Option Int) : cutV (ns.map V.int) lo hi = ((ns.drop (HT.sIx (ns.map V.int).length 0 lo)).take (HT.sIx (ns.map V.int).length (ns.map V.int).length hi - HT.sIx (ns.map V.int).length 0 lo)).map V.int := by
  unfold cutV
  rw [List.map_take, List.map_drop]
def spPurse (K : PySem.W.Frag) : Sp := fun vs H Q _ => ∃ (a : Addr) (ns : List Int) (i : Int), vs = [.ref a, .int i] ∧ SqL K H a (ns.map V.int) ∧
  ∀ p H', Same H H' → H p = none → Purse H' p 0 → Q (.ref p) H'
/-- any rest there is -/
def spMixed : Sp := fun vs H Q _ => ∃ B c i : Int, vs = [.int B, .int c, .int i] ∧ (0 ≤ c ∧ c ≤ 2 ^ 60) ∧ ∀ r : Int, 0 ≤ r → r < 2147483587 → Q (.int r) H
/-- how often a draw of one of m mixes -/
def mixes (m : Int) : Nat := (1 + (Builtin.Int.intBits m : Int) / 28).toNat
def spDraw : Sp := fun vs H Q _ => ∃ (p : Addr) (m : Int) (N : Nat), vs = [.ref p, .int m] ∧ 1 ≤ m ∧ m.natAbs.log2 < 9000 ∧ Purse H p N ∧ N + mixes m ≤ 2 ^ 50 ∧ mixes m ≤ 2 ^ 50 ∧
  ∀ (r : Int) (H' : Hp), 0 ≤ r → r < m → But p H H' → Purse H' p (N + mixes m) → Q (.int r) H'
theorem mixes_one {m : Int} (h0 : 1 ≤ m) (h : m < 2 ^ 27) : mixes m = 1 := by
  have e : Builtin.Int.intBits m ≤ 27 := PyProof.Rows.intBits_le (by omega)
  unfold mixes
  omega
theorem log_small {m : Int} (h0 : 1 ≤ m) (h : m < 2 ^ 27) : m.natAbs.log2 < 9000 := by
  have e : m.natAbs < 2 ^ 27 := by omega
  have := PySem.Flt.log2_lt_of (by decide) e
  omega
theorem But.seq {K : PySem.W.Frag} {p a : Addr} {H H' : Hp} {xs : List V} (k : But p H H') (n : a ≠ p) (h : SqL K H a xs) : SqL K H' a xs := by
  rcases h with (h | ⟨o, h⟩) | h
  · exact .inl (.inl (k _ _ n h))
  · exact .inl (.inr ⟨o, k _ _ n h⟩)
  · exact .inr h
/-- purses(script, 1): the list of one purse -/
def spPurses (K : PySem.W.Frag) : Sp := fun vs H Q _ => ∃ (a : Addr) (ns : List Int), vs = [.ref a, .int 1] ∧ SqL K H a (ns.map V.int) ∧
  ∀ q p H', Same H H' → H p = none → H q = none → p ≠ q → H' q = some (.lst [.ref p]) → Purse H' p 0 → Q (.ref q) H'
def spOne (K : PySem.W.Frag) : Sp := fun vs H Q _ => ∃ (p q : Addr) (xs : List V) (N : Nat), vs = [.ref p, .ref q] ∧ q ≠ p ∧ SqL K H q xs ∧ 1 ≤ xs.length ∧ xs.length ≤ 1000000 ∧ Purse H p N ∧ N ≤ 2 ^ 40 ∧
  ∀ x H', x ∈ xs → But p H H' → Purse H' p (N + 1) → Q x H'

theorem none_back {H H' : Hp} {q : Addr} (k : Same H H') (h : H' q = none) : H q = none := by
  cases e : H q with
  | none => rfl
  | some o =>
    have := k _ _ e
    rw [h] at this
    cases this
theorem mixes_le {m : Int} (h0 : 1 ≤ m) (h : m < 2 ^ 62) : mixes m ≤ 3 := by
  have e : Builtin.Int.intBits m ≤ 62 := PyProof.Rows.intBits_le (by omega)
  unfold mixes
  omega
theorem via_nx {f b c : L2.St → Hp → Prop} {r : VK} {σ : L2.St} {H : Hp} (h : f σ H) : (Ends.mk f r b c).nx σ H := h
theorem via_seq {t u : TS} {D : Ends} {σ : L2.St} {H : Hp} (h : t { D with nx := u D } σ H) : tSeq t u D σ H := h
theorem via_asg {te : TE} {g : TG} {D : Ends} {σ : L2.St} {H : Hp} (h : te σ H fun x H1 => g x σ H1 D.nx) : tAsg te g D σ H := h
theorem fresh_ne {X : Hp} {pu b : Addr} {M : Nat} (h : Purse X pu M) (hb : X b = none) : b ≠ pu := fun e => by
  obtain ⟨A0, B, c, i, e2, _⟩ := h
  rw [e, e2] at hb
  cases hb
theorem But.none {pu b : Addr} {X Y : Hp} (k : But pu X Y) (ne : b ≠ pu) (h : Y b = none) : X b = none := by
  cases e : X b with
  | none => rfl
  | some o =>
    have := k _ _ ne e
    rw [h] at this
    cases this
theorem Purse.same' {H H' : Hp} {p : Addr} {N : Nat} (k : H' p = H p) (h : Purse H p N) : Purse H' p N := by
  obtain ⟨A, B, c, i, e, r⟩ := h
  exact ⟨A, B, c, i, k.trans e, r⟩

/-- a statement that is never come to -/
theorem ps_dead {X : Cx} {st : Stmt} : PS X st (fun _ _ _ => False) := ⟨fun _ _ _ _ _ _ h => h.elim⟩
end KB
set_option Elab.async false
set_option linter.all false
set_option maxRecDepth 100000
set_option maxHeartbeats 4000000
/-! Data on the tracked heap; what is counted; the greatest of a list that may be empty. -/
namespace L2
open PySem PySem.Spec PyProof.Rows
open RZ
theorem walk_zipT {K : PySem.W.Frag} {a b : Addr} {xs ys : List V} {n : Nat} (hn : n = min xs.length ys.length) : Walk (ItzT K a b) n (fun H => SqT K H a xs ∧ SqT K H b ys) (YPair (fun i => xs[i]?) (fun i => ys[i]?)) where
  goes := fun i _ hi q => ⟨xs, ys, xs[i]'(by omega), ys[i]'(by omega), q.1, q.2, List.getElem?_eq_getElem _, List.getElem?_eq_getElem _⟩
  stops := fun _ q => ⟨xs, ys, q.1, q.2, by omega⟩
  yields := fun i H v H' _ q y => by
    obtain ⟨T, x, z, e1, e2, e3, e4, e5⟩ := y
    exact ⟨T, x, z, e1, e2, e3, e4 _ q.1, e5 _ q.2⟩
section
variable {X : Cx}
/-- how often a datum stands in a list of data -/
def rCountD (K : PySem.W.Frag) : V → List V → Hp → VK → Prop := fun x zs H Q => ∃ (a : Addr) (y : V) (d : PyData) (ds : List PyData), x = V.ref a ∧ zs = [y] ∧ Dp K H (V.ref a) (.list ds) ∧ Dp K H y d ∧ SeqAt.shaped (.list ds) = true ∧ SeqAt.shaped d = true ∧
  Q (.int ((ds.countP fun z => PyData.eqv z d : Nat) : Int)) H
theorem mt_countD (hu : X.A.units + 65 < cLine) : MtR X "list.count" (rCountD X.K) := by
  intro pins s σ H x zs v us Q I rx rz h
  obtain ⟨a, y, d, ds, rfl, rfl, hL, hY, sL, sY, q⟩ := h
  obtain ⟨w, rfl, rw'⟩ := rz.one
  cases rx
  obtain ⟨bs, rY⟩ := Dp.reads I d y w hY rw'
  have cL : PyData.canLayAll0 ds = true := SeqAt.canLay_of_shaped sL
  cases hL with
  | lst hs hA =>
    obtain ⟨its, rv, ⟨⟨c0, d0, dat, sl0⟩, k0, hob, hcl, _, hda⟩, _⟩ := I.list hs
    dsimp only at hcl hda
    subst hcl hda
    obtain ⟨as, rA⟩ := Dp.readsAll I ds _ its hA rv
    have em : its.map (SeqAt.readOf s.heap) = ds := SeqAt.readsAll_map ds its as cL rA
    refine call_meets PySem.F.slot_list_count ⟨_, hob, rfl⟩ PySem.F.entry_list_count (PySem.F.args_list_count_2 _ _)
      (SeqAt.list_countAt a its.toArray k0 d0 sl0 w fun u => PyData.eqv (SeqAt.readOf s.heap u) d) ⟨hob, ?_, ?_⟩
    · exact SeqAt.items_eqAt (vs := its.toArray) (show ReadsAll s.heap its.toArray.toList ds as from rA) rY cL (SeqAt.canLay_of_shaped sY) (room_in_shaped sY hu)
    · refine ⟨.int (its.toArray.toList.countP fun u => PyData.eqv (SeqAt.readOf s.heap u) d : Nat), H, I.tok _, ⟨_, rfl⟩, ?_⟩
      have e : ((its.toArray.toList.countP fun u => PyData.eqv (SeqAt.readOf s.heap u) d : Nat) : Int) = ((ds.countP fun z => PyData.eqv z d : Nat) : Int) := by
        rw [← em, List.countP_map]
        rfl
      rw [e]
      exact q
end
end L2
namespace KB
open PySem PySem.Spec PyProof.Rows L2
/-- a value that is no object -/
inductive FlatD : V → PyData → Prop
  | non : FlatD .non .none
  | bl (b : Bool) : FlatD (.bl b) (.bool b)
  | int (i : Int) : FlatD (.int i) (.int i)
  | str (x : Str) : FlatD (.str x) (.str x)
/-- a value that stands for a datum: lists and tuples, each tracked, nested at most so deep -/
def Tr (H : Hp) : Nat → V → PyData → Prop
  | 0, x, d => FlatD x d
  | n + 1, x, d => FlatD x d ∨ ∃ (a : Addr) (xs : List V) (ds : List PyData), x = .ref a ∧ xs.length = ds.length ∧ ds.length ≤ 1000 ∧ ((H a = some (.lst xs) ∧ d = .list ds) ∨ (H a = some (.tup xs) ∧ d = .tuple ds)) ∧
      ∀ (i : Nat) (u : V) (e : PyData), xs[i]? = some u → ds[i]? = some e → Tr H n u e
theorem Tr.same {H H' : Hp} (k : Same H H') : ∀ {n : Nat} {x : V} {d : PyData}, Tr H n x d → Tr H' n x d
  | 0, _, _, h => h
  | n + 1, _, _, h => by
    rcases h with h | ⟨a, xs, ds, e1, e2, e3, e4, e5⟩
    · exact .inl h
    · exact .inr ⟨a, xs, ds, e1, e2, e3, e4.elim (fun z => .inl ⟨k _ _ z.1, z.2⟩) (fun z => .inr ⟨k _ _ z.1, z.2⟩), fun i u e h1 h2 => Tr.same k (e5 i u e h1 h2)⟩
theorem Tr.up {H : Hp} : ∀ {n : Nat} {x : V} {d : PyData}, Tr H n x d → Tr H (n + 1) x d
  | 0, _, _, h => .inl h
  | n + 1, _, _, h => by
    rcases h with h | ⟨a, xs, ds, e1, e2, e3, e4, e5⟩
    · exact .inl h
    · exact .inr ⟨a, xs, ds, e1, e2, e3, e4, fun i u e h1 h2 => Tr.up (e5 i u e h1 h2)⟩
theorem Tr.flat {H : Hp} {n : Nat} {x : V} {d : PyData} (h : FlatD x d) : Tr H n x d := by
  cases n with
  | zero => exact h
  | succ n => exact .inl h
theorem Tr.lst {H : Hp} {n : Nat} {a : Addr} {xs : List V} {ds : List PyData} (h : H a = some (.lst xs)) (l : xs.length = ds.length) (s : ds.length ≤ 1000) (k : ∀ (i : Nat) (u : V) (e : PyData), xs[i]? = some u → ds[i]? = some e → Tr H n u e) : Tr H (n + 1) (.ref a) (.list ds) :=
  .inr ⟨a, xs, ds, rfl, l, s, .inl ⟨h, rfl⟩, k⟩
theorem Tr.tup {H : Hp} {n : Nat} {a : Addr} {xs : List V} {ds : List PyData} (h : H a = some (.tup xs)) (l : xs.length = ds.length) (s : ds.length ≤ 1000) (k : ∀ (i : Nat) (u : V) (e : PyData), xs[i]? = some u → ds[i]? = some e → Tr H n u e) : Tr H (n + 1) (.ref a) (.tuple ds) :=
  .inr ⟨a, xs, ds, rfl, l, s, .inr ⟨h, rfl⟩, k⟩
/-- item by item -/
theorem tr_cons {H : Hp} {n : Nat} {x : V} {xs : List V} {d : PyData} {ds : List PyData} (h : Tr H n x d) (k : ∀ (i : Nat) (u : V) (e : PyData), xs[i]? = some u → ds[i]? = some e → Tr H n u e) : ∀ (i : Nat) (u : V) (e : PyData), (x :: xs)[i]? = some u → (d :: ds)[i]? = some e → Tr H n u e
  | 0, _, _, h1, h2 => by
    obtain rfl := Option.some.inj h1
    obtain rfl := Option.some.inj h2
    exact h
  | i + 1, u, e, h1, h2 => k i u e h1 h2
theorem tr_nil {H : Hp} {n : Nat} : ∀ (i : Nat) (u : V) (e : PyData), ([] : List V)[i]? = some u → ([] : List PyData)[i]? = some e → Tr H n u e := fun i u e h1 h2 => by simp at h1
theorem tr_snoc {H : Hp} {n : Nat} {x : V} {xs : List V} {d : PyData} {ds : List PyData} (l : xs.length = ds.length) (k : ∀ (i : Nat) (u : V) (e : PyData), xs[i]? = some u → ds[i]? = some e → Tr H n u e) (h : Tr H n x d) :
    ∀ (i : Nat) (u : V) (e : PyData), (xs ++ [x])[i]? = some u → (ds ++ [d])[i]? = some e → Tr H n u e := fun i u e h1 h2 => by
  by_cases hi : i < xs.length
  · rw [List.getElem?_append_left hi] at h1
    rw [List.getElem?_append_left (by omega)] at h2
    exact k i u e h1 h2
  · rw [List.getElem?_append_right (by omega)] at h1
    rw [List.getElem?_append_right (by omega)] at h2
    cases hj : i - xs.length with
    | zero =>
      rw [hj] at h1
      rw [show i - ds.length = 0 by omega] at h2
      obtain rfl := Option.some.inj h1
      obtain rfl := Option.some.inj h2
      exact h
    | succ j =>
      rw [hj] at h1
      simp at h1
theorem FlatD.dp {K : PySem.W.Frag} {H : Hp} {x : V} {d : PyData} (h : FlatD x d) : Dp K H x d := by
  cases h
  · exact .non
  · exact .bl _
  · exact .int _
  · exact .str _
theorem dpAll_of {K : PySem.W.Frag} {H : Hp} : ∀ {xs : List V} {ds : List PyData}, xs.length = ds.length → (∀ (i : Nat) (u : V) (e : PyData), xs[i]? = some u → ds[i]? = some e → Dp K H u e) → DpAll K H xs ds
  | [], [], _, _ => .nil
  | [], _ :: _, h, _ => by simp at h
  | _ :: _, [], h, _ => by simp at h
  | x :: xs, d :: ds, h, k => .cons (k 0 x d rfl rfl) (dpAll_of (by simpa using h) fun i u e h1 h2 => k (i + 1) u e h1 h2)
theorem Tr.dp {K : PySem.W.Frag} {H : Hp} : ∀ {n : Nat} {x : V} {d : PyData}, Tr H n x d → Dp K H x d
  | 0, _, _, h => FlatD.dp h
  | n + 1, _, _, h => by
    rcases h with h | ⟨a, xs, ds, rfl, e2, e3, e4, e5⟩
    · exact FlatD.dp h
    · rcases e4 with ⟨h, rfl⟩ | ⟨h, rfl⟩
      · exact .lst (SqL.of h) (dpAll_of e2 fun i u e h1 h2 => (e5 i u e h1 h2).dp)
      · exact .tup (SqT.of h) (dpAll_of e2 fun i u e h1 h2 => (e5 i u e h1 h2).dp)
/-- alike: both stand for one datum -/
def spExact (n : Nat) : Sp := fun vs H Q _ => ∃ (x y : V) (d : PyData), vs = [x, y] ∧ Tr H n x d ∧ Tr H n y d ∧ ∀ H', Same H H' → Q (.bl true) H'
theorem FlatD.ty {K : PySem.W.Frag} {H : Hp} {x : V} {d : PyData} (h : FlatD x d) : ∃ t, TyX K H x (.type t) ∧ kitB t "list" = some false ∧ kitB t "tuple" = some false ∧ kitB t "dict" = some false ∧ ∃ i b, kitB t "int" = some i ∧ kitB t "bool" = some b := by
  cases h with
  | non => exact ⟨"NoneType", .base .non, by decide +kernel, by decide +kernel, by decide +kernel, false, false, by decide +kernel, by decide +kernel⟩
  | bl b => exact ⟨"bool", .base (.bl b), by decide +kernel, by decide +kernel, by decide +kernel, true, true, by decide +kernel, by decide +kernel⟩
  | int i => exact ⟨"int", .base (.int i), by decide +kernel, by decide +kernel, by decide +kernel, true, false, by decide +kernel, by decide +kernel⟩
  | str z => exact ⟨"str", .base (.str z), by decide +kernel, by decide +kernel, by decide +kernel, false, false, by decide +kernel, by decide +kernel⟩
theorem FlatD.scal {x : V} {d : PyData} (h : FlatD x d) : scal x x = true := by
  cases h <;> rfl
theorem FlatD.eq {x y : V} {d : PyData} (h : FlatD x d) (h' : FlatD y d) : x = y := by
  cases h <;> cases h' <;> rfl
theorem FlatD.noL {x : V} {ds : List PyData} (h : FlatD x (.list ds)) : False := nomatch h
theorem FlatD.noT {x : V} {ds : List PyData} (h : FlatD x (.tuple ds)) : False := nomatch h
/-- all of a list that is true at each place -/
theorem all_bits {K : PySem.W.Frag} {n : Nat} {H : Hp} {D : Addr} (hR : H D = some (.lst ((List.range n).filterMap fun _ => some (V.bl true)))) : ∃ bs : List Bool, SqL K H D (bs.map V.bl) ∧ bs.all id = true := by
  refine ⟨List.replicate n true, ?_, ?_⟩
  · have e : ((List.range n).filterMap fun _ => some (V.bl true)) = (List.replicate n true).map V.bl := by
      rw [List.filterMap_eq_map', List.map_const', List.length_range, List.map_replicate]
    rw [e] at hR
    exact SqL.of hR
  · rw [List.all_eq_true]
    intro b hb
    exact (List.eq_of_mem_replicate hb)
end KB
set_option Elab.async false
set_option linter.all false
set_option maxRecDepth 100000
set_option maxHeartbeats 4000000
namespace K27
open PySem PySem.Spec PyProof.Rows L2 KB
abbrev FnP (K : PySem.W.Frag) (x : Str) (st : Stmt) (f : Addr) (fd : FuncData) : Prop := FunD K x x (defArgs st) (defBody st) (defScope st) [] [] f fd
abbrev sPurse : Stmt := top 43
abbrev sMixed : Stmt := top 44
abbrev sDraw : Stmt := top 45
section
variable {P : Program} {w : World} {K : PySem.W.Frag} {mg : Str → Option Value} {base : Heap} {f fM : Addr} {fd fdM : FuncData}
theorem scPurse : FnScope ["_law_script", "_law_at", "_law_seed"] ["_law_script", "_law_at"] (defScope sPurse) := ⟨rfl, rfl, rfl, by decide +kernel, rfl, by decide +kernel, by decide +kernel⟩
theorem ok_purse (F : FnP K "_law_purse" sPurse f fd) (Z : Free mg) : FnOk P w K mg base CX0 1 f fd ["_law_script", "_law_at"] (spPurse K) := by
  refine F.ok scPurse (fun vs H Q E h => ?_) (fun cdv A outer s H vs Q E hr h => ?_)
  · obtain ⟨a, ns, i, rfl, _⟩ := h
    rfl
  · obtain ⟨a, ns, i, rfl, hS, k⟩ := h
    have nd := scPurse.nd
    refine ⟨_, PSs.nox (pss_cons (ps_set (i := 2) nd rfl (Or.inl rfl) (pe_callB (cr_sum rfl) (by rfl) Z.sum (by decide +kernel) (pa_cons (pe_slice sl_list (pv 0) (po_some (pv 1)) (po_some (pe_op op_add (pv 1) pe_int))) pa_nil)))
      (pss_one (ps_ret (pe_lst (pa_cons (pe_op op_mod (pe_callTy call_int1 (by rfl) Z.int (by decide +kernel) (pa_cons (pe_callB (call_max2 rfl) (by rfl) Z.max (by decide +kernel)
          (pa_cons (pe_op op_sub (pv 2) (pe_op op_pow pe_int pe_int)) (pa_cons pe_int pa_nil))) pa_nil)) (pe_op op_powL (pe_op op_pow pe_int pe_int) pe_int))
        (pa_cons (pe_op op_mod (pe_callTy call_int1 (by rfl) Z.int (by decide +kernel) (pa_cons (pv 2) pa_nil)) pe_int) (pa_cons pe_int (pa_cons (pv 1) pa_nil)))))))), ?_⟩
    refine ⟨_, rfl, _, rfl, i, rfl, ?_⟩
    refine ⟨_, rfl, _, _, rfl, rfl, ?_⟩
    refine ⟨i + 1, rfl, a, _, rfl, hS, fun q hq => ?_⟩
    rw [cut_map]
    refine ⟨q, _, rfl, SqL.of upd_same, ?_⟩
    -- the list
    refine ⟨_, rfl, _, _, rfl, rfl, ⟨by decide, by decide, by decide⟩, _, _, rfl, rfl, ?_⟩
    refine ⟨_, _, rfl, Or.inl ⟨_, rfl, ?_⟩⟩
    refine ⟨_, _, rfl, rfl, ⟨by decide, by decide, by decide⟩, ?_⟩
    refine ⟨_, _, rfl, rfl, ⟨by decide, by decide +kernel⟩, ?_⟩
    refine ⟨_, _, rfl, rfl, (by show (0 : Int) < _; decide +kernel), ?_⟩
    refine ⟨_, rfl, Or.inl ⟨_, rfl, ?_⟩⟩
    refine ⟨_, _, rfl, rfl, (by show (0 : Int) < _; decide), ?_⟩
    refine ⟨_, rfl, (by show 4 ≤ sizeLine; decide), fun p hp => ?_⟩
    refine k p _ (Same.trans (Same.upd hq) (Same.upd hp)) ?_ ⟨_, _, 0, i, upd_same, ⟨Int.emod_nonneg _ (by decide), Int.lt_trans (Int.emod_lt_of_pos _ (by decide)) (by decide)⟩, Int.emod_nonneg _ (by decide +kernel), Int.le_refl _, Int.le_refl _⟩
    rw [upd_ne (fun e => by rw [e, upd_same] at hp; cases hp)] at hp
    exact hp
theorem scMixed : FnScope ["_law_seed", "_law_spin", "_law_at", "_law_mixed_here"] ["_law_seed", "_law_spin", "_law_at"] (defScope sMixed) := ⟨rfl, rfl, rfl, by decide +kernel, rfl, by decide +kernel, by decide +kernel⟩
theorem ok_mixed (F : FnP K "_law_mixed" sMixed f fd) (Z : Free mg) : FnOk P w K mg base CX0 1 f fd ["_law_seed", "_law_spin", "_law_at"] spMixed := by
  refine F.ok scMixed (fun vs H Q E h => ?_) (fun cdv A outer s H vs Q E hr h => ?_)
  · obtain ⟨B, c, i, rfl, _⟩ := h
    rfl
  · obtain ⟨B, c, i, rfl, ⟨hc0, hc1⟩, k⟩ := h
    have nd := scMixed.nd
    refine ⟨_, PSs.nox (pss_cons (ps_set (i := 3) nd rfl (Or.inl rfl) (pe_op op_add (pe_op op_mul (pv 0) pe_int) (pe_op op_mul (pe_op op_mul pe_int (pv 1)) (pv 1))))
      (pss_cons (ps_set (i := 3) nd rfl (Or.inl rfl) (pe_op op_mod (pe_callTy call_int1 (by rfl) Z.int (by decide +kernel) (pa_cons (pe_op op_add (pe_op op_add (pv 3) (pe_op op_mul pe_int (pv 2))) (pv 1)) pa_nil)) pe_int))
      (pss_cons (ps_set (i := 3) nd rfl (Or.inl rfl) (pe_op op_mod (pe_callTy call_int1 (by rfl) Z.int (by decide +kernel) (pa_cons (pe_op op_add (pe_op op_mul (pv 3) (pv 3)) pe_int) pa_nil)) pe_int))
      (pss_one (ps_ret (pe_op op_mod (pe_callTy call_int1 (by rfl) Z.int (by decide +kernel) (pa_cons (pe_op op_mul (pv 3) pe_int) pa_nil)) pe_int)))))), ?_⟩
    have c64 : -(2 ^ 64) < c ∧ c < 2 ^ 64 := ⟨by omega, by omega⟩
    refine ⟨_, rfl, _, _, rfl, rfl, Or.inr ⟨by decide, by decide⟩, ?_⟩
    refine ⟨_, rfl, _, _, rfl, rfl, Or.inl ⟨by decide, by decide⟩, ?_⟩
    refine ⟨_, rfl, _, _, rfl, rfl, Or.inr c64, ?_⟩
    refine ⟨_, _, rfl, rfl, ?_⟩
    refine ⟨_, rfl, _, rfl, _, _, rfl, rfl, Or.inl ⟨by decide, by decide⟩, ?_⟩
    refine ⟨_, _, rfl, rfl, _, rfl, _, _, rfl, rfl, ?_⟩
    refine Or.inl ⟨_, rfl, ?_⟩
    refine ⟨_, _, rfl, rfl, (by show (0 : Int) < _; decide), ?_⟩
    generalize hm : (B * 69069 + 104729 * c * c + 7919 * i + c) % 2147483647 = m
    have h1 : 0 ≤ m := by rw [← hm]; exact Int.emod_nonneg _ (by decide)
    have h2 : m < 2147483647 := by rw [← hm]; exact Int.emod_lt_of_pos _ (by decide)
    refine ⟨_, rfl, _, rfl, _, _, rfl, rfl, Or.inl ⟨by omega, by omega⟩, ?_⟩
    refine ⟨_, _, rfl, rfl, Or.inl ⟨_, rfl, ?_⟩⟩
    refine ⟨_, _, rfl, rfl, (by show (0 : Int) < _; decide), ?_⟩
    refine ⟨_, rfl, _, _, rfl, rfl, Or.inr ⟨by decide, by decide⟩, Or.inl ⟨_, rfl, ?_⟩⟩
    refine ⟨_, _, rfl, rfl, (by show (0 : Int) < _; decide), ?_⟩
    exact k _ (Int.emod_nonneg _ (by decide)) (Int.emod_lt_of_pos _ (by decide))
theorem scDraw : FnScope ["_law_purse_here", "_law_many", "_law_drawn", "_law_found", "_law_piece"] ["_law_purse_here", "_law_many"] (defScope sDraw) := ⟨rfl, rfl, rfl, by decide +kernel, rfl, by decide +kernel, by decide +kernel⟩
theorem ok_draw (F : FnP K "_law_draw" sDraw f fd) (Z : Free mg) (FM : FnP K "_law_mixed" sMixed fM fdM) (gM : mg "_law_mixed" = some (.ref fM)) : FnOk P w K mg base CX0 2 f fd ["_law_purse_here", "_law_many"] spDraw := by
  have GM : FnOk P w K mg base CX0 1 fM fdM ["_law_seed", "_law_spin", "_law_at"] spMixed := ok_mixed FM Z
  have bM : Binds K fdM ["_law_seed", "_law_spin", "_law_at"] [] := FM.bindsN fun _ _ _ _ _ _ us hl => match us, hl with | [_, _, _], _ => rfl
  refine F.ok scDraw (fun vs H Q E h => ?_) (fun cdv A outer s H vs Q E hr h => ?_)
  · obtain ⟨p, m, N, rfl, _⟩ := h
    rfl
  · obtain ⟨p, m, N, rfl, hm1, hm2, hP, hN, hN2, k⟩ := h
    obtain ⟨A0, B, c, i, hp, hB, hA, hc, hcN⟩ := id hP
    have nd := scDraw.nd
    refine ⟨_, PSs.nox (pss_cons (ps_if (pt_cmpR op_gt (pe_ix ix_list (pv 0) pe_int (fun _ _ => rfl)) pe_int (nomark _))
        (pss_cons (ps_set (i := 2) nd rfl (Or.inl rfl) (pe_op op_mod (pe_callTy call_int1 (by rfl) Z.int (by decide +kernel) (pa_cons (pe_ix ix_list (pv 0) pe_int (fun _ _ => rfl)) pa_nil)) (pv 1)))
        (pss_cons (ps_asg (pe_op op_fdivW (pe_ix ix_list (pv 0) pe_int (fun _ _ => rfl)) (pv 1)) (pg_sub (pv 0) pe_int set_list))
        (pss_one (ps_ret (pv 2))))) pss_nil)
      (pss_cons (ps_set (i := 3) nd rfl (Or.inl rfl) pe_int)
      (pss_cons (ps_for PassesOwn.never rfl (pi_range1 rfl Z.range (pa_cons (pe_op op_add pe_int (pe_op op_fdiv (pe_bits (pv 1)) pe_int)) pa_nil)) (pg_name (i := 4) nd rfl (Or.inl rfl))
        (pss_cons (ps_asg (pe_op op_add (pe_ix ix_list (pv 0) pe_int (fun _ _ => rfl)) pe_int) (pg_sub (pv 0) pe_int set_list))
        (pss_one (ps_set (i := 3) nd rfl (Or.inl rfl) (pe_op op_add (pe_op op_mul (pv 3) pe_int) (pe_call GM hr rfl gM FM.kp bM .nil pass0
          (pa_cons (pe_ix ix_list (pv 0) pe_int (fun _ _ => rfl)) (pa_cons (pe_ix ix_list (pv 0) pe_int (fun _ _ => rfl)) (pa_cons (pe_ix ix_list (pv 0) pe_int (fun _ _ => rfl)) pa_nil)))))))))
      (pss_one (ps_ret (pe_op op_mod (pe_callTy call_int1 (by rfl) Z.int (by decide +kernel) (pa_cons (pv 3) pa_nil)) (pv 1))))))), ?_⟩
    -- if purse[0] > 0
    refine ⟨_, rfl, p, _, 0, .int A0, rfl, rfl, SqL.of hp, rfl, ?_⟩
    refine ⟨_, _, rfl, rfl, _, rfl, ?_⟩
    refine ite2 (fun hpos => ?_) (fun hneg => ?_)
    · refine ⟨_, rfl, p, _, 0, .int A0, rfl, rfl, SqL.of hp, rfl, Or.inl ⟨_, rfl, ?_⟩⟩
      refine ⟨_, rfl, _, _, rfl, rfl, (by show (0 : Int) < m; omega), ?_⟩
      refine ⟨_, rfl, p, _, 0, .int A0, rfl, rfl, SqL.of hp, rfl, ?_⟩
      refine ⟨_, rfl, _, _, rfl, rfl, ⟨by omega, hm2⟩, ?_⟩
      refine ⟨_, rfl, p, _, 0, 0, rfl, rfl, hp, rfl, ?_⟩
      refine ⟨_, rfl, ?_⟩
      refine k _ _ (Int.emod_nonneg _ (by omega)) (Int.emod_lt_of_pos _ (by omega)) But.upd ⟨A0 / m, B, c, i, upd_same, hB, Int.ediv_nonneg hA (by omega), hc, by omega⟩
    · -- found = 0; for piece in range(..)
      have hb : (0 : Int) ≤ 1 + (Builtin.Int.intBits m : Int) / 28 := by omega
      have hM : ((mixes m : Nat) : Int) = 1 + (Builtin.Int.intBits m : Int) / 28 := by
        unfold mixes
        exact Int.toNat_of_nonneg hb
      refine ⟨_, rfl, _, rfl, _, _, rfl, rfl, ⟨by decide, by decide⟩, _, _, rfl, rfl, ?_⟩
      refine ⟨1 + (Builtin.Int.intBits m : Int) / 28, rfl, by omega, by omega, ?_⟩
      refine for_range (lo := 0) (n := (1 + (Builtin.Int.intBits m : Int) / 28).toNat) (fun j σ H2 => ∃ (g : Int) (v2 v4 : Option V), σ = [some (.ref p), some (.int m), v2, some (.int g), v4] ∧ But p H H2 ∧
          ∃ c' : Int, H2 p = some (.lst [.int A0, .int B, .int c', .int i]) ∧ 0 ≤ c' ∧ c' ≤ (N : Int) + (j : Int))
        ⟨0, none, none, rfl, But.refl _ _, c, hp, hc, by omega⟩ ?_ ?_
      · rintro j σ H2 hj ⟨g, v2, v4, rfl, kb, c', hp2, h0, h1⟩
        have hj2 : (j : Int) < 2 ^ 50 := by
          have : j < mixes m := hj
          omega
        refine ⟨_, rfl, p, _, 2, .int c', rfl, rfl, SqL.of hp2, rfl, ?_⟩
        refine ⟨_, _, rfl, rfl, ?_⟩
        refine ⟨_, rfl, p, _, 2, 2, rfl, rfl, hp2, rfl, ?_⟩
        have hp3 : (L2.upd H2 p (.lst (List.set [V.int A0, .int B, .int c', .int i] 2 (.int (c' + 1))))) p = some (.lst [.int A0, .int B, .int (c' + 1), .int i]) := upd_same
        refine ⟨_, rfl, _, _, rfl, rfl, Or.inr ⟨by decide, by decide⟩, ?_⟩
        refine ⟨_, rfl, p, _, 1, .int B, rfl, rfl, SqL.of hp3, rfl, ?_⟩
        refine ⟨_, rfl, p, _, 2, .int (c' + 1), rfl, rfl, SqL.of hp3, rfl, ?_⟩
        refine ⟨_, rfl, p, _, 3, .int i, rfl, rfl, SqL.of hp3, rfl, ?_⟩
        refine ⟨B, c' + 1, i, rfl, ⟨by omega, by omega⟩, fun r hr0 hr1 => ?_⟩
        refine ⟨_, _, rfl, rfl, ?_⟩
        exact ⟨_, v2, _, rfl, But.trans kb But.upd, c' + 1, hp3, by omega, by omega⟩
      · rintro σ H2 ⟨g, v2, v4, rfl, kb, c', hp2, h0, h1⟩
        refine ⟨_, rfl, Or.inl ⟨_, rfl, ?_⟩⟩
        refine ⟨_, rfl, _, _, rfl, rfl, (by show (0 : Int) < m; omega), ?_⟩
        refine k _ _ (Int.emod_nonneg _ (by omega)) (Int.emod_lt_of_pos _ (by omega)) kb ⟨A0, B, c', i, hp2, hB, hA, h0, ?_⟩
        have : ((N + mixes m : Nat) : Int) = (N : Int) + (mixes m : Int) := by omega
        rw [this]
        exact h1
end
abbrev sPurses : Stmt := top 46
abbrev sOne : Stmt := top 47
section
variable {P : Program} {w : World} {K : PySem.W.Frag} {mg : Str → Option Value} {base : Heap} {f fP fD : Addr} {fd fdP fdD : FuncData}
theorem scPurses : FnScope ["_law_script", "_law_few", "_law_at"] ["_law_script", "_law_few"] (defScope sPurses) := ⟨rfl, rfl, rfl, by decide +kernel, rfl, by decide +kernel, by decide +kernel⟩
theorem ok_purses (F : FnP K "_law_purses" sPurses f fd) (Z : Free mg) (GP : FnOk P w K mg base CX0 1 fP fdP ["_law_script", "_law_at"] (spPurse K)) (FP : FnP K "_law_purse" sPurse fP fdP) (gP : mg "_law_purse" = some (.ref fP)) :
    FnOk P w K mg base CX0 2 f fd ["_law_script", "_law_few"] (spPurses K) := by
  have bP : Binds K fdP ["_law_script", "_law_at"] [] := FP.bindsN fun _ _ _ _ _ _ us hl => match us, hl with | [_, _], _ => rfl
  refine F.ok scPurses (fun vs H Q E h => ?_) (fun cdv A outer s H vs Q E hr h => ?_)
  · obtain ⟨a, ns, rfl, _⟩ := h
    rfl
  · obtain ⟨a, ns, rfl, hS, k⟩ := h
    have nd := scPurses.nd
    refine ⟨_, PSs.nox (pss_one (ps_ret (pe_lc (own := [("_law_at", 2)]) (g := gName 2) (tt := tYes) (by rfl) nd (pi_range1 rfl Z.range (pa_cons (pe_callB (call_max2 rfl) (by rfl) Z.max (by decide +kernel) (pa_cons pe_int
        (pa_cons (pe_callB (call_min2 rfl) (by rfl) Z.min (by decide +kernel) (pa_cons (pv 1) (pa_cons (pe_callB call_len_seq (by rfl) Z.len (by decide +kernel) (pa_cons (pv 0) pa_nil)) pa_nil))) pa_nil))) pa_nil))
      (blkOk_by (own := [("_law_at", 2)]) (N := ["_law_script", "_law_few", "_law_at"]) (sc := defScope sPurses) (by decide +kernel)) (fun _ _ _ _ _ => pg_name (i := 2) nd rfl (Or.inl rfl)) (fun _ _ _ _ _ => pts_nil)
      (fun _ _ _ _ _ => pe_call GP hr rfl gP FP.kp bP .nil pass0 (pa_cons (pv 0) (pa_cons (pv 2) pa_nil)))))), ?_⟩
    refine ⟨_, rfl, _, rfl, a, _, rfl, Or.inl hS, _, _, rfl, ?_⟩
    refine ⟨_, _, rfl, ?_⟩
    have hone : ∀ n : Int, 0 ≤ n → (if (if n < 1 then n else 1) > 1 then (if n < 1 then n else 1) else (1 : Int)) = 1 := fun n hn => by
      by_cases c : n < 1
      · rw [if_pos c, if_neg (by omega)]
      · rw [if_neg c, if_neg (by omega)]
    refine ⟨1, congrArg (fun z => [V.int z]) (hone _ (Int.natCast_nonneg _)), by decide, by decide, fun D hD => ?_⟩
    refine lc_range (lo := 0) (n := 1) (fun j H2 => (j = 0 ∧ H2 = upd H D (.lst [])) ∨ (j = 1 ∧ ∃ p, H2 D = some (.lst [.ref p]) ∧ Same H H2 ∧ H p = none ∧ p ≠ D ∧ Purse H2 p 0)) (Or.inl ⟨rfl, rfl⟩) ?_ ?_
    · intro j H2 hj hP
      rcases hP with ⟨rfl, rfl⟩ | ⟨rfl, _⟩
      · refine ⟨rfl, _, rfl, _, rfl, a, ns, _, rfl, (Same.upd hD).seq hS, fun p H3 hk hp hpu => ?_⟩
        have hne : p ≠ D := fun e => by
          rw [e, upd_same] at hp
          cases hp
        refine ⟨[], hk _ _ upd_same, by decide, Or.inr ⟨rfl, p, upd_same, fun b o e => ?_, ?_, hne, ?_⟩⟩
        · rw [upd_ne (ne_of_none e hD)]
          exact hk _ _ (by rw [upd_ne (ne_of_none e hD)]; exact e)
        · rw [upd_ne hne] at hp
          exact hp
        · obtain ⟨A0, B, c, i, e, r⟩ := hpu
          exact ⟨A0, B, c, i, by rw [upd_ne hne]; exact e, r⟩
      · omega
    · intro H2 hP
      rcases hP with ⟨h, _⟩ | ⟨_, p, h1, h2, h3, h4, h5⟩
      · omega
      · exact k D p H2 h2 h3 hD h4 h1 h5
theorem scOne : FnScope ["_law_purse_here", "_law_some"] ["_law_purse_here", "_law_some"] (defScope sOne) := ⟨rfl, rfl, rfl, by decide +kernel, rfl, by decide +kernel, by decide +kernel⟩
theorem ok_one (F : FnP K "_law_one_of" sOne f fd) (Z : Free mg) (GD : FnOk P w K mg base CX0 2 fD fdD ["_law_purse_here", "_law_many"] spDraw) (FD : FnP K "_law_draw" sDraw fD fdD) (gD : mg "_law_draw" = some (.ref fD)) :
    FnOk P w K mg base CX0 3 f fd ["_law_purse_here", "_law_some"] (spOne K) := by
  have bD : Binds K fdD ["_law_purse_here", "_law_many"] [] := FD.bindsN fun _ _ _ _ _ _ us hl => match us, hl with | [_, _], _ => rfl
  refine F.ok scOne (fun vs H Q E h => ?_) (fun cdv A outer s H vs Q E hr h => ?_)
  · obtain ⟨p, q, xs, N, rfl, _⟩ := h
    rfl
  · obtain ⟨p, q, xs, N, rfl, hqp, hS, hl1, hl2, hP, hN, k⟩ := h
    refine ⟨_, PSs.nox (pss_one (ps_ret (pe_ix ix_list (pv 1) (pe_call GD hr rfl gD FD.kp bD .nil pass0 (pa_cons (pv 0) (pa_cons (pe_callB call_len_seq (by rfl) Z.len (by decide +kernel) (pa_cons (pv 1) pa_nil)) pa_nil))) (fun _ _ => rfl)))), ?_⟩
    have hm := mixes_one (m := (xs.length : Int)) (by omega) (by omega)
    refine ⟨_, rfl, _, rfl, _, rfl, q, xs, rfl, Or.inl hS, ?_⟩
    refine ⟨p, (xs.length : Int), N, rfl, by omega, log_small (by omega) (by omega), hP, by omega, by omega, fun r H' h0 h1 kb hP' => ?_⟩
    obtain ⟨j, rfl⟩ : ∃ j : Nat, r = j := ⟨r.toNat, by omega⟩
    have hj : j < xs.length := by omega
    refine ⟨q, xs, _, xs[j], rfl, rfl, kb.seq hqp hS, atI_nat (by rw [List.getElem?_eq_getElem hj]), ?_⟩
    rw [hm] at hP'
    exact k _ _ (List.getElem_mem hj) kb hP'
end
abbrev s_purse := sPurse
abbrev s_mixed := sMixed
abbrev s_draw := sDraw
end K27
set_option Elab.async false
set_option linter.all false
set_option maxRecDepth 100000
set_option maxHeartbeats 4000000
/-! Set comprehensions of any members, of one clause or two: the loop of a clause once and for all. -/
namespace KB
open PySem PySem.Spec PyProof.Rows L2
/-- no error leaves -/
abbrev F0 : Value → Shared → Prop := fun _ _ => False
/-- the tests of a clause -/
abbrev tests (ifs : List Expr) (env : Env) : Sem Bool := forIn ifs true fun q r => if r = true then (do let b ← isTrue q env (eval q env); pure (ForInStep.yield b)) else pure (ForInStep.yield r)
/-- the loop c of a clause over it, the rest of a turn being B -/
structure Cl (P : Program) (w : World) (A : Around) (c : Code) (it : Value) (tg : Expr) (env : Env) (ifs : List Expr) (B : (Shared → Prop) → Shared → Prop) : Prop where
  quiet : c.quiet = true
  mono : ∀ (N N' : Shared → Prop) (s : Shared), (∀ s', N s' → N' s') → B N s → B N' s
  den : ∀ (Q : PySem.Fin → Shared → Prop) (E : Value → Shared → Prop) (s : Shared), wpAny (model P w) A (pyNext it) (fun r s1 => match r with
      | none => Q (.done .next) s1
      | some v => wpAny (model P w) A (letOwnedTupleGo tg it v) (fun _ s2 => wpAny (model P w) A (assign tg env v) (fun _ s3 => wpAny (model P w) A (tests ifs env) (fun b s4 =>
          if b = true then B (fun s5 => Q (.again c) s5) s4 else Q (.again c) s4) F0 s3) F0 s2) F0 s1) F0 s → wpAny (model P w) (A.under c) ((model P w).den c) Q E s
/-- what of the slots is known stays known, but for those of vs -/
def Kp (vs : List Nat) (σ σ' : L2.St) : Prop := σ'.length = σ.length ∧ ∀ (j : Nat) (v : V), (wipe σ vs)[j]? = some (some v) → σ'[j]? = some (some v)
theorem Kp.refl (vs : List Nat) (σ : L2.St) : Kp vs σ σ := ⟨rfl, fun _ _ e => (wipe_some e).1⟩
theorem Kp.wipe {vs vs1 : List Nat} (h : ∀ i ∈ vs1, i ∈ vs) (σ : L2.St) : Kp vs σ (wipe σ vs1) := ⟨wipe_length _ _, fun j v e => by
  obtain ⟨e1, e2⟩ := wipe_some e
  rw [wipe_out fun z => e2 (h j z)]
  exact e1⟩
/-- the turns of a clause; tb: the rest of a turn, by what has to hold behind it -/
def tCl (g : TG) (tt : TT) (tb : L2.St → Hp → (Hp → Prop) → Prop) (vs : List Nat) (σ : L2.St) (Z : Hp → Prop) (J : It) (H : Hp) : Prop :=
  ∃ W : Nat → Nat → Hp → Prop, (∃ m, W 0 m H) ∧ ∀ i m G, W i m G → (J.stop i G ∧ Z G) ∨ (J.go i G ∧ ∃ N : Hp → Prop, (∀ G', N G' → ∃ m', m' < m ∧ W (i + 1) m' G') ∧
    ∀ x G', J.yld i G x G' → g x (wipe σ vs) G' fun σ2 H2 => wipe σ2 vs = wipe σ vs ∧ tt σ2 H2 fun b H3 => if b = true then tb σ2 H3 N else N H3)
section
variable {X : Cx} {c : Code} {it : Addr} {tg : Expr} {ifs : List Expr} {B : (Shared → Prop) → Shared → Prop} {J : It} {fp : List Addr} {tn : Nat → Heap → Prop} {g : TG} {tt : TT}
  {tb : L2.St → Hp → (Hp → Prop) → Prop} {vs : List Nat} {pins : List (Addr × Obj)} {σ : L2.St} {H : Hp} {s : Shared} {Z : Hp → Prop} {R : Result → Shared → Prop}
theorem cl_run (hc : X.calm = true) (hx : X.xe = F0) (L : Cl X.prog X.w X.A c (.ref it) tg X.env ifs B) (T : Turn X.prog X.w X.K tg J fp it tn) (pg : PG X tg g) (pt : PTs X ifs tt)
    (pb : ∀ (pl : List (Addr × Obj)) (s1 : Shared) (τ : L2.St) (G : Hp) (N : Hp → Prop), Inv X pl τ G s1 → (∀ b ∈ pl, b ∈ pins ∨ b.1 ∈ fp) → tb τ G N → B (fun s2 => ∃ τ' G', Inv X pl τ' G' s2 ∧ Kp vs τ τ' ∧ N G') s1)
    (I : Inv X pins (wipe σ vs) H s) (fr : ∀ b ∈ fp, FpOk X pins H b) (t0 : tn 0 s.heap) (q : tCl g tt tb vs σ Z J H) (k : ∀ s' G, Inv X pins (wipe σ vs) G s' → (∀ b ∈ fp, G b = none) → Z G → R (.ok .next) s') :
    codeAny (model X.prog X.w) X.A c R s := by
  obtain ⟨W, ⟨m0, w0⟩, turn⟩ := q
  refine codeAny_loop L.quiet (fun n u => ∃ i G, Inv X pins (wipe σ vs) G u ∧ tn i u.heap ∧ (∀ b ∈ fp, G b = none) ∧ W i n G) ?_ m0 ⟨0, H, I, t0, fun b hb => (fr b hb).1, w0⟩
  rintro n s1 ⟨i, G, I1, t1, n1, w1⟩
  refine L.den _ _ _ ?_
  have ok1 : ∀ b ∈ fp, FpOk X pins G b := fun b hb => ⟨n1 b hb, (fr b hb).2⟩
  rcases turn i n G w1 with ⟨stp, z⟩ | ⟨go, N, hN, step⟩
  · refine thnF (T.done X rfl rfl rfl hc i pins s1 _ G F0 I1 ok1 t1 stp) fun r s2 ⟨er, I2⟩ => ?_
    subst er
    exact k _ _ I2 n1 z
  · refine thnF (T.item X rfl rfl rfl hc i pins s1 _ G F0 I1 ok1 t1 go) fun r s2 ⟨u, er, h2⟩ => ?_
    subst er
    refine thnF h2 fun _ s3 ⟨x, G3, I3, r3, y3, t3, n3⟩ => ?_
    have J3 := I3.pinned (fun b hb => ⟨n3 b hb, (fr b hb).2⟩) (T.obj _ _ t3)
    have a1 := pg.run _ s3 _ G3 x u _ J3 r3 (step x G3 y3)
    rw [hx] at a1
    refine thnF a1 fun _ s4 ⟨τ, G4, I4, ew, q4⟩ => ?_
    have a2 := pt.run _ s4 τ G4 _ I4 q4
    rw [hx] at a2
    refine thnF a2 fun ok s5 ⟨G5, I5, q5⟩ => ?_
    have fin : ∀ (τ' : L2.St) (G' : Hp) (s' : Shared), Inv X (pins ++ pinsAt fp s3.heap) τ' G' s' → Kp vs τ τ' → N G' → ∃ m, m < n ∧ ∃ i G, Inv X pins (wipe σ vs) G s' ∧ tn i s'.heap ∧ (∀ b ∈ fp, G b = none) ∧ W i m G := fun τ' G' s' I' kp nx => by
      obtain ⟨m', hm, w'⟩ := hN G' nx
      have at_ : ∀ b ∈ fp, ∀ o, s3.heap.get? b = some o → s'.heap.get? b = some o ∧ G' b = none := fun b hb o e => by
        have z := I'.pin (b, o) (List.mem_append_right _ (List.mem_append_right _ (mem_pinsAt hb e)))
        exact ⟨z.1, z.2.1⟩
      refine ⟨m', hm, i + 1, G', I'.unpinned.weak ?_ (fun j v e => kp.2 j v (by rw [ew]; exact e)), T.keep _ _ _ t3 fun b hb o e => (at_ b hb o e).1, fun b hb => ?_, w'⟩
      · rw [kp.1, ← wipe_length τ vs, ew]
      · obtain ⟨o, e, _⟩ := T.obj _ _ t3 b hb
        exact (at_ b hb o e).2
    cases ok with
    | false => exact ⟨rfl, fin _ _ _ I5 (Kp.refl _ _) q5⟩
    | true =>
      have mem : ∀ b ∈ pins ++ pinsAt fp s3.heap, b ∈ pins ∨ b.1 ∈ fp := fun b hb => by
        rcases List.mem_append.mp hb with z | z
        · exact .inl z
        · refine .inr ?_
          obtain ⟨a, ha, e⟩ := List.mem_filterMap.mp z
          obtain ⟨o, _, rfl⟩ := Option.map_eq_some_iff.mp e
          exact ha
      refine L.mono _ _ _ (fun s6 ⟨τ', G6, I6, kp, nx⟩ => ?_) (pb _ s5 τ G5 N I5 mem q5)
      exact ⟨rfl, fin _ _ _ I6 kp nx⟩
end
end KB
set_option Elab.async false
set_option linter.all false
set_option maxRecDepth 100000
set_option maxHeartbeats 4000000
namespace KB
open PySem PySem.Spec PyProof.Rows L2
abbrev sc1 (elt t0 i0 : Expr) (if0 : List Expr) (scope : Scope) (pos : Pos) : Expr := .SetComp elt [⟨t0, i0, if0, 0⟩] scope pos
abbrev sc2 (elt t0 i0 t1 i1 : Expr) (if0 if1 : List Expr) (scope : Scope) (pos : Pos) : Expr := .SetComp elt [⟨t0, i0, if0, 0⟩, ⟨t1, i1, if1, 0⟩] scope pos
section
variable {P : Program} {w : World} {A : Around} {env : Env} {elt t0 i0 t1 i1 : Expr} {if0 if1 : List Expr} {scope : Scope} {pos : Pos} {it acc : Value}
theorem turn1 : compTurn (sc1 elt t0 i0 if0 scope pos) 0 it acc env = (do
      standAt i0.pos
      match ← pyNext it with
      | none => pure (.done .next)
      | some u =>
        letOwnedTupleGo t0 it u
        assign t0 env u
        let mut b := true
        for q in if0 do
          if b then b ← isTrue q env (eval q env)
        if b then
          (do let y ← eval elt env; standAt elt.pos; let _ ← call (.builtin "set.add") [acc, y])
        again (.compLoop (sc1 elt t0 i0 if0 scope pos) 0 it acc env)) := by rfl
theorem turn2i : compTurn (sc2 elt t0 i0 t1 i1 if0 if1 scope pos) 1 it acc env = (do
      standAt i1.pos
      match ← pyNext it with
      | none => pure (.done .next)
      | some u =>
        letOwnedTupleGo t1 it u
        assign t1 env u
        let mut b := true
        for q in if1 do
          if b then b ← isTrue q env (eval q env)
        if b then
          (do let y ← eval elt env; standAt elt.pos; let _ ← call (.builtin "set.add") [acc, y])
        again (.compLoop (sc2 elt t0 i0 t1 i1 if0 if1 scope pos) 1 it acc env)) := by rfl
theorem turn2o : compTurn (sc2 elt t0 i0 t1 i1 if0 if1 scope pos) 0 it acc env = (do
      standAt i0.pos
      match ← pyNext it with
      | none => pure (.done .next)
      | some u =>
        letOwnedTupleGo t0 it u
        assign t0 env u
        let mut b := true
        for q in if0 do
          if b then b ← isTrue q env (eval q env)
        if b then
          let y ← eval i1 env
          standAt i1.pos
          let y ← foldedSetIterable i1 env y
          let _ ← runOwn (.compStart (sc2 elt t0 i0 t1 i1 if0 if1 scope pos) 1 (← holding [y] (pyIter y)) acc env) env
        again (.compLoop (sc2 elt t0 i0 t1 i1 if0 if1 scope pos) 0 it acc env)) := by rfl
/-- a member is made and put in -/
def bAdd (P : Program) (w : World) (A : Around) (elt : Expr) (env : Env) (acc : Value) : (Shared → Prop) → Shared → Prop := fun N s =>
  wpAny (model P w) A (eval elt env) (fun y s1 => wpAny (model P w) A (call (.builtin "set.add") [acc, y]) (fun _ s2 => N s2) F0 s1) F0 s
theorem noF {α : Type} {t : Sem α} {Q : α → Shared → Prop} {M : Model} {E : Value → Shared → Prop} {s : Shared} (h : wpAny M A t Q F0 s) : wpAny M A t Q E s := wpAny_mono h (fun _ _ x => x) fun _ _ z => z.elim
theorem bAdd_mono (N N' : Shared → Prop) (s : Shared) (h : ∀ s', N s' → N' s') (b : bAdd P w A elt env acc N s) : bAdd P w A elt env acc N' s :=
  wpAny_mono b (fun _ _ x => wpAny_mono x (fun _ s' z => h s' z) fun _ _ z => z) fun _ _ z => z
theorem cl_add1 : Cl P w A (.compLoop (sc1 elt t0 i0 if0 scope pos) 0 it acc env) it t0 env if0 (bAdd P w A elt env acc) := by
  refine ⟨rfl, bAdd_mono, fun Q E s h => ?_⟩
  show wpAny _ A ((compTurn (sc1 elt t0 i0 if0 scope pos) 0 it acc env).onRaise _) _ _ s
  refine wpAny_noted ?_
  rw [turn1]
  refine wpAny_bind (wpAny_standAt (wpAny_bind (noF (wpAny_mono h (fun r s1 h1 => ?_) fun _ _ z => z))))
  cases r with
  | none => exact wpAny_pure h1
  | some u =>
    refine wpAny_bind (noF (wpAny_mono h1 (fun _ s2 h2 => wpAny_bind (noF (wpAny_mono h2 (fun _ s3 h3 => wpAny_bind (noF (wpAny_mono h3 (fun b s4 h4 => ?_) fun _ _ z => z))) fun _ _ z => z))) fun _ _ z => z))
    cases b with
    | false => exact wpAny_pure h4
    | true => exact wpAny_bind (wpAny_bind (noF (wpAny_mono h4 (fun y s5 h5 => wpAny_bind (wpAny_standAt (wpAny_bind (noF (wpAny_mono h5 (fun _ s6 h6 => wpAny_pure (wpAny_pure h6)) fun _ _ z => z))))) fun _ _ z => z)))
theorem cl_add2 : Cl P w A (.compLoop (sc2 elt t0 i0 t1 i1 if0 if1 scope pos) 1 it acc env) it t1 env if1 (bAdd P w A elt env acc) := by
  refine ⟨rfl, bAdd_mono, fun Q E s h => ?_⟩
  show wpAny _ A ((compTurn (sc2 elt t0 i0 t1 i1 if0 if1 scope pos) 1 it acc env).onRaise _) _ _ s
  refine wpAny_noted ?_
  rw [turn2i]
  refine wpAny_bind (wpAny_standAt (wpAny_bind (noF (wpAny_mono h (fun r s1 h1 => ?_) fun _ _ z => z))))
  cases r with
  | none => exact wpAny_pure h1
  | some u =>
    refine wpAny_bind (noF (wpAny_mono h1 (fun _ s2 h2 => wpAny_bind (noF (wpAny_mono h2 (fun _ s3 h3 => wpAny_bind (noF (wpAny_mono h3 (fun b s4 h4 => ?_) fun _ _ z => z))) fun _ _ z => z))) fun _ _ z => z))
    cases b with
    | false => exact wpAny_pure h4
    | true => exact wpAny_bind (wpAny_bind (noF (wpAny_mono h4 (fun y s5 h5 => wpAny_bind (wpAny_standAt (wpAny_bind (noF (wpAny_mono h5 (fun _ s6 h6 => wpAny_pure (wpAny_pure h6)) fun _ _ z => z))))) fun _ _ z => z)))
/-- the second clause is run -/
def bIn (P : Program) (w : World) (A : Around) (e i1 : Expr) (env : Env) (acc : Value) : (Shared → Prop) → Shared → Prop := fun N s =>
  wpAny (model P w) A (eval i1 env) (fun y s1 => wpAny (model P w) A (pyIter y) (fun j s2 => codeAny (model P w) A (.compStart e 1 j acc env) (fun r s' => match r with
    | .ok _ => N s'
    | .error _ => False) s2) F0 s1) F0 s
theorem bIn_mono {e : Expr} (N N' : Shared → Prop) (s : Shared) (h : ∀ s', N s' → N' s') (b : bIn P w A e i1 env acc N s) : bIn P w A e i1 env acc N' s :=
  wpAny_mono b (fun _ _ x => wpAny_mono x (fun _ _ y => codeAny_mono y fun r s' z => match r, z with
    | .ok _, z => h s' z
    | .error _, z => z) fun _ _ z => z) fun _ _ z => z
theorem cl_in (hs : ∀ x, foldedSetIterable i1 env x = pure x) : Cl P w A (.compLoop (sc2 elt t0 i0 t1 i1 if0 if1 scope pos) 0 it acc env) it t0 env if0 (bIn P w A (sc2 elt t0 i0 t1 i1 if0 if1 scope pos) i1 env acc) := by
  refine ⟨rfl, bIn_mono, fun Q E s h => ?_⟩
  show wpAny _ A ((compTurn (sc2 elt t0 i0 t1 i1 if0 if1 scope pos) 0 it acc env).onRaise _) _ _ s
  refine wpAny_noted ?_
  rw [turn2o]
  refine wpAny_bind (wpAny_standAt (wpAny_bind (noF (wpAny_mono h (fun r s1 h1 => ?_) fun _ _ z => z))))
  cases r with
  | none => exact wpAny_pure h1
  | some u =>
    refine wpAny_bind (noF (wpAny_mono h1 (fun _ s2 h2 => wpAny_bind (noF (wpAny_mono h2 (fun _ s3 h3 => wpAny_bind (noF (wpAny_mono h3 (fun b s4 h4 => ?_) fun _ _ z => z))) fun _ _ z => z))) fun _ _ z => z))
    cases b with
    | false => exact wpAny_pure h4
    | true =>
      refine wpAny_bind (noF (wpAny_mono h4 (fun y s5 h5 => ?_) fun _ _ z => z))
      refine wpAny_bind (wpAny_standAt (wpAny_bind (wpAny_of_eq (hs y) (wpAny_bind (wpAny_holding (noF (wpAny_mono h5 (fun j s6 h6 => ?_) fun _ _ z => z)))))))
      refine wpAny_bind (wpAny_runOwn ?_)
      rw [Around.mark_none]
      refine codeAny_mono h6 fun r s7 z => ?_
      cases r with
      | ok f => first
        | exact wpAny_pure z
        | exact wpAny_bind (wpAny_pure (wpAny_pure z))
      | error e => exact z.elim
theorem start2 {R : Result → Shared → Prop} {s : Shared} (h0 : codeAny (model P w) A (.compLoop (sc2 elt t0 i0 t1 i1 if0 if1 scope pos) 1 it acc env) R s)
    (h : wpAny (model P w) A (pyIter it) (fun j s' => codeAny (model P w) A (.compLoop (sc2 elt t0 i0 t1 i1 if0 if1 scope pos) 1 j acc env) R s') F0 s) :
    codeAny (model P w) A (.compStart (sc2 elt t0 i0 t1 i1 if0 if1 scope pos) 1 it acc env) R s := by
  refine codeAny_of_tree ?_
  show wpAny _ _ ((compStart (sc2 elt t0 i0 t1 i1 if0 if1 scope pos) 1 it acc env).onRaise _) _ _ s
  refine wpAny_notedAt ?_
  unfold compStart
  show wpAny _ _ (ask >>= _) _ _ s
  refine wpAny_bind (wpAny_askSetting (wpAny_ite ?_))
  split
  · first
      | exact wpAny_bind (wpAny_pure (wpAny_pure ⟨rfl, h0⟩))
      | exact wpAny_pure ⟨rfl, h0⟩
  · refine wpAny_bind (wpAny_rule ?_)
    show wpAny _ _ (standAt i1.pos >>= _) _ _ s
    exact wpAny_bind (wpAny_standAt (wpAny_bind (noF (wpAny_mono h (fun j s' h' => wpAny_pure ⟨rfl, h'⟩) fun _ _ z => z))))
end
end KB
set_option Elab.async false
set_option linter.all false
set_option maxRecDepth 100000
set_option maxHeartbeats 4000000
namespace KB
open PySem PySem.Spec PyProof.Rows L2
/-- the set's methods: what add asks and does -/
abbrev AddR := V → List V → Hp → VK → Prop
/-- a member is made, and put into the set at D -/
def tAdd (r : AddR) (te : TE) (D : Addr) : L2.St → Hp → (Hp → Prop) → Prop := fun τ G N => te τ G fun y G1 => r (.ref D) [y] G1 fun _ G2 => N G2
/-- the second clause -/
def tInn (r : AddR) (wi1 : TI) (g1 : TG) (tt1 : TT) (te : TE) (vs1 : List Nat) (D : Addr) : L2.St → Hp → (Hp → Prop) → Prop := fun τ G N => wi1 τ G fun J1 G1 => tCl g1 tt1 (tAdd r te D) vs1 τ N J1 G1
/-- {elt for t0 in i0 if ..}, D the new set -/
def tSc1 (O0 : Addr → HO) (r : AddR) (wi : TI) (g : TG) (tt : TT) (te : TE) (vs : List Nat) : TE := fun σ H Q => wi σ H fun J H1 => ∀ D, H1 D = none → tCl g tt (tAdd r te D) vs σ (fun G => Q (.ref D) G) J (upd H1 D (O0 D))
/-- {elt for t0 in i0 if .. for t1 in i1 if ..} -/
def tSc2 (O0 : Addr → HO) (r : AddR) (wi : TI) (g : TG) (tt : TT) (wi1 : TI) (g1 : TG) (tt1 : TT) (te : TE) (vs vs1 : List Nat) : TE := fun σ H Q =>
  wi σ H fun J H1 => ∀ D, H1 D = none → tCl g tt (tInn r wi1 g1 tt1 te vs1 D) vs σ (fun G => Q (.ref D) G) J (upd H1 D (O0 D))
abbrev freshSet (w : World) : Obj := { cls := .type "set", dict := none, data := .set #[] 0 (.fresh 0 0 (!w.params.followText "set-order")) }
theorem ev_sc (elt : Expr) (gs : List Comprehension) (scope : Scope) (pos : Pos) (env : Env) : eval (.SetComp elt gs scope pos) env = comprehension (.SetComp elt gs scope pos) scope env (firstIterPos gs pos) (newSet (.type "set")) (firstAsync gs) (firstIter gs env) := rfl
section
variable {X : Cx} {O0 : Addr → HO} {r : AddR} {elt t0 i0 t1 i1 : Expr} {if0 if1 : List Expr} {scope : Scope} {own : List (Str × Nat)} {vs1 : List Nat} {pos : Pos} {wi wi1 : TI} {g g1 : TG} {tt tt1 : TT} {te : TE}
/-- what stands in the block, in its context -/
abbrev InBlk (X : Cx) (scope : Scope) (p : Cx → Prop) : Prop := ∀ (s : Shared) (H : Hp) (C : Addr) (cl : List (Str × Addr)) (fp : List Addr), p (X.blk s H scope (compEnvC scope cl C X.env) fp)
/-- put in: the rest of a turn -/
theorem add_ok {Y : Cx} {D : Addr} {vs : List Nat} (hx : Y.xe = F0) (he : PE Y elt te) (ha : MtR Y "set.add" r) (pl : List (Addr × Obj)) (s : Shared) (τ : L2.St) (G : Hp) (N : Hp → Prop) (I : Inv Y pl τ G s) (q : tAdd r te D τ G N) :
    bAdd Y.prog Y.w Y.A elt Y.env (.ref D) (fun s2 => ∃ τ' G', Inv Y pl τ' G' s2 ∧ Kp vs τ τ' ∧ N G') s := by
  have a1 := he.run pl s τ G _ I q
  rw [hx] at a1
  refine wpAny_mono a1 (fun u s1 ⟨y, G1, I1, r1, q1⟩ => ?_) fun _ _ z => z
  have a2 := ha pl s1 τ G1 (.ref D) [y] (.ref D) [u] _ I1 rfl (.cons r1 .nil) q1
  rw [hx] at a2
  exact wpAny_mono a2 (fun _ s2 ⟨z, G2, I2, r2, q2⟩ => ⟨τ, G2, I2, Kp.refl _ _, q2⟩) fun _ _ z => z
/-- the second clause: the rest of a turn of the first -/
theorem inn_ok {Y : Cx} {D : Addr} {vs : List Nat} (hc : Y.calm = true) (hx : Y.xe = F0) (hv : ∀ i ∈ vs1, i ∈ vs) (hi1 : PI Y t1 i1 wi1) (hg1 : PG Y t1 g1) (ht1 : PTs Y if1 tt1) (he : PE Y elt te) (ha : MtR Y "set.add" r)
    (pl : List (Addr × Obj)) (s : Shared) (τ : L2.St) (G : Hp) (N : Hp → Prop) (I : Inv Y pl τ G s) (q : tInn r wi1 g1 tt1 te vs1 D τ G N) :
    bIn Y.prog Y.w Y.A (sc2 elt t0 i0 t1 i1 if0 if1 scope pos) i1 Y.env (.ref D) (fun s2 => ∃ τ' G', Inv Y pl τ' G' s2 ∧ Kp vs τ τ' ∧ N G') s := by
  have a1 := hi1.run pl s τ G _ I q
  rw [hx] at a1
  refine wpAny_mono a1 (fun u s1 a2 => wpAny_mono a2 (fun j s2 h2 => ?_) fun _ _ z => z) fun _ _ z => z
  obtain ⟨it, fp, tn, J, G1, e, I1, T, st, fr, q1⟩ := h2
  subst e
  have run := cl_run (R := fun rr s' => match rr with
      | .ok _ => ∃ τ' G', Inv Y pl τ' G' s' ∧ Kp vs τ τ' ∧ N G'
      | .error _ => False) hc hx (cl_add2 (elt := elt) (t0 := t0) (i0 := i0) (i1 := i1) (if0 := if0) (scope := scope) (pos := pos) (acc := .ref D)) T hg1 ht1
    (fun pl' s' τ' G' N' I' _ q' => add_ok (vs := vs1) hx he ha pl' s' τ' G' N' I' q') (I1.weak (wipe_length _ _) fun i v e => (wipe_some e).1) fr st q1
    fun s' G' I' _ z => ⟨_, G', I', Kp.wipe hv τ, z⟩
  exact start2 run (T.self Y.A 0 _ _ _ st run)
/-- from the block's loop to the def's context -/
theorem blk_ok {e : Expr} (hcl : ∃ gs, e = .SetComp elt (⟨t0, i0, if0, 0⟩ :: gs) scope pos) (hN : X.N.Nodup) (hi : PI X t0 i0 wi) (ok : BlkOk X.N X.env.scope scope own)
    (new : ∀ (H : Hp) (h : Heap), ObjOk X.prog X.w H (h.push (freshSet X.w)) h.objs.size (O0 h.objs.size)) {tb : Addr → L2.St → Hp → (Hp → Prop) → Prop}
    (loop : ∀ (s : Shared) (H : Hp) (C : Addr) (cl : List (Str × Addr)) (fp : List Addr) (it : Addr) (tn : Nat → Heap → Prop) (J : It) (D : Addr) (σ : L2.St) (s1 : Shared) (Z : Hp → Prop) (R : Result → Shared → Prop),
      Inv (X.blk s H scope (compEnvC scope cl C X.env) fp) [] (wipe σ (own.map (·.2))) H s1 → Turn X.prog X.w X.K t0 J fp it tn → (∀ b ∈ fp, FpOk (X.blk s H scope (compEnvC scope cl C X.env) fp) [] H b) → tn 0 s1.heap → tCl g tt (tb D) (own.map (·.2)) σ Z J H →
      (∀ s' G, Inv (X.blk s H scope (compEnvC scope cl C X.env) fp) [] (wipe σ (own.map (·.2))) G s' → Z G → R (.ok .next) s') → codeAny (model X.prog X.w) X.A (.compLoop e 0 (.ref it) (.ref D) (compEnvC scope cl C X.env)) R s1)
    (hs : ∀ x, foldedSetIterable i0 X.env x = pure x) : PE X e (fun σ H Q => wi σ H fun J H1 => ∀ D, H1 D = none → tCl g tt (tb D) (own.map (·.2)) σ (fun G => Q (.ref D) G) J (upd H1 D (O0 D))) := by
  obtain ⟨gs, rfl⟩ := hcl
  refine ⟨fun pins s σ H Q I h => ?_⟩
  rw [ev_sc]
  have hfree : ∀ y ∈ scope.names, y.2 = .free → ∃ c, X.env.cells.lookup y.1 = some c := fun y hy e => I.ok.has _ (ok.free y hy e)
  refine wpAny_comprehension_free (use := none) rfl hs (closure_ok hfree) ok.kind (fun y hy e => by rw [ok.uniq y hy, e]) (thn (hi.run pins s σ H _ I h) fun xv s1 hx => thn hx fun itv s2 h2 => ?_)
  obtain ⟨it, fp, tn, J, H2, e, I2, T, st, fr, q⟩ := h2
  subst e
  refine PpSet.newSet_ok (newEnv_comp ?_)
  have hDn : H2 s2.heap.objs.size = none := I2.hok.fresh (Nat.le_refl _)
  have q0 := q _ hDn
  generalize hD : s2.heap.objs.size = D at hDn q0
  have I3 : Inv X pins σ (upd H2 D (O0 D)) { s2 with heap := s2.heap.push (freshSet X.w) } :=
    I2.laid (t' := s2.toks) (fun b o e => Heap.get?_push_of_some _ e) (Nat.le_of_eq hD) (hD ▸ new _ _)
  generalize h3 : ({ s2 with heap := s2.heap.push (freshSet X.w) } : Shared) = s3 at I3
  have e3 : s3.heap = s2.heap.push (freshSet X.w) := by rw [← h3]
  have lt : ∀ b ∈ fp, b < s2.heap.objs.size := fun b hb => by
    obtain ⟨o, e, _⟩ := T.obj _ _ st b hb
    exact Heap.lt_size e
  have fr3 : ∀ b ∈ fp, FpOk X pins (upd H2 D (O0 D)) b ∧ b < s3.heap.objs.size := fun b hb => by
    have l := lt b hb
    refine ⟨⟨?_, (fr b hb).2⟩, by rw [e3, Heap.size_push]; exact Nat.lt_succ_of_lt l⟩
    rw [upd_ne (by rw [← hD]; exact Nat.ne_of_lt l)]
    exact (fr b hb).1
  have st3 : tn 0 s3.heap := T.keep _ _ _ st fun b _ o e => by rw [e3]; exact Heap.get?_push_of_some _ e
  have I4 := block_start I3 ok hN fr3
  have st4 : tn 0 (pushCells (s3.heap.push { cls := .type "dict", data := .dict #[] }) scope.names) := T.keep _ _ _ st3 fun b _ o e => pushCells_keeps _ _ _ _ (Heap.get?_push_of_some _ e)
  have fr4 : ∀ b ∈ fp, FpOk (X.blk s3 (upd H2 D (O0 D)) scope (compEnvC scope (cellsFrom (s3.heap.objs.size + 1) scope.names (cloFrom X.env.cells scope.names [])) s3.heap.objs.size X.env) fp) [] (upd H2 D (O0 D)) b := fun b hb =>
    ⟨(fr3 b hb).1.1, (I4.ok.exf b hb).1, I4.ok.exfs b hb, .inl hb, fun x c e => (I4.ok.exf b hb).2 x c e, fun p hp => absurd (show p ∈ ([] : List (Addr × Obj)) ++ [] from hp) (by simp)⟩
  have run := loop s3 (upd H2 D (O0 D)) _ _ fp it tn J D σ _ _ (compPost (model X.prog X.w) X.A X.xe none (EP X pins σ Q) (.ref D) s3.heap.objs.size) I4 T fr4 st4 q0 fun s' G I' z => by
    have I7 : Inv X pins σ G s' := I3.call' (ch := fp) I'.os I'.base I'.hok I'.bare fun b hb => ⟨(fr3 b hb).1.2.2.2.1, (fr3 b hb).1.2.1, (fr3 b hb).1.2.2.2.2.1, (fr3 b hb).1.2.2.2.2.2⟩
    have nC : G s3.heap.objs.size = none := I'.free
    obtain ⟨m, hm, _⟩ := I'.loc
    obtain ⟨f0, f1, f2, f3, f4, f5⟩ := I3.fpOk (Nat.le_refl _) nC
    exact ⟨m, hm, fun h' sb => ⟨.ref D, G, I7.turned (t' := s'.toks) (fun b o hb e => (sb.2 b hb).trans e) f0 f1 f3 f4 f5, rfl, z⟩⟩
  have fin := PpSet.codeAny_compStart_set run (T.self X.A 0 _ _ _ st4 run)
  subst h3
  subst hD
  exact fin
end
end KB
set_option Elab.async false
set_option linter.all false
set_option maxRecDepth 100000
set_option maxHeartbeats 4000000
namespace KB
open PySem PySem.Spec PyProof.Rows L2
section
variable {X : Cx} {O0 : Addr → HO} {r : AddR} {elt t0 i0 t1 i1 : Expr} {if0 if1 : List Expr} {scope : Scope} {own : List (Str × Nat)} {vs1 : List Nat} {pos : Pos} {wi wi1 : TI} {g g1 : TG} {tt tt1 : TT} {te : TE}
theorem pe_sc1R (hc : X.calm = true) (hN : X.N.Nodup) (hi : PI X t0 i0 wi) (ok : BlkOk X.N X.env.scope scope own) (hg : ∀ (s : Shared) (H : Hp) (C : Addr) (cl : List (Str × Addr)) (fp : List Addr), PG (X.blk s H scope (compEnvC scope cl C X.env) fp) t0 g) (ht : ∀ (s : Shared) (H : Hp) (C : Addr) (cl : List (Str × Addr)) (fp : List Addr), PTs (X.blk s H scope (compEnvC scope cl C X.env) fp) if0 tt) (he : ∀ (s : Shared) (H : Hp) (C : Addr) (cl : List (Str × Addr)) (fp : List Addr), PE (X.blk s H scope (compEnvC scope cl C X.env) fp) elt te)
    (new : ∀ (H : Hp) (h : Heap), ObjOk X.prog X.w H (h.push (freshSet X.w)) h.objs.size (O0 h.objs.size)) (ha : ∀ (s : Shared) (H : Hp) (C : Addr) (cl : List (Str × Addr)) (fp : List Addr), MtR (X.blk s H scope (compEnvC scope cl C X.env) fp) "set.add" r) (hs : ∀ x, foldedSetIterable i0 X.env x = pure x := by intro _; rfl) :
    PE X (sc1 elt t0 i0 if0 scope pos) (tSc1 O0 r wi g tt te (own.map (·.2))) :=
  blk_ok (tb := fun D => tAdd r te D) ⟨_, rfl⟩ hN hi ok new (fun s H C cl fp it tn J D σ s1 Z R I T fr st q k =>
    cl_run (X := X.blk s H scope (compEnvC scope cl C X.env) fp) hc rfl (cl_add1 (elt := elt) (i0 := i0) (scope := scope) (pos := pos) (acc := .ref D)) T (hg s H C cl fp) (ht s H C cl fp)
      (fun pl s' τ G N I' _ q' => add_ok (Y := X.blk s H scope (compEnvC scope cl C X.env) fp) rfl (he s H C cl fp) (ha s H C cl fp) pl s' τ G N I' q') I fr st q fun s' G I' _ z => k s' G I' z) hs
theorem pe_sc2R (hc : X.calm = true) (hN : X.N.Nodup) (hi : PI X t0 i0 wi) (ok : BlkOk X.N X.env.scope scope own) (hv : ∀ i ∈ vs1, i ∈ own.map (·.2)) (hg : ∀ (s : Shared) (H : Hp) (C : Addr) (cl : List (Str × Addr)) (fp : List Addr), PG (X.blk s H scope (compEnvC scope cl C X.env) fp) t0 g) (ht : ∀ (s : Shared) (H : Hp) (C : Addr) (cl : List (Str × Addr)) (fp : List Addr), PTs (X.blk s H scope (compEnvC scope cl C X.env) fp) if0 tt)
    (hi1 : ∀ (s : Shared) (H : Hp) (C : Addr) (cl : List (Str × Addr)) (fp : List Addr), PI (X.blk s H scope (compEnvC scope cl C X.env) fp) t1 i1 wi1) (hg1 : ∀ (s : Shared) (H : Hp) (C : Addr) (cl : List (Str × Addr)) (fp : List Addr), PG (X.blk s H scope (compEnvC scope cl C X.env) fp) t1 g1) (ht1 : ∀ (s : Shared) (H : Hp) (C : Addr) (cl : List (Str × Addr)) (fp : List Addr), PTs (X.blk s H scope (compEnvC scope cl C X.env) fp) if1 tt1) (he : ∀ (s : Shared) (H : Hp) (C : Addr) (cl : List (Str × Addr)) (fp : List Addr), PE (X.blk s H scope (compEnvC scope cl C X.env) fp) elt te)
    (new : ∀ (H : Hp) (h : Heap), ObjOk X.prog X.w H (h.push (freshSet X.w)) h.objs.size (O0 h.objs.size)) (ha : ∀ (s : Shared) (H : Hp) (C : Addr) (cl : List (Str × Addr)) (fp : List Addr), MtR (X.blk s H scope (compEnvC scope cl C X.env) fp) "set.add" r) (hs : ∀ x, foldedSetIterable i0 X.env x = pure x := by intro _; rfl) (hs1 : ∀ env x, foldedSetIterable i1 env x = pure x := by intro _ _; rfl) :
    PE X (sc2 elt t0 i0 t1 i1 if0 if1 scope pos) (tSc2 O0 r wi g tt wi1 g1 tt1 te (own.map (·.2)) vs1) :=
  blk_ok (tb := fun D => tInn r wi1 g1 tt1 te vs1 D) ⟨_, rfl⟩ hN hi ok new (fun s H C cl fp it tn J D σ s1 Z R I T fr st q k =>
    cl_run (X := X.blk s H scope (compEnvC scope cl C X.env) fp) hc rfl (cl_in (elt := elt) (t0 := t0) (i0 := i0) (t1 := t1) (if0 := if0) (if1 := if1) (scope := scope) (pos := pos) (acc := .ref D) (hs1 _)) T (hg s H C cl fp) (ht s H C cl fp)
      (fun pl s' τ G N I' _ q' => inn_ok (Y := X.blk s H scope (compEnvC scope cl C X.env) fp) hc rfl hv (hi1 s H C cl fp) (hg1 s H C cl fp) (ht1 s H C cl fp) (he s H C cl fp) (ha s H C cl fp) pl s' τ G N I' q') I fr st q fun s' G I' _ z => k s' G I' z) hs
/-- of ints -/
theorem pe_sc1I (hc : X.calm = true) (hN : X.N.Nodup) (hi : PI X t0 i0 wi) (ok : BlkOk X.N X.env.scope scope own) (hg : ∀ (s : Shared) (H : Hp) (C : Addr) (cl : List (Str × Addr)) (fp : List Addr), PG (X.blk s H scope (compEnvC scope cl C X.env) fp) t0 g) (ht : ∀ (s : Shared) (H : Hp) (C : Addr) (cl : List (Str × Addr)) (fp : List Addr), PTs (X.blk s H scope (compEnvC scope cl C X.env) fp) if0 tt) (he : ∀ (s : Shared) (H : Hp) (C : Addr) (cl : List (Str × Addr)) (fp : List Addr), PE (X.blk s H scope (compEnvC scope cl C X.env) fp) elt te) (hs : ∀ x, foldedSetIterable i0 X.env x = pure x := by intro _; rfl) :
    PE X (sc1 elt t0 i0 if0 scope pos) (tSc1 (fun D => SetO X.w D (fun _ => false) 0) (rSAdd X.w) wi g tt te (own.map (·.2))) :=
  pe_sc1R hc hN hi ok hg ht he (fun _ _ => setO_new (setR_fresh X.w)) (fun _ _ _ _ _ => mt_sadd) hs
theorem pe_sc2I (hc : X.calm = true) (hN : X.N.Nodup) (hi : PI X t0 i0 wi) (ok : BlkOk X.N X.env.scope scope own) (hv : ∀ i ∈ vs1, i ∈ own.map (·.2)) (hg : ∀ (s : Shared) (H : Hp) (C : Addr) (cl : List (Str × Addr)) (fp : List Addr), PG (X.blk s H scope (compEnvC scope cl C X.env) fp) t0 g) (ht : ∀ (s : Shared) (H : Hp) (C : Addr) (cl : List (Str × Addr)) (fp : List Addr), PTs (X.blk s H scope (compEnvC scope cl C X.env) fp) if0 tt)
    (hi1 : ∀ (s : Shared) (H : Hp) (C : Addr) (cl : List (Str × Addr)) (fp : List Addr), PI (X.blk s H scope (compEnvC scope cl C X.env) fp) t1 i1 wi1) (hg1 : ∀ (s : Shared) (H : Hp) (C : Addr) (cl : List (Str × Addr)) (fp : List Addr), PG (X.blk s H scope (compEnvC scope cl C X.env) fp) t1 g1) (ht1 : ∀ (s : Shared) (H : Hp) (C : Addr) (cl : List (Str × Addr)) (fp : List Addr), PTs (X.blk s H scope (compEnvC scope cl C X.env) fp) if1 tt1) (he : ∀ (s : Shared) (H : Hp) (C : Addr) (cl : List (Str × Addr)) (fp : List Addr), PE (X.blk s H scope (compEnvC scope cl C X.env) fp) elt te)
    (hs : ∀ x, foldedSetIterable i0 X.env x = pure x := by intro _; rfl) (hs1 : ∀ env x, foldedSetIterable i1 env x = pure x := by intro _ _; rfl) :
    PE X (sc2 elt t0 i0 t1 i1 if0 if1 scope pos) (tSc2 (fun D => SetO X.w D (fun _ => false) 0) (rSAdd X.w) wi g tt wi1 g1 tt1 te (own.map (·.2)) vs1) :=
  pe_sc2R hc hN hi ok hv hg ht hi1 hg1 ht1 he (fun _ _ => setO_new (setR_fresh X.w)) (fun _ _ _ _ _ => mt_sadd) hs hs1
end
/-- a clause over what a Walk tells: I holds ahead of each turn -/
theorem cl_walk {J : It} {n : Nat} {G0 : Hp → Prop} {Y : Nat → Hp → V → Hp → Prop} {g : TG} {tt : TT} {tb : L2.St → Hp → (Hp → Prop) → Prop} {vs : List Nat} {σ : L2.St} {Z : Hp → Prop} {H : Hp} (w : Walk J n G0 Y) (I : Nat → Hp → Prop) (h0 : I 0 H) (hp : ∀ i G, i ≤ n → I i G → G0 G)
    (turn : ∀ (i : Nat) (x : V) (G G' : Hp), i < n → I i G → Y i G x G' → g x (wipe σ vs) G' fun σ2 H2 => wipe σ2 vs = wipe σ vs ∧ tt σ2 H2 fun b H3 => if b = true then tb σ2 H3 (I (i + 1)) else I (i + 1) H3) (fin : ∀ G, I n G → Z G) :
    tCl g tt tb vs σ Z J H := by
  refine ⟨fun i m G => m = n - i ∧ i ≤ n ∧ I i G, ⟨n, by simp, Nat.zero_le _, h0⟩, ?_⟩
  rintro i m G ⟨rfl, hi, z⟩
  by_cases lt : i < n
  · exact .inr ⟨w.goes i G lt (hp i G hi z), I (i + 1), fun G' z' => ⟨n - (i + 1), by omega, rfl, lt, z'⟩, fun x G' y => turn i x G G' lt z (w.yields i G x G' lt (hp i G hi z) y)⟩
  · obtain rfl : i = n := by omega
    exact .inl ⟨w.stops G (hp i G hi z), fin G z⟩
end KB
set_option Elab.async false
set_option linter.all false
set_option maxRecDepth 100000
set_option maxHeartbeats 4000000
/-! max(xs, default=d), xs a list of ints. -/
namespace KB
open PySem PySem.Spec PyProof.Rows L2
def kwD (dv : Value) : List (Str × Value) := [(Str.ofString "default", dv)]
abbrev mxC (J S : Addr) (dv : Value) : Code := .builtin "max.loop" ⟨[.ref J, .none, .ref S], kwD dv⟩
section
variable {prog : Program} {w : World} {A : Around} {R : Result → Shared → Prop} {J S : Addr} {fq wq : List Addr} {N : Nat} {Iv : Nat → Value → Prop} {Sv : Nat → Heap → Prop} {dv : Value}
theorem mx_name : (toString "max" ++ toString ".loop" : String) = "max.loop" := by decide
/-- what is promised of the end -/
def MxEnd (R : Result → Shared → Prop) (S : Addr) (wq : List Addr) (G : Value → Prop) (s : Shared) : Prop :=
  ∀ (v : Value) (h' : Heap) (tk : Nat), G v → (∀ (b : Addr) (o : Obj), b ∉ wq → b ≠ S → s.heap.get? b = some o → h'.get? b = some o) → R (.ok (.ret v)) { s with heap := h', toks := tk }
theorem MxEnd.on {G : Value → Prop} {s : Shared} {h1 : Heap} {t1 : Nat} (m : MxEnd R S wq G s) (k : ∀ (b : Addr) (o : Obj), b ∉ wq → b ≠ S → s.heap.get? b = some o → h1.get? b = some o) : MxEnd R S wq G { s with heap := h1, toks := t1 } :=
  fun v h' tk g kk => m v h' tk g fun b o n1 n2 e => kk b o n1 n2 (k b o n1 n2 e)
theorem mx_turns (Wk : Walks prog w A.in1 J fq wq N Iv Sv) (bt : Nat → Nat → Bool) (C : CmpOf prog w A.in1 .Gt Iv bt) (nS : S ∉ fq) (d : Nat) : ∀ (i : Nat) (s : Shared) (u : Value) (cap : Nat), N = (i + 1) + d → Sv (i + 1) s.heap → Iv (argBest bt i) u →
    s.heap.get? S = some { cls := .type "list", dict := none, data := .seq #[u, u] cap, slots := #[] } → MxEnd R S wq (Iv (argBest bt (N - 1))) s → codeAny (model prog w) A (mxC J S dv) R s := by
  have nw : S ∉ wq := fun m => nS (Wk.sub _ m)
  induction d with
  | zero =>
    intro i s u cap hN hSt hI hS hE
    have eN : i + 1 = N := by omega
    refine codeAny_builtin PySem.F.entry_max_loop ?_
    rw [Around.under_plainId PySem.F.plain_max_loop _]
    show wpAny _ A.in1 (seqItems? (.ref S) >>= _) _ _ s
    refine wpAny_bind (wpAny_seqItems hS rfl ?_)
    show wpAny _ A.in1 (tryCatch (pyNext (.ref J)) _ >>= _) _ _ s
    refine wpAny_bind (wpAny_tryCatch (Wk.done s _ _ (by rw [← eN]; exact hSt) fun h1 t1 k1 => ?_))
    have hS1 := k1 S _ nw hS
    show wpAny _ A.in1 (updateSeq S (fun _ => #[]) >>= _) _ _ _
    refine wpAny_bind (wpAny_updateSeq hS1 rfl (wpAny_bind (wpAny_letGo (wpAny_pure ?_))))
    refine hE u _ t1 (by rw [← eN]; exact hI) fun b o n1 n2 e => ?_
    exact (Heap.get?_update_other _ _ (Ne.symm n2)).trans (k1 b o n1 e)
  | succ d ih =>
    intro i s u cap hN hSt hI hS hE
    have hi : i + 1 < N := by omega
    refine codeAny_builtin PySem.F.entry_max_loop ?_
    rw [Around.under_plainId PySem.F.plain_max_loop _]
    show wpAny _ A.in1 (seqItems? (.ref S) >>= _) _ _ s
    refine wpAny_bind (wpAny_seqItems hS rfl ?_)
    show wpAny _ A.in1 (tryCatch (pyNext (.ref J)) _ >>= _) _ _ s
    refine wpAny_bind (wpAny_tryCatch (Wk.item (i + 1) s _ _ hi hSt fun v h1 t1 hv hSt1 k1 => ?_))
    have hS1 := k1 S _ nw hS
    show wpAny _ A.in1 (tryCatch (holding [v, v] (richCompare .Gt v u >>= _)) _ >>= _) _ _ _
    refine wpAny_bind (wpAny_tryCatch (wpAny_holding (wpAny_bind (C (i + 1) (argBest bt i) v u _ _ _ hv hI ?_))))
    refine wpAny_bind (wpAny_holding (wpAny_truthy_bool (wpAny_bind (wpAny_letGo (wpAny_pure ?_)))))
    cases q : bt (i + 1) (argBest bt i) with
    | true =>
      have eB : argBest bt (i + 1) = i + 1 := by simp only [argBest, q, if_true]
      simp only [if_true]
      refine wpAny_bind (wpAny_updateSeq hS1 rfl (wpAny_bind (wpAny_letGo ?_)))
      rw [mx_name]
      refine wpAny_pure ⟨plainId_quiet PySem.F.plain_max_loop _, ih (i + 1) _ v _ (by omega) (Wk.frame _ _ _ hSt1 fun b hb o e => ?_) (by rw [eB]; exact hv) (Heap.get?_update_self _ hS1 rfl) (hE.on fun b o n1 n2 e => ?_)⟩
      · exact (Heap.get?_update_other _ _ (fun z : S = b => nS (z ▸ hb))).trans e
      · exact (Heap.get?_update_other _ _ (Ne.symm n2)).trans (k1 b o n1 e)
    | false =>
      have eB : argBest bt (i + 1) = argBest bt i := by simp only [argBest, q, Bool.false_eq_true, if_false]
      simp only [Bool.false_eq_true, if_false]
      refine wpAny_bind (wpAny_letGo ?_)
      rw [mx_name]
      exact wpAny_pure ⟨plainId_quiet PySem.F.plain_max_loop _, ih (i + 1) _ u cap (by omega) hSt1 (by rw [eB]; exact hI) hS1 (hE.on fun b o n1 n2 e => k1 b o n1 e)⟩
/-- from the first turn on -/
theorem mx_first (Wk : Walks prog w A.in1 J fq wq N Iv Sv) (bt : Nat → Nat → Bool) (C : CmpOf prog w A.in1 .Gt Iv bt) (nS : S ∉ fq) {s : Shared} {cap : Nat} (hSt : Sv 0 s.heap)
    (hS : s.heap.get? S = some { cls := .type "list", dict := none, data := .seq #[] cap, slots := #[] }) (h0 : N = 0 → MxEnd R S wq (fun v => v = dv) s) (h1 : 0 < N → MxEnd R S wq (Iv (argBest bt (N - 1))) s) : codeAny (model prog w) A (mxC J S dv) R s := by
  have nw : S ∉ wq := fun m => nS (Wk.sub _ m)
  refine codeAny_builtin PySem.F.entry_max_loop ?_
  rw [Around.under_plainId PySem.F.plain_max_loop _]
  show wpAny _ A.in1 (seqItems? (.ref S) >>= _) _ _ s
  refine wpAny_bind (wpAny_seqItems hS rfl ?_)
  show wpAny _ A.in1 (tryCatch (pyNext (.ref J)) _ >>= _) _ _ s
  rcases Nat.eq_zero_or_pos N with e | hN
  · refine wpAny_bind (wpAny_tryCatch (Wk.done s _ _ (by rw [e]; exact hSt) fun h' tk k' => ?_))
    show wpAny _ A.in1 (rule (toString "max" ++ toString ".default") >>= fun _ => ret dv) _ _ _
    refine wpAny_bind (wpAny_rule ?_)
    exact wpAny_pure (h0 e dv h' tk rfl fun b o n1 n2 ee => k' b o n1 ee)
  · refine wpAny_bind (wpAny_tryCatch (Wk.item 0 s _ _ hN hSt fun v h' tk hv hSt1 k' => ?_))
    have hS1 := k' S _ nw hS
    show wpAny _ A.in1 (updateSeq S (fun _ => #[v, v]) >>= _) _ _ _
    refine wpAny_bind (wpAny_updateSeq hS1 rfl ?_)
    rw [mx_name]
    refine wpAny_pure ⟨plainId_quiet PySem.F.plain_max_loop _, mx_turns Wk bt C nS (N - 1) 0 _ v _ (by omega) (Wk.frame _ _ _ hSt1 fun b hb o e => ?_) hv (Heap.get?_update_self _ hS1 rfl) ((h1 hN).on fun b o n1 n2 e => ?_)⟩
    · exact (Heap.get?_update_other _ _ (fun z : S = b => nS (z ▸ hb))).trans e
    · exact (Heap.get?_update_other _ _ (Ne.symm n2)).trans (k' b o n1 e)
end
section
variable {prog : Program} {w : World} {A : Around} {E : Value → Shared → Prop} {s : Shared} {l : Addr}
theorem mx_args (a v : Value) : argsOk "max" ⟨[a], kwD v⟩ := by unfold argsOk kwD; kernel_rfl
theorem max_dflt {xs : Array (Int × Tok)} {dv : Value} {Q : Value → Shared → Prop} (hh : A.handled = none) (hl : s.heap.IsList l (intItems xs))
    (k0 : xs.size = 0 → ∀ h' tk, (∀ b o, s.heap.get? b = some o → h'.get? b = some o) → Q dv { s with heap := h', toks := tk })
    (k1 : 0 < xs.size → ∀ v h' tk, (intItems xs)[argBest (fun i j => decide (numAt xs i > numAt xs j)) (xs.size - 1)]? = some v → (∀ b o, s.heap.get? b = some o → h'.get? b = some o) → Q v { s with heap := h', toks := tk }) :
    wpAny (model prog w) A (call (.builtin "max") [.ref l] (kwD dv)) Q E s := by
  have fin : wpAny (model prog w) A.in1 (Builtin.«max» ⟨[.ref l], kwD dv⟩) (fun z s' => match z with
      | .done f => (match (Except.ok f : Result) with | .ok (.ret v) => Q v s' | .ok _ => False | .error e => E e s')
      | .again c' => c'.quiet = true ∧ codeAny (model prog w) A c' (fun r s' => match r with | .ok (.ret v) => Q v s' | .ok _ => False | .error e => E e s') s') E s := by
    show wpAny _ A.in1 (Builtin.Builtins.bindParams "max" ["key", "default"] 0 ⟨[], kwD dv⟩ >>= _) _ _ s
    refine wpAny_bind (wpAny_of_eq (show Builtin.Builtins.bindParams "max" ["key", "default"] 0 ⟨[], kwD dv⟩ = pure [none, some dv] from rfl) ?_)
    refine wpAny_bind (wpAny_pure ?_)
    refine wpAny_bind (iter_intList hl fun s2 e hI hlt ne => ?_)
    subst e
    refine wpAny_bind (wpAny_newObj_type ?_)
    rw [mx_name]
    have nS : s.heap.objs.size + 1 ∉ [s.heap.objs.size, l] := fun m => by
      have hl' : l < s.heap.objs.size := by
        obtain ⟨_, e, _⟩ := hl
        exact Heap.lt_size e
      rcases List.mem_cons.mp m with e | m
      · exact absurd e (Nat.succ_ne_self _)
      · rw [List.mem_singleton] at m
        rw [← m] at hl'
        exact Nat.lt_irrefl _ (Nat.lt_of_succ_lt hl')
    have sz : (s.heap.push { cls := .type "list_iterator", data := .fields #[.ref l, .int 0 0] }).objs.size = s.heap.objs.size + 1 := Heap.size_push ..
    have Wk := Walks.list (prog := prog) (w := w) (A := A.in1) hh s.heap.objs.size l ne (intItems xs)
    have old : ∀ (b : Addr) (o : Obj), s.heap.get? b = some o → b ∉ [s.heap.objs.size] ∧ b ≠ s.heap.objs.size + 1 := fun b o e => by
      have := Heap.lt_size e
      refine ⟨fun m => ?_, Nat.ne_of_lt (Nat.lt_succ_of_lt this)⟩
      rw [List.mem_singleton] at m
      exact Nat.ne_of_lt this m
    refine wpAny_pure ⟨plainId_quiet PySem.F.plain_max_loop _, ?_⟩
    rw [sz]
    refine mx_first (S := s.heap.objs.size + 1) (dv := dv) Wk (fun i j => decide (numAt xs i > numAt xs j)) (CmpOf.ints_gt (numAt xs) fun _ _ => intItems_at) nS (Wk.frame _ _ _ hI fun b _ o e => Heap.get?_push_of_some _ e) (by rw [← sz]; exact Heap.get?_push_size _ rfl) (fun h0 v h' tk g k => ?_) (fun h1 v h' tk g k => ?_)
    · subst g
      exact k0 (by simpa [intItems] using h0) h' tk fun b o e => k b o (old b o e).1 (old b o e).2 (Heap.get?_push_of_some _ (Heap.get?_push_of_some _ e))
    · exact k1 (by simpa [intItems] using h1) v h' tk (by simpa [intItems] using g) fun b o e => k b o (old b o e).1 (old b o e).2 (Heap.get?_push_of_some _ (Heap.get?_push_of_some _ e))
  refine wpAny_call (codeAny_call_builtin PySem.F.plain_max PySem.F.entry_max ?_)
  simp only [checkBuiltinCall, PySem.F.kind_max]
  cases q : Manifest.signature? "max" with
  | none => exact wpAny_pure fin
  | some sig =>
    have ha := mx_args (.ref l) dv
    simp only [argsOk, q] at ha
    show wpAny _ A.in1 (Bind.checkArgs "max" sig ⟨[.ref l], kwD dv⟩) _ _ s
    rw [show Bind.checkArgs "max" sig ⟨[.ref l], kwD dv⟩ = pure () from ha]
    exact wpAny_pure fin
end
section
variable {X : Cx}
/-- max(xs, default=d) -/
def rMaxDf (K : PySem.W.Frag) : List V → List V → Hp → VK → Prop := fun vs zs H Q => ∃ (a : Addr) (ns : List Int) (d : Int), vs = [.ref a] ∧ zs = [.int d] ∧ SqL K H a (ns.map V.int) ∧ ∀ m : Int, (ns = [] → m = d) → (ns ≠ [] → m ∈ ns ∧ ∀ y ∈ ns, y ≤ m) → Q (.int m) H
theorem cr_maxDf (hc : X.calm = true) : CallRK X (.builtin "max") [Str.ofString "default"] (rMaxDf X.K) := by
  intro pins s σ H vs zs us ws Q I r rz h
  obtain ⟨a, ns, d, rfl, rfl, hs, q⟩ := h
  obtain ⟨dv, rfl, rd⟩ := rz.one
  obtain ⟨its, rv, hl, _⟩ := I.list hs
  rw [Vals.ref1 r]
  obtain ⟨xs, e⟩ := rv.ints.allInts.items
  have hn : numsOf (intItems xs).toList = ns := by
    rw [← e]
    exact rv.ints.numsOf
  rw [nums_intItems] at hn
  have hl' := hl.isList
  rw [e] at hl'
  have ln : ns.length = xs.size := by rw [← hn, List.length_map, Array.length_toList]
  refine max_dflt (I.ok.hd hc) hl' (fun h0 h' tk k => ?_) (fun h1 v h' tk hv k => ?_)
  · have e0 : ns = [] := List.eq_nil_of_length_eq_zero (by omega)
    exact ⟨.int d, H, I.kept k, rd, q d (fun _ => rfl) fun z => absurd e0 z⟩
  · obtain ⟨t, rfl⟩ := intItems_at hv
    obtain ⟨b1, b2⟩ := argBest_gt (numAt xs) (xs.size - 1)
    have ne : ns ≠ [] := fun z => by
      rw [z] at ln
      simp at ln
      omega
    refine ⟨.int _, H, I.kept k, ⟨_, rfl⟩, q _ (fun z => absurd z ne) fun _ => ⟨?_, fun y hy => ?_⟩⟩
    · rw [numAt_eq, hn]
      exact PySem.getD_mem (by omega)
    · obtain ⟨j, hj, rfl⟩ := mem_getD hy
      rw [← hn, ← numAt_eq]
      exact b2 j (by omega)
end
end KB
set_option Elab.async false
set_option linter.all false
set_option maxRecDepth 100000
set_option maxHeartbeats 4000000
/-! Words, deeds, logs as data. -/
namespace K27
open PySem PySem.Spec PyProof.Rows L2 KB
structure FreeS (mg : Str → Option Value) : Prop extends Free mg where
  tstr : mg "str" = none
  sorted : mg "sorted" = none
def abc : List Nat := (List.range 26).map (· + 97)
def wordS (z : Str) : Bool := decide (1 ≤ z.length ∧ z.length ≤ 8) && z.cps.toList.all fun c => decide (c ∈ abc)
mutual
/-- words of a deed: counts, words, None, tuples of these -/
def okW : PyData → Bool
  | .none => true
  | .int i => decide (0 ≤ i)
  | .str z => wordS z
  | .tuple ds => okWs ds
  | _ => false
def okWs : List PyData → Bool
  | [] => true
  | d :: ds => okW d && okWs ds
end
theorem okWs_iff : ∀ {ds : List PyData}, okWs ds = true ↔ ∀ d ∈ ds, okW d = true
  | [] => by simp [okWs]
  | d :: ds => by
    rw [okWs, Bool.and_eq_true, okWs_iff, List.forall_mem_cons]
mutual
def szW : PyData → Nat
  | .tuple ds => 1 + szWs ds
  | _ => 1
def szWs : List PyData → Nat
  | [] => 0
  | d :: ds => szW d + szWs ds
end
theorem szWs_app : ∀ (xs ys : List PyData), szWs (xs ++ ys) = szWs xs + szWs ys
  | [], ys => by simp [szWs]
  | x :: xs, ys => by
    rw [List.cons_append, szWs, szWs, szWs_app]
    omega
theorem szW_pos (d : PyData) : 1 ≤ szW d := by
  cases d <;> simp [szW] <;> omega
theorem trW {H : Hp} {x : V} {d : PyData} (h : Tr H 5 x d) (k : okW d = true) : x = .non ∨ (∃ i : Int, 0 ≤ i ∧ x = .int i) ∨ (∃ z : Str, wordS z = true ∧ x = .str z) ∨
    ∃ (a : Addr) (xs : List V) (ds : List PyData), x = .ref a ∧ d = .tuple ds ∧ H a = some (.tup xs) ∧ xs.length = ds.length ∧ okWs ds = true ∧ ∀ (i : Nat) (u : V) (e : PyData), xs[i]? = some u → ds[i]? = some e → Tr H 5 u e := by
  rcases h with h | ⟨a, xs, ds, rfl, l, _, t, c⟩
  · cases h with
    | non => exact .inl rfl
    | bl b => exact absurd k Bool.false_ne_true
    | int i => exact .inr (.inl ⟨i, of_decide_eq_true k, rfl⟩)
    | str z => exact .inr (.inr (.inl ⟨z, k, rfl⟩))
  · rcases t with ⟨_, rfl⟩ | ⟨ha, rfl⟩
    · exact absurd k Bool.false_ne_true
    · exact .inr (.inr (.inr ⟨a, xs, ds, rfl, rfl, ha, l, k, fun i u e h1 h2 => (c i u e h1 h2).up⟩))
/-- a deed -/
structure Dd where
  n : Nat
  p : Nat
  r : List Nat
  w : List PyData
def numsV (ns : List Nat) : List V := ns.map fun i : Nat => V.int (i : Int)
/-- x is the deed d -/
def DeedAt (H : Hp) (x : V) (d : Dd) : Prop := ∃ (t rd tw : Addr), x = .ref t ∧ H t = some (.tup [.int (d.n : Int), .int (d.p : Int), .ref rd, .ref tw]) ∧ H rd = some (.lst (numsV d.r)) ∧ Tr H 5 (.ref tw) (.tuple d.w)
theorem DeedAt.same {H H' : Hp} {x : V} {d : Dd} (k : Same H H') (h : DeedAt H x d) : DeedAt H' x d := by
  obtain ⟨t, rd, tw, e, e1, e2, e3⟩ := h
  exact ⟨t, rd, tw, e, k _ _ e1, k _ _ e2, e3.same k⟩
/-- a right deed -/
structure Dd.Ok (d : Dd) : Prop where
  n1 : 1 ≤ d.n
  asc : d.r.Pairwise (· < ·)
  own : d.p ∈ d.r
  len : d.r.length ≤ 20
  w : okWs d.w = true
  sz : szWs d.w ≤ 100
/-- the log at a -/
structure LogAt (H : Hp) (a : Addr) (ds : List Dd) : Prop where
  ex : ∃ xs : List V, H a = some (.lst xs) ∧ xs.length = ds.length ∧ ∀ (i : Nat) (x : V) (d : Dd), xs[i]? = some x → ds[i]? = some d → DeedAt H x d
theorem LogAt.same {H H' : Hp} {a : Addr} {ds : List Dd} (k : Same H H') (h : LogAt H a ds) : LogAt H' a ds := by
  obtain ⟨xs, h1, h2, h3⟩ := h
  exact ⟨xs, k _ _ h1, h2, fun i x d e1 e2 => (h3 i x d e1 e2).same k⟩
end K27
set_option Elab.async false
set_option linter.all false
set_option maxRecDepth 100000
set_option maxHeartbeats 8000000
namespace K27
open PySem PySem.Spec PyProof.Rows L2 KB
structure Cn (mg : Str → Option Value) : Prop where
  gA : ∃ t, mg "LETTERS" = some (.str "abcdefghijklmnopqrstuvwxyz" t)
  gM : ∃ t, mg "MOST_LETTERS" = some (.int 8 t)
theorem cut_tail (ns : List Nat) : cutV (numsV ns) (some 1) none = (numsV ns).drop 1 := by
  unfold cutV
  by_cases h : 1 ≤ (numsV ns).length
  · have e1 : HT.sIx (numsV ns).length 0 (some 1) = 1 := by
      unfold HT.sIx
      simp
      omega
    have e2 : HT.sIx (numsV ns).length (numsV ns).length none = (numsV ns).length := rfl
    rw [e1, e2, List.take_of_length_le (by rw [List.length_drop]; exact Nat.le_refl _)]
  · have e0 : numsV ns = [] := List.length_eq_zero_iff.mp (by omega)
    rw [e0]
    rfl
def spWhole : Sp := fun vs H Q _ => (∃ i : Int, vs = [.int i] ∧ Q (.bl true) H) ∨ ∃ z : Str, vs = [.str z] ∧ Q (.bl false) H
def spCount : Sp := fun vs H Q _ => (∃ i : Int, vs = [.int i] ∧ Q (.bl (decide (i ≥ 0))) H) ∨ ∃ z : Str, vs = [.str z] ∧ Q (.bl false) H
def spTupOf : Sp := fun vs H Q _ => ∃ (t : Addr) (xs : List V) (n : Int), vs = [.ref t, .int n] ∧ H t = some (.tup xs) ∧ Q (.bl (decide ((xs.length : Int) = n))) H
def spAsc : Sp := fun vs H Q _ => ∃ (a : Addr) (ns : List Nat), vs = [.ref a] ∧ H a = some (.lst (numsV ns)) ∧ ns.length ≤ 1000 ∧ ns.Pairwise (· < ·) ∧ ∀ H', Same H H' → Q (.bl true) H'
def spAscC : Sp := fun vs H Q _ => ∃ (a : Addr) (ns : List Nat), vs = [.ref a] ∧ H a = some (.lst (numsV ns)) ∧ ns.length ≤ 1000 ∧ ns.Pairwise (· < ·) ∧ ∀ H', Same H H' → Q (.bl true) H'
def spWord : Sp := fun vs H Q _ => ∃ z : Str, vs = [.str z] ∧ wordS z = true ∧ ∀ H', Same H H' → Q (.bl true) H'
section
variable {P : Program} {w : World} {K : PySem.W.Frag} {mg : Str → Option Value} {base : Heap}
abbrev s_is_whole_number : Stmt := top 9
abbrev N_is_whole_number : List Str := ["value"]
theorem sc_is_whole_number : FnScope N_is_whole_number ["value"] (defScope s_is_whole_number) := ⟨rfl, rfl, rfl, by decide +kernel, rfl, by decide +kernel, by decide +kernel⟩
theorem ok_is_whole_number {f : Addr} {fd : FuncData} (F : FnP K "is_whole_number" s_is_whole_number f fd) (Z : FreeS mg) :
    FnOk P w K mg base CX0 1 f fd ["value"] spWhole := by
  refine F.ok sc_is_whole_number (fun vs H Q E h => ?_) (fun cdv A outer s H vs Q E hr h => ?_)
  · rcases h with ⟨i, rfl, _⟩ | ⟨z, rfl, _⟩ <;> rfl
  ·
    have nd := sc_is_whole_number.nd
    refine ⟨_, PSs.nox (pss_one (ps_ret (pe_and (pe_callB call_isi (by rfl) Z.isi (by decide +kernel) (pa_cons (pv 0) (pa_cons (pe_bltn (v := .ty "int") (by rfl) Z.int (by decide +kernel) rfl) pa_nil))) (pe_one (pe_not (pe_callB call_isi (by rfl) Z.isi (by decide +kernel) (pa_cons (pv 0) (pa_cons (pe_bltn (v := .ty "bool") (by rfl) Z.tbool (by decide +kernel) rfl) pa_nil)))))))), ?_⟩
    rcases h with ⟨i, rfl, k⟩ | ⟨z, rfl, k⟩
    · refine ⟨_, rfl, .int i, .ty "int", .type "int", .type "int", true, rfl, .ty _, .base (.int i), kit_ty (by decide +kernel), true, rfl, iteT ?_⟩
      exact ⟨_, rfl, .int i, .ty "bool", .type "int", .type "bool", false, rfl, .ty _, .base (.int i), kit_ty (by decide +kernel), false, rfl, k⟩
    · exact ⟨_, rfl, .str z, .ty "int", .type "str", .type "int", false, rfl, .ty _, .base (.str z), kit_ty (by decide +kernel), false, rfl, iteF k⟩
abbrev s_is_count : Stmt := top 10
abbrev N_is_count : List Str := ["value"]
theorem sc_is_count : FnScope N_is_count ["value"] (defScope s_is_count) := ⟨rfl, rfl, rfl, by decide +kernel, rfl, by decide +kernel, by decide +kernel⟩
theorem ok_is_count {f : Addr} {fd : FuncData} (F : FnP K "is_count" s_is_count f fd) (Z : FreeS mg)
    {f_is_whole_number : Addr} {d_is_whole_number : FuncData} (g_is_whole_number : mg "is_whole_number" = some (.ref f_is_whole_number)) (F_is_whole_number : FnP K "is_whole_number" s_is_whole_number f_is_whole_number d_is_whole_number) (G_is_whole_number : FnOk P w K mg base CX0 1 f_is_whole_number d_is_whole_number ["value"] spWhole) :
    FnOk P w K mg base CX0 2 f fd ["value"] spCount := by
  have b_is_whole_number : Binds K d_is_whole_number ["value"] [] := F_is_whole_number.bindsN fun _ _ _ _ _ _ us hl => match us, hl with | [_], _ => rfl
  refine F.ok sc_is_count (fun vs H Q E h => ?_) (fun cdv A outer s H vs Q E hr h => ?_)
  · rcases h with ⟨i, rfl, _⟩ | ⟨z, rfl, _⟩ <;> rfl
  ·
    have nd := sc_is_count.nd
    refine ⟨_, PSs.nox (pss_one (ps_ret (pe_and (pe_call G_is_whole_number (hr.mono (by decide)) rfl g_is_whole_number F_is_whole_number.kp b_is_whole_number .nil pass0 (pa_cons (pv 0) (pa_nil))) (pe_one (pe_cmpR op_ge (pv 0) (pe_int) (nomark _)))))), ?_⟩
    rcases h with ⟨i, rfl, k⟩ | ⟨z, rfl, k⟩
    · refine ⟨_, rfl, .inl ⟨i, rfl, true, rfl, iteT ?_⟩⟩
      exact ⟨_, rfl, _, _, rfl, rfl, k⟩
    · exact ⟨_, rfl, .inr ⟨z, rfl, false, rfl, iteF k⟩⟩
abbrev s_is_tuple_of : Stmt := top 11
abbrev N_is_tuple_of : List Str := ["value", "length"]
theorem sc_is_tuple_of : FnScope N_is_tuple_of ["value", "length"] (defScope s_is_tuple_of) := ⟨rfl, rfl, rfl, by decide +kernel, rfl, by decide +kernel, by decide +kernel⟩
theorem ok_is_tuple_of {f : Addr} {fd : FuncData} (F : FnP K "is_tuple_of" s_is_tuple_of f fd) (Z : FreeS mg) :
    FnOk P w K mg base CX0 1 f fd ["value", "length"] spTupOf := by
  refine F.ok sc_is_tuple_of (fun vs H Q E h => ?_) (fun cdv A outer s H vs Q E hr h => ?_)
  · obtain ⟨t, xs, n, rfl, _⟩ := h
    rfl
  · obtain ⟨t, xs, n, rfl, ht, k⟩ := h
    have nd := sc_is_tuple_of.nd
    refine ⟨_, PSs.nox (pss_one (ps_ret (pe_and (pe_callB call_isi (by rfl) Z.isi (by decide +kernel) (pa_cons (pv 0) (pa_cons (pe_bltn (v := .ty "tuple") (by rfl) Z.ttuple (by decide +kernel) rfl) pa_nil))) (pe_one (pe_cmpR op_eq (pe_callB call_len_seq (by rfl) Z.len (by decide +kernel) (pa_cons (pv 0) (pa_nil))) (pv 1) (nomark _)))))), ?_⟩
    refine ⟨_, rfl, .ref t, .ty "tuple", .type "tuple", .type "tuple", true, rfl, .ty _, .base (.tup ht), kit_ty (by decide +kernel), true, rfl, iteT ?_⟩
    refine ⟨_, rfl, t, xs, rfl, Or.inr (Or.inl (.inl ht)), _, rfl, rfl, ?_⟩
    have e : decide (V.int (xs.length : Int) = V.int n) = decide ((xs.length : Int) = n) := by
      by_cases h : (xs.length : Int) = n
      · rw [decide_eq_true h, decide_eq_true (congrArg V.int h)]
      · rw [decide_eq_false h, decide_eq_false fun z => h (V.int.inj z)]
    rw [e]
    exact k
abbrev s_ascends : Stmt := top 12
abbrev N_ascends : List Str := ["values", "one", "other"]
theorem sc_ascends : FnScope N_ascends ["values"] (defScope s_ascends) := ⟨rfl, rfl, rfl, by decide +kernel, rfl, by decide +kernel, by decide +kernel⟩
theorem ok_ascends {f : Addr} {fd : FuncData} (F : FnP K "ascends" s_ascends f fd) (Z : FreeS mg) :
    FnOk P w K mg base CX0 1 f fd ["values"] spAsc := by
  refine F.ok sc_ascends (fun vs H Q E h => ?_) (fun cdv A outer s H vs Q E hr h => ?_)
  · obtain ⟨a, ns, rfl, _⟩ := h
    rfl
  · obtain ⟨a, ns, rfl, ha, hl, hp, k⟩ := h
    have nd := sc_ascends.nd
    refine ⟨_, PSs.nox (pss_one (ps_ret (pe_callB (cr_all rfl) (by rfl) Z.all (by decide +kernel) (pa_cons (pe_lc (own := [("one", 1), ("other", 2)]) (g := gTup K 2 (gCons (gName 1) (gCons (gName 2) (gNil)))) (tt := tYes) (te := tOp (rI0 fun i j => .bl (decide (i < j))) (tVar 1) (tVar 2)) (by rfl) nd (pi_zip (by rfl) Z.zip (pa_cons (pv 0) (pa_cons (pe_slice sl_list (pv 0) (po_some (pe_int)) (po_none)) (pa_nil))))
          (blkOk_by (own := [("one", 1), ("other", 2)]) (N := N_ascends) (sc := defScope s_ascends) (by decide +kernel)) (fun _ _ _ _ _ => pg_tup rfl (pgs_cons (pg_name (i := 1) nd rfl (Or.inl rfl)) (pgs_cons (pg_name (i := 2) nd rfl (Or.inl rfl)) (pgs_nil)))) (fun _ _ _ _ _ => pts_nil)
          (fun _ _ _ _ _ => pe_cmpR op_lt (pv 1) (pv 2) (nomark _))) (pa_nil))))), ?_⟩
    obtain ⟨cq, hq⟩ : ∃ c : List V, c = cutV (numsV ns) (some 1) none := ⟨_, rfl⟩
    have ec : cq = (numsV ns).drop 1 := by
      rw [hq, cut_tail]
    have ln : (numsV ns).length = ns.length := List.length_map _
    refine ⟨_, rfl, _, rfl, _, rfl, a, _, rfl, SqL.of ha, fun q hqn => ?_⟩
    rw [← hq]
    have s1 : Same H (upd H q (.lst cq)) := Same.updf hqn
    refine ⟨a, q, _, _, rfl, SqL.of (s1 _ _ ha), SqL.of upd_same, fun D hD => ?_⟩
    refine lc_sel (n := ns.length - 1) (walk_zip (K := K) (a := a) (b := q) (xs := numsV ns) (ys := cq) (by rw [ec, List.length_drop, ln]; omega)) (fun _ => some (.bl true)) (by omega) hD (fun H2 s2 => ⟨SqL.of (s2 _ _ (s1 _ _ ha)), SqL.of (s2 _ _ upd_same)⟩) ?_ ?_
    · rintro t v H5 H6 Qy Qn ht s6 ⟨T, x1, x2, rfl, nT, rfl, g1, g2⟩ ky kn
      dsimp only at g1 g2
      rw [ec, List.getElem?_drop] at g2
      unfold numsV at g1 g2
      rw [List.getElem?_map, List.getElem?_eq_getElem (by omega)] at g1 g2
      obtain rfl := Option.some.inj g1
      obtain rfl := Option.some.inj g2
      refine ⟨T, [_, _], rfl, .inl (.inl upd_same), rfl, _, [_], rfl, _, [], rfl, rfl, ?_⟩
      refine ⟨rfl, _, rfl, _, rfl, _, _, rfl, rfl, ky _ _ (Same.updf nT) ?_⟩
      have up := List.pairwise_iff_getElem.mp hp t (1 + t) (by omega) (by omega) (by omega)
      exact (congrArg (fun c => some (V.bl c)) (decide_eq_true (show (ns[t] : Int) < (ns[1 + t] : Int) by omega))).symm
    · intro H2 s2 hR
      obtain ⟨bs, hB, hb⟩ := all_bits (K := K) hR
      refine ⟨D, bs, rfl, hB, ?_⟩
      rw [hb]
      exact k _ (s1.trans s2)
abbrev s_are_ascending_counts : Stmt := top 13
abbrev N_are_ascending_counts : List Str := ["value", "part"]
theorem sc_are_ascending_counts : FnScope N_are_ascending_counts ["value"] (defScope s_are_ascending_counts) := ⟨rfl, rfl, rfl, by decide +kernel, rfl, by decide +kernel, by decide +kernel⟩
theorem ok_are_ascending_counts {f : Addr} {fd : FuncData} (F : FnP K "are_ascending_counts" s_are_ascending_counts f fd) (Z : FreeS mg)
    {f_ascends : Addr} {d_ascends : FuncData} (g_ascends : mg "ascends" = some (.ref f_ascends)) (F_ascends : FnP K "ascends" s_ascends f_ascends d_ascends) (G_ascends : FnOk P w K mg base CX0 1 f_ascends d_ascends ["values"] spAsc)
    {f_is_count : Addr} {d_is_count : FuncData} (g_is_count : mg "is_count" = some (.ref f_is_count)) (F_is_count : FnP K "is_count" s_is_count f_is_count d_is_count) (G_is_count : FnOk P w K mg base CX0 2 f_is_count d_is_count ["value"] spCount) :
    FnOk P w K mg base CX0 3 f fd ["value"] spAscC := by
  have b_ascends : Binds K d_ascends ["values"] [] := F_ascends.bindsN fun _ _ _ _ _ _ us hl => match us, hl with | [_], _ => rfl
  have b_is_count : Binds K d_is_count ["value"] [] := F_is_count.bindsN fun _ _ _ _ _ _ us hl => match us, hl with | [_], _ => rfl
  refine F.ok sc_are_ascending_counts (fun vs H Q E h => ?_) (fun cdv A outer s H vs Q E hr h => ?_)
  · obtain ⟨a, ns, rfl, _⟩ := h
    rfl
  · obtain ⟨a, ns, rfl, ha, hl, hp, k⟩ := h
    have nd := sc_are_ascending_counts.nd
    refine ⟨_, PSs.nox (pss_one (ps_ret (pe_and (pe_callB call_isi (by rfl) Z.isi (by decide +kernel) (pa_cons (pv 0) (pa_cons (pe_bltn (v := .ty "list") (by rfl) Z.tlist (by decide +kernel) rfl) pa_nil))) (pe_and (pe_callB (cr_all rfl) (by rfl) Z.all (by decide +kernel) (pa_cons (pe_lc (own := [("part", 1)]) (g := gName 1) (tt := tYes) (te := tCall spCount [] E0 (tCons (tVar 1) (tNil))) (by rfl) nd (pi_list (pv 0))
          (blkOk_by (own := [("part", 1)]) (N := N_are_ascending_counts) (sc := defScope s_are_ascending_counts) (by decide +kernel)) (fun _ _ _ _ _ => pg_name (i := 1) nd rfl (Or.inl rfl)) (fun _ _ _ _ _ => pts_nil)
          (fun _ _ _ _ _ => pe_call G_is_count (hr.mono (by decide)) rfl g_is_count F_is_count.kp b_is_count .nil pass0 (pa_cons (pv 1) (pa_nil)))) (pa_nil))) (pe_one (pe_call G_ascends (hr.mono (by decide)) rfl g_ascends F_ascends.kp b_ascends .nil pass0 (pa_cons (pv 0) (pa_nil)))))))), ?_⟩
    have ln : (numsV ns).length = ns.length := List.length_map _
    refine ⟨_, rfl, .ref a, .ty "list", .type "list", .type "list", true, rfl, .ty _, .base (.lst ha), kit_ty (by decide +kernel), true, rfl, iteT ?_⟩
    refine ⟨_, rfl, a, rfl, ⟨_, SqL.of ha⟩, fun D hD => ?_⟩
    refine lc_sel (walk_list (K := K) (a := a) (xs := numsV ns)) (fun _ => some (.bl true)) (by omega) hD (fun H2 s2 => SqL.of (s2 _ _ ha)) ?_ ?_
    · rintro i v H2 H3 Qy Qn hi sH ⟨rfl, hv⟩ ky kn
      unfold numsV at hv
      rw [List.getElem?_map, List.getElem?_eq_getElem (by omega)] at hv
      obtain rfl := Option.some.inj hv
      refine ⟨rfl, _, rfl, .inl ⟨_, rfl, ky _ _ (Same.refl _) ?_⟩⟩
      rw [decide_eq_true (Int.natCast_nonneg _)]
    · intro H2 s2 hR
      obtain ⟨bs, hB, hb⟩ := all_bits (K := K) hR
      refine ⟨D, bs, rfl, hB, ?_⟩
      rw [hb]
      exact ⟨true, rfl, iteT ⟨_, rfl, a, ns, rfl, s2 _ _ ha, hl, hp, fun H3 s3 => k H3 (s2.trans s3)⟩⟩
abbrev s_is_word : Stmt := top 14
abbrev N_is_word : List Str := ["value", "letter"]
theorem sc_is_word : FnScope N_is_word ["value"] (defScope s_is_word) := ⟨rfl, rfl, rfl, by decide +kernel, rfl, by decide +kernel, by decide +kernel⟩
theorem ok_is_word {f : Addr} {fd : FuncData} (F : FnP K "is_word" s_is_word f fd) (Z : FreeS mg) (C : Cn mg) :
    FnOk P w K mg base CX0 1 f fd ["value"] spWord := by
  refine F.ok sc_is_word (fun vs H Q E h => ?_) (fun cdv A outer s H vs Q E hr h => ?_)
  · obtain ⟨z, rfl, _⟩ := h
    rfl
  · obtain ⟨z, rfl, hz, k⟩ := h
    have nd := sc_is_word.nd
    refine ⟨_, PSs.nox (pss_cons (ps_if (PW.pt (pw_or (pt_not (pt_val (pe_callB call_isi (by rfl) Z.isi (by decide +kernel) (pa_cons (pv 0) (pa_cons (pe_bltn (v := .ty "str") (by rfl) Z.tstr (by decide +kernel) rfl) pa_nil))))) (pw_or1 (pt_not (pt_chain op_le op_le (pe_int) (pe_callB call_len_str (by rfl) Z.len (by decide +kernel) (pa_cons (pv 0) pa_nil)) (pe_glob (v := .int 8) (by rfl) C.gM.choose_spec ⟨_, rfl⟩)))))) (pss_one (ps_ret (pe_bl))) (pss_nil))
      (pss_one (ps_ret (pe_callB (cr_all rfl) (by rfl) Z.all (by decide +kernel) (pa_cons (pe_lc (own := [("letter", 1)]) (g := gName 1) (tt := tYes) (by rfl) nd (pi_str (pv 0))
          (blkOk_by (own := [("letter", 1)]) (N := N_is_word) (sc := defScope s_is_word) (by decide +kernel)) (fun _ _ _ _ _ => pg_name (i := 1) nd rfl (Or.inl rfl)) (fun _ _ _ _ _ => pts_nil)
          (fun _ _ _ _ _ => pe_cmpR op_in_sign (pv 1) (pe_glob (v := .str "abcdefghijklmnopqrstuvwxyz") (by rfl) C.gA.choose_spec ⟨_, rfl⟩) (by rfl))) (pa_nil)))))), ?_⟩
    unfold wordS at hz
    rw [Bool.and_eq_true, decide_eq_true_eq, List.all_eq_true] at hz
    obtain ⟨⟨l1, l8⟩, hc⟩ := hz
    refine ⟨_, rfl, .str z, .ty "str", .type "str", .type "str", true, rfl, .ty _, .base (.str z), kit_ty (by decide +kernel), true, rfl, iteF ?_⟩
    have sl : (100 : Nat) ≤ sizeLine := by decide
    have zs : z.cps.size = z.length := rfl
    refine ⟨_, rfl, z, rfl, by omega, _, _, rfl, rfl, _, rfl, ?_⟩
    rw [decide_eq_true (show (1 : Int) ≤ (z.length : Int) by omega)]
    refine iteT ⟨_, _, rfl, rfl, _, rfl, ?_⟩
    rw [decide_eq_true (show (z.length : Int) ≤ 8 by omega)]
    refine iteF ?_
    refine ⟨_, rfl, z, rfl, fun D hD => ?_⟩
    refine lc_sel (n := z.cps.size) (walk_str (z := z)) (fun _ => some (.bl true)) (by omega) hD (fun H2 s2 => trivial) ?_ ?_
    · rintro i v H2 H3 Qy Qn hi sH ⟨rfl, c, hv, rfl⟩ ky kn
      refine ⟨rfl, _, rfl, c, _, rfl, rfl, ky _ _ (Same.refl _) ?_⟩
      have m : c ∈ z.cps.toList := by
        rw [Array.mem_toList_iff]
        exact Array.mem_of_getElem? hv
      have q := of_decide_eq_true (hc c m)
      refine (congrArg (fun b => some (V.bl b)) (decide_eq_true ?_)).symm
      exact q
    · intro H2 s2 hR
      obtain ⟨bs, hB, hb⟩ := all_bits (K := K) hR
      refine ⟨D, bs, rfl, hB, ?_⟩
      rw [hb]
      exact k _ s2
end
end K27
set_option Elab.async false
set_option linter.all false
set_option maxRecDepth 100000
set_option maxHeartbeats 8000000
namespace K27
open PySem PySem.Spec PyProof.Rows L2 KB
def spWords : Sp := fun vs H Q _ => ∃ (t : Addr) (ds : List PyData), vs = [.ref t] ∧ Tr H 5 (.ref t) (.tuple ds) ∧ okWs ds = true ∧ szWs ds ≤ 100 ∧ ∀ H', Same H H' → Q (.bl true) H'
theorem len_sz : ∀ ds : List PyData, ds.length ≤ szWs ds
  | [] => Nat.le_refl _
  | d :: ds => by
    have := szW_pos d
    have := len_sz ds
    rw [List.length_cons, szWs]
    omega
section
variable {P : Program} {w : World} {K : PySem.W.Frag} {mg : Str → Option Value} {base : Heap}
abbrev s_are_words : Stmt := top 16
abbrev N_are_words : List Str := ["value", "ahead", "part"]
theorem sc_are_words : FnScope N_are_words ["value"] (defScope s_are_words) := ⟨rfl, rfl, rfl, by decide +kernel, rfl, by decide +kernel, by decide +kernel⟩
theorem ok_are_words {f : Addr} {fd : FuncData} (F : FnP K "are_words" s_are_words f fd) (Z : FreeS mg)
    {f_is_count : Addr} {d_is_count : FuncData} (g_is_count : mg "is_count" = some (.ref f_is_count)) (F_is_count : FnP K "is_count" s_is_count f_is_count d_is_count) (G_is_count : FnOk P w K mg base CX0 2 f_is_count d_is_count ["value"] spCount)
    {f_is_word : Addr} {d_is_word : FuncData} (g_is_word : mg "is_word" = some (.ref f_is_word)) (F_is_word : FnP K "is_word" s_is_word f_is_word d_is_word) (G_is_word : FnOk P w K mg base CX0 1 f_is_word d_is_word ["value"] spWord) :
    FnOk P w K mg base CX0 3 f fd ["value"] spWords := by
  have b_is_count : Binds K d_is_count ["value"] [] := F_is_count.bindsN fun _ _ _ _ _ _ us hl => match us, hl with | [_], _ => rfl
  have b_is_word : Binds K d_is_word ["value"] [] := F_is_word.bindsN fun _ _ _ _ _ _ us hl => match us, hl with | [_], _ => rfl
  refine F.ok sc_are_words (fun vs H Q E h => ?_) (fun cdv A outer s H vs Q E hr h => ?_)
  · obtain ⟨t, ds, rfl, _⟩ := h
    rfl
  · obtain ⟨t, ds, rfl, ht, ho, hz, k⟩ := h
    have sl : (2000 : Nat) ≤ sizeLine := by decide
    have nd := sc_are_words.nd
    refine ⟨_, PSs.nox (pss_cons (ps_if (pt_not (pt_val (pe_callB call_isi (by rfl) Z.isi (by decide +kernel) (pa_cons (pv 0) (pa_cons (pe_bltn (v := .ty "tuple") (by rfl) Z.ttuple (by decide +kernel) rfl) pa_nil))))) (pss_one (ps_ret (pe_bl))) (pss_nil))
      (pss_cons (ps_set (i := 1) nd rfl (Or.inl rfl) (pe_lst (pa_cons (pv 0) (pa_nil))))
      (pss_cons (ps_while PassesOwn.never (pt_truth (pv 1) (fun _ => rfl)) (pss_cons (ps_set (i := 2) nd rfl (Or.inl rfl) (pe_bm0 PySem.F.plainAttrs_list PySem.F.slot_list_pop PySem.F.type_list_pop mt_pop (pv 1)))
      (pss_one (ps_if (pt_val (pe_callB call_isi (by rfl) Z.isi (by decide +kernel) (pa_cons (pv 2) (pa_cons (pe_bltn (v := .ty "tuple") (by rfl) Z.ttuple (by decide +kernel) rfl) pa_nil)))) (pss_one (ps_expr (pe_bm PySem.F.plainAttrs_list PySem.F.slot_list_extend PySem.F.type_list_extend mt_extend (pv 1) (pa_cons (pe_callTy call_list_of (by rfl) Z.tlist (by decide +kernel) (pa_cons (pv 2) (pa_nil))) (pa_nil))))) (pss_one (ps_if (PW.pt (pw_and (pt_cmpR op_notN (pv 2) (pe_non) (nomark _)) (pw_and (pt_not (pt_val (pe_call G_is_count (hr.mono (by decide)) rfl g_is_count F_is_count.kp b_is_count .nil pass0 (pa_cons (pv 2) (pa_nil))))) (pw_and1 (pt_not (pt_val (pe_call G_is_word (hr.mono (by decide)) rfl g_is_word F_is_word.kp b_is_word .nil pass0 (pa_cons (pv 2) (pa_nil))))))))) (pss_one (ps_ret (pe_bl))) (pss_nil)))))))
      (pss_one (ps_ret (pe_bl)))))), ?_⟩
    obtain ⟨xs0, hx0⟩ : ∃ xs, H t = some (.tup xs) := by
      rcases trW ht (show okW (.tuple ds) = true from ho) with h | ⟨_, _, h⟩ | ⟨_, _, h⟩ | ⟨a, xs, es, h, _, h2, _⟩
      · cases h
      · cases h
      · cases h
      · cases h
        exact ⟨xs, h2⟩
    refine ⟨_, rfl, .ref t, .ty "tuple", .type "tuple", .type "tuple", true, rfl, .ty _, .base (.tup hx0), kit_ty (by decide +kernel), true, rfl, iteF ?_⟩
    refine ⟨_, rfl, (by show 1 ≤ sizeLine; decide), fun q hq => ?_⟩
    refine ⟨fun m σ G => ∃ (xs : List V) (es : List PyData) (v : Option V), m = szWs es ∧ Same H G ∧ G q = some (.lst xs) ∧ xs.length = es.length ∧ (∀ (i : Nat) (u : V) (e : PyData), xs[i]? = some u → es[i]? = some e → Tr H 5 u e) ∧ okWs es = true ∧ szWs es ≤ 101 ∧ xs.length ≤ szWs es ∧ σ = [some (.ref t), some (.ref q), v],
      ⟨szWs [.tuple ds], [.ref t], [.tuple ds], none, rfl, Same.updf hq, upd_same, rfl, tr_cons ht tr_nil, by show (okWs ds && true) = true; rw [ho]; rfl, by simp only [szWs, szW]; omega, by simp only [szWs, szW, List.length_singleton]; omega, rfl⟩, ?_⟩
    rintro m σ G ⟨xs, es, v, rfl, sG, gq, lx, tx, ox, zx, zl, rfl⟩
    refine ⟨_, rfl, !xs.isEmpty, .inl ⟨xs, SqL.of gq, rfl⟩, ?_⟩
    by_cases e0 : xs = []
    · subst e0
      exact k G sG
    · obtain ⟨xs', x, rfl⟩ : ∃ l y, xs = l ++ [y] := ⟨_, _, (List.dropLast_concat_getLast e0).symm⟩
      have n0 : es ≠ [] := fun z => by
        rw [z, List.length_append] at lx
        simp at lx
      obtain ⟨es', d, rfl⟩ : ∃ l y, es = l ++ [y] := ⟨_, _, (List.dropLast_concat_getLast n0).symm⟩
      have lx' : xs'.length = es'.length := by
        rw [List.length_append, List.length_append] at lx
        simp at lx
        exact lx
      have hd : Tr H 5 x d := tx xs'.length x d (by simp) (by rw [lx']; simp)
      have hes : ∀ (i : Nat) (u : V) (e : PyData), xs'[i]? = some u → es'[i]? = some e → Tr H 5 u e := fun i u e h1 h2 =>
        tx i u e (by rw [List.getElem?_append_left (List.getElem?_eq_some_iff.mp h1).1]; exact h1) (by rw [List.getElem?_append_left (List.getElem?_eq_some_iff.mp h2).1]; exact h2)
      have oe : okWs es' = true ∧ okW d = true := ⟨okWs_iff.mpr fun y m => okWs_iff.mp ox y (List.mem_append_left _ m), okWs_iff.mp ox d (List.mem_append_right _ List.mem_cons_self)⟩
      have se : szWs (es' ++ [d]) = szWs es' + szW d := by rw [szWs_app]; rfl
      have sp := szW_pos d
      have ie : (!(xs' ++ [x]).isEmpty) = true := by simp
      rw [ie]
      refine iteT ⟨fun σ' G' => ∃ m', m' < szWs (es' ++ [d]) ∧ ∃ (xs : List V) (es : List PyData) (v : Option V), m' = szWs es ∧ Same H G' ∧ G' q = some (.lst xs) ∧ xs.length = es.length ∧ (∀ (i : Nat) (u : V) (e : PyData), xs[i]? = some u → es[i]? = some e → Tr H 5 u e) ∧ okWs es = true ∧ szWs es ≤ 101 ∧ xs.length ≤ szWs es ∧ σ' = [some (.ref t), some (.ref q), v], fun _ _ h => h, ?_⟩
      refine ⟨_, rfl, .inl ⟨rfl, _, SqL.of gq⟩, q, _, x, rfl, rfl, gq, by simp, ?_⟩
      rw [List.dropLast_concat]
      have sG1 : Same H (upd G q (.lst xs')) := fun b o e => by
        rw [upd_ne (ne_of_none e hq)]
        exact sG _ _ e
      have ll : xs'.length ≤ szWs es' := by
        rw [lx']
        exact len_sz es'
      rcases trW hd oe.2 with rfl | ⟨i, i0, rfl⟩ | ⟨z, hz', rfl⟩ | ⟨a, us, gs, rfl, rfl, ha, lu, og, tg⟩
      · obtain ⟨t', ty', _, k2', _⟩ := FlatD.ty (K := K) (H := upd G q (.lst xs')) FlatD.non
        refine ⟨_, rfl, .non, .ty "tuple", .type t', .type "tuple", false, rfl, .ty _, ty', kit_ty k2', false, rfl, iteF ?_⟩
        refine ⟨_, rfl, rfl, _, rfl, iteF ?_⟩
        exact ⟨szWs es', by omega, xs', es', _, rfl, sG1, upd_same, lx', hes, oe.1, by omega, ll, rfl⟩
      · refine ⟨_, rfl, .int i, .ty "tuple", .type "int", .type "tuple", false, rfl, .ty _, .base (.int i), kit_ty (by decide +kernel), false, rfl, iteF ?_⟩
        refine ⟨_, rfl, rfl, _, rfl, iteT ?_⟩
        refine ⟨_, rfl, .inl ⟨i, rfl, _, rfl, ?_⟩⟩
        rw [decide_eq_true (show i ≥ 0 from i0)]
        exact iteF ⟨szWs es', by omega, xs', es', _, rfl, sG1, upd_same, lx', hes, oe.1, by omega, ll, rfl⟩
      · refine ⟨_, rfl, .str z, .ty "tuple", .type "str", .type "tuple", false, rfl, .ty _, .base (.str z), kit_ty (by decide +kernel), false, rfl, iteF ?_⟩
        refine ⟨_, rfl, rfl, _, rfl, iteT ?_⟩
        refine ⟨_, rfl, .inr ⟨z, rfl, _, rfl, iteT ?_⟩⟩
        refine ⟨_, rfl, z, rfl, hz', fun G2 s2 => ⟨_, rfl, iteF ?_⟩⟩
        exact ⟨szWs es', by omega, xs', es', _, rfl, sG1.trans s2, s2 _ _ upd_same, lx', hes, oe.1, by omega, ll, rfl⟩
      · have ha1 := sG1 _ _ ha
        refine ⟨_, rfl, .ref a, .ty "tuple", .type "tuple", .type "tuple", true, rfl, .ty _, .base (.tup ha1), kit_ty (by decide +kernel), true, rfl, iteT ?_⟩
        refine ⟨_, rfl, .inl ⟨rfl, _, SqL.of upd_same⟩, _, rfl, a, us, rfl, Or.inr (SqT.of ha1), fun l hl => ?_⟩
        have nl : q ≠ l := fun z => by
          rw [← z, upd_same] at hl
          cases hl
        have sz2 : szW (.tuple gs) = 1 + szWs gs := rfl
        have lu2 := len_sz gs
        refine ⟨q, l, xs', us, rfl, rfl, by rw [upd_ne nl, upd_same], upd_same, by omega, ?_⟩
        refine ⟨szWs (es' ++ gs), by rw [szWs_app]; omega, xs' ++ us, es' ++ gs, _, rfl, fun b o e => ?_, upd_same, by rw [List.length_append, List.length_append, lx', lu], fun i u e h1 h2 => ?_, ?_, by rw [szWs_app]; omega, by rw [szWs_app, List.length_append]; omega, rfl⟩
        · rw [upd_ne (ne_of_none e hq)]
          exact Same.updf hl _ _ (sG1 _ _ e)
        · by_cases hi : i < xs'.length
          · rw [List.getElem?_append_left hi] at h1
            rw [List.getElem?_append_left (by omega)] at h2
            exact hes i u e h1 h2
          · rw [List.getElem?_append_right (by omega)] at h1 h2
            rw [← lx'] at h2
            exact tg _ u e h1 h2
        · refine okWs_iff.mpr fun y m => ?_
          rcases List.mem_append.mp m with m | m
          · exact okWs_iff.mp oe.1 y m
          · exact okWs_iff.mp og y m
end
end K27
set_option Elab.async false
set_option linter.all false
set_option maxRecDepth 100000
set_option maxHeartbeats 4000000
/-! The pages of a log. -/
namespace K27
open PySem PySem.Spec PyProof.Rows L2 KB
def pB (ds : List Dd) : Nat := (ds.map fun d => d.r.sum).sum + 1
/-- the pages of a log, ascending -/
def pgs (ds : List Dd) : List Nat := (List.range (pB ds)).filter fun p => ds.any fun d => decide (p ∈ d.r)
theorem le_sum : ∀ {l : List Nat} {x : Nat}, x ∈ l → x ≤ l.sum
  | y :: l, x, h => by
    rw [List.sum_cons]
    rcases List.mem_cons.mp h with rfl | h
    · omega
    · have := le_sum h
      omega
theorem pgs_mem {ds : List Dd} {p : Nat} : p ∈ pgs ds ↔ ∃ d ∈ ds, p ∈ d.r := by
  unfold pgs
  rw [List.mem_filter, List.mem_range, List.any_eq_true]
  constructor
  · rintro ⟨_, d, hd, h⟩
    exact ⟨d, hd, of_decide_eq_true h⟩
  · rintro ⟨d, hd, h⟩
    refine ⟨?_, d, hd, decide_eq_true h⟩
    have h1 := le_sum h
    have h2 : d.r.sum ≤ (ds.map fun d => d.r.sum).sum := le_sum (List.mem_map.mpr ⟨d, hd, rfl⟩)
    unfold pB
    omega
theorem pgs_asc (ds : List Dd) : (pgs ds).Pairwise (· < ·) := List.Pairwise.filter _ List.pairwise_lt_range
/-- ascending lists of the same members are alike -/
theorem asc_uniq : ∀ {l m : List Nat}, l.Pairwise (· < ·) → m.Pairwise (· < ·) → (∀ x, x ∈ l ↔ x ∈ m) → l = m
  | [], [], _, _, _ => rfl
  | [], y :: m, _, _, h => by
    have := (h y).mpr List.mem_cons_self
    cases this
  | x :: l, [], _, _, h => by
    have := (h x).mp List.mem_cons_self
    cases this
  | x :: l, y :: m, hl, hm, h => by
    obtain ⟨l1, l2⟩ := List.pairwise_cons.mp hl
    obtain ⟨m1, m2⟩ := List.pairwise_cons.mp hm
    have e : x = y := by
      rcases List.mem_cons.mp ((h x).mp List.mem_cons_self) with e | e
      · exact e
      · rcases List.mem_cons.mp ((h y).mpr List.mem_cons_self) with e' | e'
        · exact e'.symm
        · have a := m1 _ e
          have b := l1 _ e'
          omega
    subst e
    rw [asc_uniq l2 m2 fun z => ?_]
    constructor
    · intro hz
      rcases List.mem_cons.mp ((h z).mp (List.mem_cons_of_mem _ hz)) with e | e
      · have := l1 _ hz
        omega
      · exact e
    · intro hz
      rcases List.mem_cons.mp ((h z).mpr (List.mem_cons_of_mem _ hz)) with e | e
      · have := m1 _ hz
        omega
      · exact e
/-- how many of l are told -/
def cnt (l : List Nat) (S : Int → Bool) : Nat := (l.filter fun (p : Nat) => S (p : Int)).length
theorem cnt_add {l : List Nat} (nd : l.Pairwise (· < ·)) {S : Int → Bool} {k : Nat} (hk : k ∈ l) : cnt l (fun j => S j || decide (j = (k : Int))) = if S (k : Int) = true then cnt l S else cnt l S + 1 := by
  have gen : ∀ (l : List Nat), l.Pairwise (· < ·) → cnt l (fun j => S j || decide (j = (k : Int))) = cnt l S + if S (k : Int) = true then 0 else if k ∈ l then 1 else 0 := by
    intro l
    induction l with
    | nil => intro _; simp [cnt]
    | cons x l ih =>
      intro nd
      obtain ⟨n1, n2⟩ := List.pairwise_cons.mp nd
      have := ih n2
      unfold cnt at this ⊢
      by_cases e : x = k
      · subst e
        have nk : x ∉ l := fun m => Nat.lt_irrefl _ (n1 _ m)
        by_cases sx : S (x : Int) = true
        · simp only [List.filter_cons, sx, Bool.true_or, if_true, List.length_cons] at this ⊢
          omega
        · simp only [List.filter_cons, sx, nk, decide_true, Bool.or_true, if_true, if_false, List.length_cons, List.mem_cons, true_or] at this ⊢
          simp at this ⊢
          omega
      · have ne : ¬ ((x : Int) = (k : Int)) := by omega
        have mk : (k ∈ x :: l) ↔ k ∈ l := by
          rw [List.mem_cons]
          constructor
          · rintro (h | h)
            · exact absurd h.symm e
            · exact h
          · exact Or.inr
        simp only [List.filter_cons, decide_eq_false ne, Bool.or_false, mk] at this ⊢
        split
        · simp only [List.length_cons]
          omega
        · exact this
  rw [gen l nd, if_pos hk]
  by_cases h : S (k : Int) = true
  · rw [if_pos h, if_pos h]
    rfl
  · rw [if_neg h, if_neg h]
theorem cnt_le (l : List Nat) (S : Int → Bool) : cnt l S ≤ l.length := List.length_filter_le _ _
theorem cnt_zero (l : List Nat) : cnt l (fun _ => false) = 0 := by
  unfold cnt
  simp
/-- a right log -/
structure Lg (ds : List Dd) : Prop where
  ok : ∀ d ∈ ds, d.Ok
  asc : ds.Pairwise fun d e => d.n < e.n
  len : ds.length ≤ 60
  pl : (pgs ds).length ≤ 30
end K27
set_option Elab.async false
set_option linter.all false
set_option maxRecDepth 100000
set_option maxHeartbeats 8000000
namespace K27
open PySem PySem.Spec PyProof.Rows L2 KB
def spDeed : Sp := fun vs H Q _ => ∃ (x : V) (d : Dd), vs = [x] ∧ DeedAt H x d ∧ d.Ok ∧ ∀ H', Same H H' → Q (.bl true) H'
def spDeeds : Sp := fun vs H Q _ => ∃ (a : Addr) (ds : List Dd), vs = [.ref a] ∧ LogAt H a ds ∧ Lg ds ∧ ∀ H', Same H H' → Q (.bl true) H'
def spNeedD : Sp := fun vs H Q _ => ∃ (a : Addr) (ds : List Dd), vs = [.ref a] ∧ LogAt H a ds ∧ Lg ds ∧ ∀ H', Same H H' → Q .non H'
def spPages : Sp := fun vs H Q _ => ∃ (a : Addr) (ds : List Dd), vs = [.ref a] ∧ LogAt H a ds ∧ Lg ds ∧ ∀ p H', Same H H' → H p = none → H' p = some (.lst (numsV (pgs ds))) → Q (.ref p) H'
theorem inV_nums {ns : List Nat} {p : Nat} (h : p ∈ ns) : inV (.int (p : Int)) (numsV ns) = true := by
  unfold inV numsV
  rw [List.any_eq_true]
  exact ⟨_, List.mem_map.mpr ⟨p, h, rfl⟩, by simp [eqV]⟩
theorem flat_nums (ns : List Nat) : (numsV ns).all flatV = true := by
  unfold numsV
  rw [List.all_eq_true]
  intro x hx
  obtain ⟨i, _, rfl⟩ := List.mem_map.mp hx
  rfl
theorem fm_range {α : Type} (l : List α) (f : α → V) : ((List.range l.length).filterMap fun i => (l[i]?).map f) = l.map f := by
  induction l with
  | nil => rfl
  | cons x l ih =>
    rw [List.length_cons, List.range_succ_eq_map, List.filterMap_cons, List.filterMap_map]
    exact congrArg (f x :: ·) ih
section
variable {P : Program} {w : World} {K : PySem.W.Frag} {mg : Str → Option Value} {base : Heap}
abbrev s_is_deed : Stmt := top 17
abbrev N_is_deed : List Str := ["value", "number", "page", "reads", "words"]
theorem sc_is_deed : FnScope N_is_deed ["value"] (defScope s_is_deed) := ⟨rfl, rfl, rfl, by decide +kernel, rfl, by decide +kernel, by decide +kernel⟩
theorem ok_is_deed {f : Addr} {fd : FuncData} (F : FnP K "is_deed" s_is_deed f fd) (Z : FreeS mg)
    {f_is_tuple_of : Addr} {d_is_tuple_of : FuncData} (g_is_tuple_of : mg "is_tuple_of" = some (.ref f_is_tuple_of)) (F_is_tuple_of : FnP K "is_tuple_of" s_is_tuple_of f_is_tuple_of d_is_tuple_of) (G_is_tuple_of : FnOk P w K mg base CX0 1 f_is_tuple_of d_is_tuple_of ["value", "length"] spTupOf)
    {f_are_ascending_counts : Addr} {d_are_ascending_counts : FuncData} (g_are_ascending_counts : mg "are_ascending_counts" = some (.ref f_are_ascending_counts)) (F_are_ascending_counts : FnP K "are_ascending_counts" s_are_ascending_counts f_are_ascending_counts d_are_ascending_counts) (G_are_ascending_counts : FnOk P w K mg base CX0 3 f_are_ascending_counts d_are_ascending_counts ["value"] spAscC)
    {f_are_words : Addr} {d_are_words : FuncData} (g_are_words : mg "are_words" = some (.ref f_are_words)) (F_are_words : FnP K "are_words" s_are_words f_are_words d_are_words) (G_are_words : FnOk P w K mg base CX0 3 f_are_words d_are_words ["value"] spWords)
    {f_is_count : Addr} {d_is_count : FuncData} (g_is_count : mg "is_count" = some (.ref f_is_count)) (F_is_count : FnP K "is_count" s_is_count f_is_count d_is_count) (G_is_count : FnOk P w K mg base CX0 2 f_is_count d_is_count ["value"] spCount) :
    FnOk P w K mg base CX0 4 f fd ["value"] spDeed := by
  have b_is_tuple_of : Binds K d_is_tuple_of ["value", "length"] [] := F_is_tuple_of.bindsN fun _ _ _ _ _ _ us hl => match us, hl with | [_, _], _ => rfl
  have b_are_ascending_counts : Binds K d_are_ascending_counts ["value"] [] := F_are_ascending_counts.bindsN fun _ _ _ _ _ _ us hl => match us, hl with | [_], _ => rfl
  have b_are_words : Binds K d_are_words ["value"] [] := F_are_words.bindsN fun _ _ _ _ _ _ us hl => match us, hl with | [_], _ => rfl
  have b_is_count : Binds K d_is_count ["value"] [] := F_is_count.bindsN fun _ _ _ _ _ _ us hl => match us, hl with | [_], _ => rfl
  refine F.ok sc_is_deed (fun vs H Q E h => ?_) (fun cdv A outer s H vs Q E hr h => ?_)
  · obtain ⟨x, d, rfl, _⟩ := h
    rfl
  · obtain ⟨x, d, rfl, ⟨t, rd, tw, rfl, ht, hr1, hw⟩, ok, k⟩ := h
    have nd := sc_is_deed.nd
    refine ⟨_, PSs.nox (pss_cons (ps_if (pt_not (pt_val (pe_call G_is_tuple_of (hr.mono (by decide)) rfl g_is_tuple_of F_is_tuple_of.kp b_is_tuple_of .nil pass0 (pa_cons (pv 0) (pa_cons (pe_int) (pa_nil)))))) (pss_one (ps_ret (pe_bl))) (pss_nil))
      (pss_cons (ps_asg (pv 0) (pg_tup rfl (pgs_cons (pg_name (i := 1) nd rfl (Or.inl rfl)) (pgs_cons (pg_name (i := 2) nd rfl (Or.inl rfl)) (pgs_cons (pg_name (i := 3) nd rfl (Or.inl rfl)) (pgs_cons (pg_name (i := 4) nd rfl (Or.inl rfl)) (pgs_nil)))))))
      (pss_cons (ps_if (PW.pt (pw_or (pt_not (pt_val (pe_call G_is_count (hr.mono (by decide)) rfl g_is_count F_is_count.kp b_is_count .nil pass0 (pa_cons (pv 1) (pa_nil))))) (pw_or (pt_cmpR op_lt (pv 1) (pe_int) (nomark _)) (pw_or1 (pt_not (pt_val (pe_call G_is_count (hr.mono (by decide)) rfl g_is_count F_is_count.kp b_is_count .nil pass0 (pa_cons (pv 2) (pa_nil))))))))) (pss_one (ps_ret (pe_bl))) (pss_nil))
      (pss_one (ps_ret (pe_and (pe_call G_are_ascending_counts (hr.mono (by decide)) rfl g_are_ascending_counts F_are_ascending_counts.kp b_are_ascending_counts .nil pass0 (pa_cons (pv 3) (pa_nil))) (pe_and (pe_cmpR op_in_seq (pv 2) (pv 3) (by rfl)) (pe_one (pe_call G_are_words (hr.mono (by decide)) rfl g_are_words F_are_words.kp b_are_words .nil pass0 (pa_cons (pv 4) (pa_nil))))))))))), ?_⟩
    refine ⟨_, rfl, t, _, 4, rfl, ht, _, rfl, iteF ?_⟩
    refine ⟨_, rfl, t, [_, _, _, _], rfl, .inl (.inl ht), rfl, _, [_, _, _], rfl, _, [_, _], rfl, _, [_], rfl, _, [], rfl, rfl, ?_⟩
    refine ⟨_, rfl, .inl ⟨_, rfl, _, rfl, ?_⟩⟩
    rw [decide_eq_true (show (d.n : Int) ≥ 0 by omega)]
    refine iteF ⟨_, rfl, _, _, rfl, rfl, _, rfl, ?_⟩
    have n1 := ok.n1
    rw [decide_eq_false (show ¬ (d.n : Int) < 1 by omega)]
    refine iteF ⟨_, rfl, .inl ⟨_, rfl, _, rfl, ?_⟩⟩
    rw [decide_eq_true (show (d.p : Int) ≥ 0 by omega)]
    refine iteF ⟨_, rfl, rd, d.r, rfl, hr1, by have := ok.len; omega, ok.asc, fun G1 s1 => ⟨true, rfl, iteT ?_⟩⟩
    refine ⟨_, rfl, _, rfl, rd, _, rfl, Or.inl (SqL.of (s1 _ _ hr1)), rfl, flat_nums _, ?_⟩
    rw [inV_nums ok.own]
    refine ⟨true, rfl, iteT ?_⟩
    exact ⟨_, rfl, tw, d.w, rfl, hw.same s1, ok.w, ok.sz, fun G2 s2 => k G2 (s1.trans s2)⟩
abbrev s_are_deeds : Stmt := top 18
abbrev N_are_deeds : List Str := ["value", "deed"]
theorem sc_are_deeds : FnScope N_are_deeds ["value"] (defScope s_are_deeds) := ⟨rfl, rfl, rfl, by decide +kernel, rfl, by decide +kernel, by decide +kernel⟩
theorem ok_are_deeds {f : Addr} {fd : FuncData} (F : FnP K "are_deeds" s_are_deeds f fd) (Z : FreeS mg)
    {f_ascends : Addr} {d_ascends : FuncData} (g_ascends : mg "ascends" = some (.ref f_ascends)) (F_ascends : FnP K "ascends" s_ascends f_ascends d_ascends) (G_ascends : FnOk P w K mg base CX0 1 f_ascends d_ascends ["values"] spAsc)
    {f_is_deed : Addr} {d_is_deed : FuncData} (g_is_deed : mg "is_deed" = some (.ref f_is_deed)) (F_is_deed : FnP K "is_deed" s_is_deed f_is_deed d_is_deed) (G_is_deed : FnOk P w K mg base CX0 4 f_is_deed d_is_deed ["value"] spDeed) :
    FnOk P w K mg base CX0 5 f fd ["value"] spDeeds := by
  have b_ascends : Binds K d_ascends ["values"] [] := F_ascends.bindsN fun _ _ _ _ _ _ us hl => match us, hl with | [_], _ => rfl
  have b_is_deed : Binds K d_is_deed ["value"] [] := F_is_deed.bindsN fun _ _ _ _ _ _ us hl => match us, hl with | [_], _ => rfl
  refine F.ok sc_are_deeds (fun vs H Q E h => ?_) (fun cdv A outer s H vs Q E hr h => ?_)
  · obtain ⟨a, ds, rfl, _⟩ := h
    rfl
  · obtain ⟨a, ds, rfl, hL, hG, k⟩ := h
    obtain ⟨xs, ha, lx, hx⟩ := id hL
    have l60 := hG.len
    have nd := sc_are_deeds.nd
    refine ⟨_, PSs.nox (pss_cons (ps_if (PW.pt (pw_or (pt_not (pt_val (pe_callB call_isi (by rfl) Z.isi (by decide +kernel) (pa_cons (pv 0) (pa_cons (pe_bltn (v := .ty "list") (by rfl) Z.tlist (by decide +kernel) rfl) pa_nil))))) (pw_or1 (pt_not (pt_val (pe_callB (cr_all rfl) (by rfl) Z.all (by decide +kernel) (pa_cons (pe_lc (own := [("deed", 1)]) (g := gName 1) (tt := tYes) (te := tCall spDeed [] E0 (tCons (tVar 1) (tNil))) (by rfl) nd (pi_list (pv 0))
          (blkOk_by (own := [("deed", 1)]) (N := N_are_deeds) (sc := defScope s_are_deeds) (by decide +kernel)) (fun _ _ _ _ _ => pg_name (i := 1) nd rfl (Or.inl rfl)) (fun _ _ _ _ _ => pts_nil)
          (fun _ _ _ _ _ => pe_call G_is_deed (hr.mono (by decide)) rfl g_is_deed F_is_deed.kp b_is_deed .nil pass0 (pa_cons (pv 1) (pa_nil)))) (pa_nil)))))))) (pss_one (ps_ret (pe_bl))) (pss_nil))
      (pss_one (ps_ret (pe_call G_ascends (hr.mono (by decide)) rfl g_ascends F_ascends.kp b_ascends .nil pass0 (pa_cons (pe_lc (own := [("deed", 1)]) (g := gName 1) (tt := tYes) (te := tOp (rIxT K) (tVar 1) (tC (.int 0))) (by rfl) nd (pi_list (pv 0))
          (blkOk_by (own := [("deed", 1)]) (N := N_are_deeds) (sc := defScope s_are_deeds) (by decide +kernel)) (fun _ _ _ _ _ => pg_name (i := 1) nd rfl (Or.inl rfl)) (fun _ _ _ _ _ => pts_nil)
          (fun _ _ _ _ _ => pe_ix ix_tup (pv 1) (pe_int) (fun _ _ => rfl))) (pa_nil)))))), ?_⟩
    refine ⟨_, rfl, .ref a, .ty "list", .type "list", .type "list", true, rfl, .ty _, .base (.lst ha), kit_ty (by decide +kernel), true, rfl, iteF ?_⟩
    refine ⟨_, rfl, a, rfl, ⟨_, SqL.of ha⟩, fun D hD => ?_⟩
    refine lc_sel (walk_list (K := K) (a := a) (xs := xs)) (fun _ => some (.bl true)) (by omega) hD (fun H2 s2 => SqL.of (s2 _ _ ha)) ?_ ?_
    · rintro i v H2 H3 Qy Qn hi sH ⟨rfl, hv⟩ ky kn
      have hd : ds[i]? = some ds[i] := List.getElem?_eq_getElem (by omega)
      exact ⟨rfl, _, rfl, v, ds[i], rfl, (hx i v _ hv hd).same sH, hG.ok _ (List.getElem_mem _), fun G1 s1 => ky _ _ s1 rfl⟩
    · intro H2 s2 hR
      obtain ⟨bs, hB, hb⟩ := all_bits (K := K) hR
      refine ⟨D, bs, rfl, hB, ?_⟩
      rw [hb]
      refine ⟨true, rfl, iteF ?_⟩
      refine ⟨_, rfl, a, rfl, ⟨_, SqL.of (s2 _ _ ha)⟩, fun D2 hD2 => ?_⟩
      refine lc_sel (walk_list (K := K) (a := a) (xs := xs)) (fun i => (ds[i]?).map fun d => V.int (d.n : Int)) (by omega) hD2 (fun H3 s3 => SqL.of (s3 _ _ (s2 _ _ ha))) ?_ ?_
      · rintro i v H3 H4 Qy Qn hi sH ⟨rfl, hv⟩ ky kn
        have hd : ds[i]? = some ds[i] := List.getElem?_eq_getElem (by omega)
        obtain ⟨t, rd, tw, rfl, ht, _, _⟩ := (hx i v _ hv hd).same (s2.trans sH)
        refine ⟨rfl, _, rfl, t, _, 0, _, rfl, rfl, SqT.of ht, rfl, ky _ _ (Same.refl _) ?_⟩
        rw [hd]
        rfl
      · intro H3 s3 hR3
        have e : ((List.range xs.length).filterMap fun i => (ds[i]?).map fun d => V.int (d.n : Int)) = numsV (ds.map (·.n)) := by
          rw [lx]
          unfold numsV
          rw [List.map_map]
          exact fm_range ds _
        rw [e] at hR3
        exact ⟨D2, ds.map (·.n), rfl, hR3, by rw [List.length_map]; omega, List.pairwise_map.mpr hG.asc, fun H4 s4 => k H4 (s2.trans (s3.trans s4))⟩
abbrev s_need_deeds : Stmt := top 19
abbrev N_need_deeds : List Str := ["deeds"]
theorem sc_need_deeds : FnScope N_need_deeds ["deeds"] (defScope s_need_deeds) := ⟨rfl, rfl, rfl, by decide +kernel, rfl, by decide +kernel, by decide +kernel⟩
theorem ok_need_deeds {f : Addr} {fd : FuncData} (F : FnP K "need_deeds" s_need_deeds f fd) (Z : FreeS mg)
    {f_are_deeds : Addr} {d_are_deeds : FuncData} (g_are_deeds : mg "are_deeds" = some (.ref f_are_deeds)) (F_are_deeds : FnP K "are_deeds" s_are_deeds f_are_deeds d_are_deeds) (G_are_deeds : FnOk P w K mg base CX0 5 f_are_deeds d_are_deeds ["value"] spDeeds) :
    FnOk P w K mg base CX0 6 f fd ["deeds"] spNeedD := by
  have b_are_deeds : Binds K d_are_deeds ["value"] [] := F_are_deeds.bindsN fun _ _ _ _ _ _ us hl => match us, hl with | [_], _ => rfl
  refine F.ok sc_need_deeds (fun vs H Q E h => ?_) (fun cdv A outer s H vs Q E hr h => ?_)
  · obtain ⟨a, ds, rfl, _⟩ := h
    rfl
  · obtain ⟨a, ds, rfl, hL, hG, k⟩ := h
    have nd := sc_need_deeds.nd
    refine ⟨_, PSs.nox (pss_one (ps_if (pt_not (pt_val (pe_call G_are_deeds (hr.mono (by decide)) rfl g_are_deeds F_are_deeds.kp b_are_deeds .nil pass0 (pa_cons (pv 0) (pa_nil))))) (pss_one (ps_dead)) (pss_nil))), ?_⟩
    exact ⟨_, rfl, a, ds, rfl, hL, hG, fun G1 s1 => ⟨true, rfl, iteF (k G1 s1)⟩⟩
end
end K27
set_option Elab.async false
set_option linter.all false
set_option maxRecDepth 100000
set_option maxHeartbeats 8000000
namespace K27
open PySem PySem.Spec PyProof.Rows L2 KB
/-- told by the first i deeds -/
def memL (ds : List Dd) (i : Nat) (k : Int) : Prop := ∃ (j : Nat) (d : Dd) (p : Nat), j < i ∧ ds[j]? = some d ∧ p ∈ d.r ∧ k = (p : Int)
section
variable {P : Program} {w : World} {K : PySem.W.Frag} {mg : Str → Option Value} {base : Heap}
abbrev s_pages_of : Stmt := top 20
abbrev N_pages_of : List Str := ["deeds", "deed", "page"]
theorem sc_pages_of : FnScope N_pages_of ["deeds"] (defScope s_pages_of) := ⟨rfl, rfl, rfl, by decide +kernel, rfl, by decide +kernel, by decide +kernel⟩
theorem ok_pages_of {f : Addr} {fd : FuncData} (F : FnP K "pages_of" s_pages_of f fd) (Z : FreeS mg) :
    FnOk P w K mg base CX0 1 f fd ["deeds"] spPages := by
  refine F.ok sc_pages_of (fun vs H Q E h => ?_) (fun cdv A outer s H vs Q E hr h => ?_)
  · obtain ⟨a, ds, rfl, _⟩ := h
    rfl
  · obtain ⟨a, ds, rfl, hL, hG, k⟩ := h
    obtain ⟨xs, ha, lx, hx⟩ := id hL
    have l60 := hG.len
    have pl := hG.pl
    have nd := sc_pages_of.nd
    refine ⟨_, PSs.nox (pss_one (ps_ret (pe_callB (cr_sortedSet rfl) (by rfl) Z.sorted (by decide +kernel) (pa_cons (pe_sc2I (own := [("deed", 1), ("page", 2)]) (vs1 := [2]) (g := gName 1) (tt := tYes) (g1 := gName 2) (tt1 := tYes) (wi1 := iList K (tOp (rIxT K) (tVar 1) (tC (.int 2)))) (te := tVar 2) rfl nd (pi_list (pv 0)) (blkOk_by (own := [("deed", 1), ("page", 2)]) (N := N_pages_of) (sc := defScope s_pages_of) (by decide +kernel)) (by decide) (fun _ _ _ _ _ => pg_name (i := 1) nd rfl (Or.inl rfl)) (fun _ _ _ _ _ => pts_nil) (fun _ _ _ _ _ => pi_list (pe_ix ix_tup (pv 1) pe_int (fun _ _ => rfl))) (fun _ _ _ _ _ => pg_name (i := 2) nd rfl (Or.inl rfl)) (fun _ _ _ _ _ => pts_nil) (fun _ _ _ _ _ => pv 2)) pa_nil)))), ?_⟩
    have sb : (100 : Nat) ≤ scanBound := by decide
    refine ⟨_, rfl, a, rfl, ⟨_, SqL.of ha⟩, fun D hD => ?_⟩
    refine cl_walk (walk_list (K := K) (a := a) (xs := xs)) (fun i G => Same H G ∧ ∃ S : Int → Bool, G D = some (SetO w D S (cnt (pgs ds) S)) ∧ ∀ k : Int, S k = true ↔ memL ds i k)
      ⟨Same.updf hD, fun _ => false, by rw [upd_same, cnt_zero]; rfl, fun k => ⟨fun z => absurd z Bool.false_ne_true, fun ⟨j, _, _, z, _⟩ => absurd z (Nat.not_lt_zero _)⟩⟩ (fun i G _ hh => SqL.of (hh.1 _ _ ha)) ?_ ?_
    · rintro i x G G' hi ⟨sG, S, hS, mS⟩ ⟨rfl, hv⟩
      have hd : ds[i]? = some ds[i] := List.getElem?_eq_getElem (by omega)
      obtain ⟨t, rd, tw, rfl, ht, hr1, _⟩ := (hx i x _ hv hd).same sG
      refine ⟨rfl, ?_⟩
      refine ⟨_, rfl, t, _, 2, .ref rd, rfl, rfl, SqT.of ht, rfl, rd, rfl, ⟨_, SqL.of hr1⟩, ?_⟩
      refine cl_walk (walk_list (K := K) (a := rd) (xs := numsV ds[i].r)) (fun j G => Same H G ∧ G rd = some (.lst (numsV ds[i].r)) ∧ ∃ S : Int → Bool, G D = some (SetO w D S (cnt (pgs ds) S)) ∧ ∀ k : Int, S k = true ↔ memL ds i k ∨ ∃ p ∈ ds[i].r.take j, k = (p : Int))
        ⟨sG, hr1, S, hS, fun k => ⟨fun z => .inl ((mS k).mp z), fun z => z.elim (mS k).mpr fun ⟨p, hp, _⟩ => by simp at hp⟩⟩ (fun j G _ hh => SqL.of hh.2.1) ?_ ?_
      · rintro j y G2 G3 hj ⟨s2, h2, S2, hS2, m2⟩ ⟨rfl, hy⟩
        have lj : j < ds[i].r.length := by
          have := hj
          unfold numsV at this
          rw [List.length_map] at this
          exact this
        unfold numsV at hy
        rw [List.getElem?_map, List.getElem?_eq_getElem lj] at hy
        obtain rfl := Option.some.inj hy
        have mp : ds[i].r[j] ∈ pgs ds := pgs_mem.mpr ⟨ds[i], List.getElem_mem _, List.getElem_mem _⟩
        have cl := cnt_le (pgs ds) S2
        refine ⟨rfl, ?_⟩
        refine ⟨_, rfl, D, _, S2, _, rfl, rfl, hS2, by omega, ?_⟩
        refine ⟨fun b o e => ?_, ?_, fun j' => S2 j' || decide (j' = ((ds[i].r[j] : Nat) : Int)), ?_, fun k' => ?_⟩
        · rw [upd_ne (ne_of_none e hD)]
          exact s2 _ _ e
        · rw [upd_ne (fun z => ?_)]
          · exact h2
          · rw [z, hS2] at h2
            cases h2
        · rw [upd_same, cnt_add (pgs_asc ds) mp]
          rfl
        · rw [Bool.or_eq_true, m2 k', decide_eq_true_eq, List.take_succ, List.getElem?_eq_getElem lj]
          constructor
          · rintro ((z | ⟨p, hp, e⟩) | e)
            · exact .inl z
            · exact .inr ⟨p, List.mem_append_left _ hp, e⟩
            · exact .inr ⟨_, List.mem_append_right _ (by simp), e⟩
          · rintro (z | ⟨p, hp, e⟩)
            · exact .inl (.inl z)
            · rcases List.mem_append.mp hp with hp | hp
              · exact .inl (.inr ⟨p, hp, e⟩)
              · simp at hp
                rw [hp] at e
                exact .inr e
      · rintro G2 ⟨s2, h2, S2, hS2, m2⟩
        refine ⟨s2, S2, hS2, fun k' => ?_⟩
        rw [m2 k']
        have ln : (numsV ds[i].r).length = ds[i].r.length := List.length_map _
        rw [ln, List.take_length]
        constructor
        · rintro (⟨j, d, p, h1, h2, h3, h4⟩ | ⟨p, hp, e⟩)
          · exact ⟨j, d, p, by omega, h2, h3, h4⟩
          · exact ⟨i, _, p, by omega, hd, hp, e⟩
        · rintro ⟨j, d, p, h1, h2, h3, h4⟩
          by_cases e : j = i
          · rw [e, hd] at h2
            cases h2
            exact .inr ⟨p, h3, h4⟩
          · exact .inl ⟨j, d, p, by omega, h2, h3, h4⟩
    · rintro G ⟨sG, S, hS, mS⟩
      have cl := cnt_le (pgs ds) S
      refine ⟨D, S, _, rfl, hS, by omega, fun ns p asc mem _ hp => ?_⟩
      have e : ns = (pgs ds).map fun i : Nat => (i : Int) := by
        have nn : ∀ z ∈ ns, 0 ≤ z := fun z hz => by
          obtain ⟨j, d, p, _, _, _, rfl⟩ := (mS z).mp ((mem z).mp hz)
          exact Int.natCast_nonneg _
        have e1 : ns = (ns.map Int.toNat).map fun i : Nat => (i : Int) := by
          rw [List.map_map]
          refine (List.map_id ns).symm.trans (List.map_congr_left fun z hz => ?_)
          have := nn z hz
          show z = ((z.toNat : Nat) : Int)
          omega
        rw [e1]
        refine congrArg _ (asc_uniq ?_ (pgs_asc ds) fun x => ?_)
        · rw [List.pairwise_map]
          refine List.Pairwise.imp_of_mem (fun {a b} ha hb h => ?_) asc
          have := nn a ha
          have := nn b hb
          omega
        · rw [pgs_mem, List.mem_map]
          constructor
          · rintro ⟨z, hz, rfl⟩
            obtain ⟨j, d, p, _, h2, h3, rfl⟩ := (mS z).mp ((mem z).mp hz)
            exact ⟨d, List.mem_of_getElem? h2, by simpa using h3⟩
          · rintro ⟨d, hd, hx'⟩
            obtain ⟨j, lj, e⟩ := List.getElem_of_mem hd
            exact ⟨(x : Int), (mem _).mpr ((mS _).mpr ⟨j, d, x, by omega, by rw [← e]; exact List.getElem?_eq_getElem lj, hx', rfl⟩), by simp⟩
      refine k p _ (sG.trans (Same.updf hp)) (none_back sG hp) ?_
      rw [upd_same, e, List.map_map]
      rfl
end
end K27
set_option Elab.async false
set_option linter.all false
set_option maxRecDepth 100000
set_option maxHeartbeats 4000000
/-! Dictionaries from pages to things, and logs as functions. -/
namespace K27
open PySem PySem.Spec PyProof.Rows L2 KB
/-- a dictionary made over what a Walk tells -/
theorem dc_walk {J : It} {n : Nat} {G0 : Hp → Prop} {Y : Nat → Hp → V → Hp → Prop} {g : TG} {tt : TT} {tk tv : TE} {vs : List Nat} {σ : L2.St} {H1 : Hp} {D : Addr} {Z : Hp → Prop} (w : Walk J n G0 Y) (I : Nat → Hp → Prop) (h0 : I 0 (upd H1 D (.dK []))) (hp : ∀ i G, i ≤ n → I i G → G0 G)
    (turn : ∀ (i : Nat) (x : V) (G G' : Hp), i < n → I i G → Y i G x G' → g x (wipe σ vs) G' fun σ2 H2 => wipe σ2 vs = wipe σ vs ∧ tt σ2 H2 fun b H3 =>
      if b = true then tk σ2 H3 fun y H4 => tv σ2 H4 fun z H5 => ∃ kvs k, y = kV k ∧ H5 D = some (.dK kvs) ∧ kvs.length < sizeLine ∧ I (i + 1) (upd H5 D (.dK (putK kvs k z))) else I (i + 1) H3) (fin : ∀ G, I n G → Z G) :
    ∃ W : Nat → Nat → Hp → Prop, (∃ m, W 0 m (upd H1 D (.dK []))) ∧ ∀ i m H, W i m H → (J.stop i H ∧ Z H) ∨ (J.go i H ∧ ∃ Nx : Hp → Prop, (∀ H', Nx H' → ∃ m', m' < m ∧ W (i + 1) m' H') ∧ ∀ x H', J.yld i H x H' → g x (wipe σ vs) H' fun σ2 H2 => wipe σ2 vs = wipe σ vs ∧ tt σ2 H2 fun b H3 =>
      if b = true then tk σ2 H3 fun y H4 => tv σ2 H4 fun z H5 => ∃ kvs k, y = kV k ∧ H5 D = some (.dK kvs) ∧ kvs.length < sizeLine ∧ Nx (upd H5 D (.dK (putK kvs k z))) else Nx H3) := by
  refine ⟨fun i m G => m = n - i ∧ i ≤ n ∧ I i G, ⟨n, by simp, Nat.zero_le _, h0⟩, ?_⟩
  rintro i m G ⟨rfl, hi, z⟩
  by_cases lt : i < n
  · exact .inr ⟨w.goes i G lt (hp i G hi z), I (i + 1), fun G' z' => ⟨n - (i + 1), by omega, rfl, lt, z'⟩, fun x G' y => turn i x G G' lt z (w.yields i G x G' lt (hp i G hi z) y)⟩
  · obtain rfl : i = n := by omega
    exact .inl ⟨w.stops G (hp i G hi z), fin G z⟩
abbrev ky (p : Nat) : Key := Sum.inl (p : Int)
def dV (ps : List Nat) (f : Nat → V) : List (Key × V) := ps.map fun p => (ky p, f p)
theorem ky_inj {p q : Nat} : ky p = ky q ↔ p = q := by
  constructor
  · intro h
    have := Sum.inl.inj h
    omega
  · exact fun h => h ▸ rfl
theorem dV_len (ps : List Nat) (f : Nat → V) : (dV ps f).length = ps.length := List.length_map _
theorem dV_val {ps : List Nat} {f : Nat → V} {p : Nat} (h : p ∈ ps) : valV (dV ps f) (ky p) = some (f p) := by
  induction ps with
  | nil => cases h
  | cons q ps ih =>
    by_cases e : q = p
    · subst e
      exact valV_pos rfl
    · have h' : p ∈ ps := by
        rcases List.mem_cons.mp h with h | h
        · exact absurd h.symm e
        · exact h
      unfold valV at ih ⊢
      have ne : ¬ (ky q = ky p) := fun z => e (ky_inj.mp z)
      show ((dV (q :: ps) f).find? _).map _ = _
      unfold dV
      rw [List.map_cons, List.find?_cons_of_neg (by simpa using ne)]
      exact ih h'
theorem dV_none {ps : List Nat} {f : Nat → V} {p : Nat} (h : p ∉ ps) : valV (dV ps f) (ky p) = none := by
  unfold valV dV
  rw [Option.map_eq_none_iff, List.find?_eq_none]
  intro kv hkv
  obtain ⟨q, hq, rfl⟩ := List.mem_map.mp hkv
  intro z
  exact h (ky_inj.mp (of_decide_eq_true z) ▸ hq)
def put (f : Nat → V) (p : Nat) (v : V) : Nat → V := fun q => if q = p then v else f q
theorem dV_any {ps : List Nat} {f : Nat → V} {p : Nat} : ((dV ps f).any fun kv => decide (kv.1 = ky p)) = decide (p ∈ ps) := by
  unfold dV
  rw [List.any_map]
  by_cases h : p ∈ ps
  · rw [decide_eq_true h, List.any_eq_true]
    exact ⟨p, h, decide_eq_true rfl⟩
  · rw [decide_eq_false h, List.any_eq_false]
    intro q hq z
    exact h (ky_inj.mp (of_decide_eq_true z) ▸ hq)
theorem dV_put {ps : List Nat} {f : Nat → V} {p : Nat} {v : V} (h : p ∈ ps) : putK (dV ps f) (ky p) v = dV ps (put f p v) := by
  unfold putK
  rw [dV_any, decide_eq_true h, if_pos rfl]
  unfold dV
  rw [List.map_map]
  refine List.map_congr_left fun q hq => ?_
  show (if ky q = ky p then (ky q, v) else (ky q, f q)) = (ky q, put f p v q)
  unfold put
  by_cases e : q = p
  · rw [if_pos e, if_pos (ky_inj.mpr e)]
  · rw [if_neg e, if_neg fun z => e (ky_inj.mp z)]
theorem dV_new {ps : List Nat} {f : Nat → V} {p : Nat} {v : V} (h : p ∉ ps) : putK (dV ps f) (ky p) v = dV (ps ++ [p]) (put f p v) := by
  unfold putK
  rw [dV_any, decide_eq_false h, if_neg Bool.false_ne_true]
  unfold dV
  rw [List.map_append]
  refine congr (congrArg _ (List.map_congr_left fun q hq => ?_)) ?_
  · unfold put
    rw [if_neg (fun e : q = p => h (e ▸ hq))]
  · simp [put]
theorem dV_congr {ps : List Nat} {f g : Nat → V} (h : ∀ p ∈ ps, f p = g p) : dV ps f = dV ps g := List.map_congr_left fun p hp => by rw [h p hp]
/-- marks: a number for each page -/
abbrev mV (ps : List Nat) (m : Nat → Nat) : List (Key × V) := dV ps fun p => .int (m p : Int)
def putN (m : Nat → Nat) (p n : Nat) : Nat → Nat := fun q => if q = p then n else m q
theorem mV_put {ps : List Nat} {m : Nat → Nat} {p n : Nat} (h : p ∈ ps) : putK (mV ps m) (ky p) (.int (n : Int)) = mV ps (putN m p n) := by
  rw [dV_put h]
  refine dV_congr fun q _ => ?_
  unfold put putN
  by_cases e : q = p
  · rw [if_pos e, if_pos e]
  · rw [if_neg e, if_neg e]
/-- 0 and the numbers of the deeds that wrote a page -/
def nbp (ds : List Dd) (p : Nat) : List Nat := 0 :: (ds.filter fun d => decide (d.p = p)).map (·.n)
/-- what of a log is read wrong by marks: deeds and pages -/
def wr (ds : List Dd) (m : Nat → Nat) : List (Dd × Nat) := ds.flatMap fun d => if m d.p < d.n then (d.r.filter fun p => decide (d.n ≤ m p)).map fun p => (d, p) else []
theorem wr_mem {ds : List Dd} {m : Nat → Nat} {d : Dd} {p : Nat} : (d, p) ∈ wr ds m ↔ d ∈ ds ∧ m d.p < d.n ∧ p ∈ d.r ∧ d.n ≤ m p := by
  unfold wr
  rw [List.mem_flatMap]
  constructor
  · rintro ⟨e, he, h⟩
    by_cases c : m e.p < e.n
    · rw [if_pos c] at h
      obtain ⟨q, hq, z⟩ := List.mem_map.mp h
      obtain ⟨h1, h2⟩ := List.mem_filter.mp hq
      cases z
      exact ⟨he, c, h1, of_decide_eq_true h2⟩
    · rw [if_neg c] at h
      cases h
  · rintro ⟨hd, c, hp, h⟩
    refine ⟨d, hd, ?_⟩
    rw [if_pos c]
    exact List.mem_map.mpr ⟨p, List.mem_filter.mpr ⟨hp, decide_eq_true h⟩, rfl⟩
/-- right marks -/
def Rt (ds : List Dd) (m : Nat → Nat) : Prop := wr ds m = []
theorem rt_iff {ds : List Dd} {m : Nat → Nat} : Rt ds m ↔ ∀ d ∈ ds, m d.p < d.n → ∀ p ∈ d.r, m p < d.n := by
  unfold Rt
  rw [List.eq_nil_iff_forall_not_mem]
  constructor
  · intro h d hd c p hp
    have := h (d, p)
    rw [wr_mem] at this
    rcases Nat.lt_or_ge (m p) d.n with q | q
    · exact q
    · exact absurd ⟨hd, c, hp, q⟩ this
  · rintro h ⟨d, p⟩ z
    obtain ⟨hd, c, hp, q⟩ := wr_mem.mp z
    have := h d hd c p hp
    omega
/-- marks that pages can show -/
def Mk (ds : List Dd) (m : Nat → Nat) : Prop := ∀ p ∈ pgs ds, m p ∈ nbp ds p
end K27
set_option Elab.async false
set_option linter.all false
set_option maxRecDepth 100000
set_option maxHeartbeats 4000000
/-! y = {k: v for ..}, y a local name. -/
namespace KB
open PySem PySem.Spec PyProof.Rows L2
theorem ps_setDc {X : Cx} {i : Nat} {y : Str} {py : Pos} {kx vx tg iter : Expr} {ifs : List Expr} {scope : Scope} {own : List (Str × Nat)} {pos spos : Pos} {wi : TI} {g : TG} {tt : TT} {tk tv : TE}
    (hc : X.calm = true) (hN : X.N.Nodup) (hy : X.N[i]? = some y) (hl : X.env.scope.names.lookup y = some .local) (sw : swapsWith (.DictComp kx vx [⟨tg, iter, ifs, 0⟩] scope pos) (some (.Name y py)) spos.line X.env = pure true)
    (hi : PI X tg iter wi) (ok : BlkOk X.N X.env.scope scope own)
    (hg : ∀ (s : Shared) (H : Hp) (C : Addr) (cl : List (Str × Addr)) (fp : List Addr), PG (X.blk s H scope (compEnvC scope cl C X.env) fp) tg g) (ht : ∀ (s : Shared) (H : Hp) (C : Addr) (cl : List (Str × Addr)) (fp : List Addr), PTs (X.blk s H scope (compEnvC scope cl C X.env) fp) ifs tt)
    (hk : ∀ (s : Shared) (H : Hp) (C : Addr) (cl : List (Str × Addr)) (fp : List Addr), PE (X.blk s H scope (compEnvC scope cl C X.env) fp) kx tk) (hv : ∀ (s : Shared) (H : Hp) (C : Addr) (cl : List (Str × Addr)) (fp : List Addr), PE (X.blk s H scope (compEnvC scope cl C X.env) fp) vx tv)
    (hs : ∀ x, foldedSetIterable iter X.env x = pure x := by intro _; rfl) : PS X (.Assign [.Name y py] (.DictComp kx vx [⟨tg, iter, ifs, 0⟩] scope pos) spos) (tAsg (tDc wi g tt tk tv (own.map (·.2))) (gName i)) := by
  refine ⟨fun pins s σ H D I h => ?_⟩
  rw [exec_Assign_Name_used _ _ _ _ sw]
  refine wpAny_bind (wpAny_standAt (wpAny_bind ?_))
  have h' : tDc wi g tt tk tv (own.map (·.2)) σ H (fun x G => gName i x σ G D.nx) := h
  have run := dc_core (use := some (assign (.Name y py) X.env)) (pos := pos) (pos' := firstIterPos [⟨tg, iter, ifs, 0⟩] pos) (Qf := fun _ s' => SP X pins D .next s') hc hN I hi ok hg ht hk hv hs h' fun L C s' m G J q hn f => by
    show wpAny _ _ (assign (.Name y py) X.env (.ref L)) _ _ _
    refine wpAny_assign_Name (store_ok2 (v := V.ref L) J hN hy (.inl hl) rfl (fun s2 J2 ⟨a, sb, ha⟩ => ?_) (.inr hl))
    obtain ⟨f0, f1, f2, f3, f4, f5⟩ := f
    have ne : C ≠ a := by
      rcases ha with z | z
      · rw [z]
        exact f1
      · exact fun e => f4 y a z e.symm
    exact ⟨m, hn.sameBut sb ne, fun h3 sb3 => ⟨_, G, J2.turned (t' := s2.toks) (fun b o hb e => (sb3.2 b hb).trans e) f0 f1 f3 f4 f5, q⟩⟩
  refine wpAny_bind (thn run fun _ s' hq => ?_)
  exact wpAny_pure (wpAny_pure hq)
end KB
set_option Elab.async false
set_option linter.all false
set_option maxRecDepth 100000
set_option maxHeartbeats 8000000
namespace K27
open PySem PySem.Spec PyProof.Rows L2 KB
/-- the numbers by pages, of the deeds of es, for the pages ps -/
structure NumsAt (G : Hp) (q : Addr) (ps : List Nat) (es : List Dd) (at_ : Nat → Addr) : Prop where
  d : G q = some (.dK (dV ps fun p => .ref (at_ p)))
  l : ∀ p ∈ ps, G (at_ p) = some (.lst (numsV (nbp es p)))
  inj : ∀ p ∈ ps, ∀ p' ∈ ps, at_ p = at_ p' → p = p'
theorem NumsAt.ne {G : Hp} {q : Addr} {ps : List Nat} {es : List Dd} {at_ : Nat → Addr} (h : NumsAt G q ps es at_) {p : Nat} (hp : p ∈ ps) : at_ p ≠ q := fun z => by
  have := h.l p hp
  rw [z, h.d] at this
  cases this
theorem NumsAt.same {G G' : Hp} {q : Addr} {ps : List Nat} {es : List Dd} {at_ : Nat → Addr} (k : Same G G') (h : NumsAt G q ps es at_) : NumsAt G' q ps es at_ := ⟨k _ _ h.d, fun p hp => k _ _ (h.l p hp), h.inj⟩
theorem nbp_len (es : List Dd) (p : Nat) : (nbp es p).length ≤ es.length + 1 := by
  unfold nbp
  rw [List.length_cons, List.length_map]
  have := List.length_filter_le (fun d : Dd => decide (d.p = p)) es
  omega
theorem nbp_snoc (es : List Dd) (d : Dd) (p : Nat) : nbp (es ++ [d]) p = if d.p = p then nbp es p ++ [d.n] else nbp es p := by
  unfold nbp
  rw [List.filter_append, List.map_append]
  by_cases e : d.p = p
  · rw [if_pos e, List.filter_cons, if_pos (decide_eq_true e)]
    rfl
  · rw [if_neg e, List.filter_cons, if_neg (by simpa using e)]
    simp
def spNums : Sp := fun vs H Q _ => ∃ (a : Addr) (ds : List Dd), vs = [.ref a] ∧ LogAt H a ds ∧ Lg ds ∧ ∀ q H' at_, Same H H' → H q = none → NumsAt H' q (pgs ds) ds at_ → (∀ p ∈ pgs ds, H (at_ p) = none) → Q (.ref q) H'
section
variable {P : Program} {w : World} {K : PySem.W.Frag} {mg : Str → Option Value} {base : Heap}
abbrev s_numbers_by_pages : Stmt := top 21
abbrev N_numbers_by_pages : List Str := ["deeds", "numbers", "deed", "page"]
theorem sc_numbers_by_pages : FnScope N_numbers_by_pages ["deeds"] (defScope s_numbers_by_pages) := ⟨rfl, rfl, rfl, by decide +kernel, rfl, by decide +kernel, by decide +kernel⟩
theorem ok_numbers_by_pages {f : Addr} {fd : FuncData} (F : FnP K "numbers_by_pages" s_numbers_by_pages f fd) (Z : FreeS mg)
    {f_pages_of : Addr} {d_pages_of : FuncData} (g_pages_of : mg "pages_of" = some (.ref f_pages_of)) (F_pages_of : FnP K "pages_of" s_pages_of f_pages_of d_pages_of) (G_pages_of : FnOk P w K mg base CX0 1 f_pages_of d_pages_of ["deeds"] spPages) :
    FnOk P w K mg base CX0 2 f fd ["deeds"] spNums := by
  have b_pages_of : Binds K d_pages_of ["deeds"] [] := F_pages_of.bindsN fun _ _ _ _ _ _ us hl => match us, hl with | [_], _ => rfl
  refine F.ok sc_numbers_by_pages (fun vs H Q E h => ?_) (fun cdv A outer s H vs Q E hr h => ?_)
  · obtain ⟨a, ds, rfl, _⟩ := h
    rfl
  · obtain ⟨a, ds, rfl, hL, hG, k⟩ := h
    obtain ⟨xs, ha, lx, hx⟩ := id hL
    have l60 := hG.len
    have pl := hG.pl
    have sl : (2000 : Nat) ≤ sizeLine := by decide
    have hu : (A.deeper (envOfC "numbers_by_pages" (defScope s_numbers_by_pages) s.heap.objs.size f cdv)).units + 1 < cLine := by
      have := hr.units
      omega
    have nd := sc_numbers_by_pages.nd
    refine ⟨_, PSs.nox (pss_cons (ps_setDc (i := 1) (own := [("page", 3)]) (g := gName 3) (tt := tYes) (tk := tVar 3) (tv := tLst (tCons (tC (.int 0)) tNil)) rfl nd rfl rfl rfl (pi_list (pe_call G_pages_of (hr.mono (by decide)) rfl g_pages_of F_pages_of.kp b_pages_of .nil pass0 (pa_cons (pv 0) pa_nil))) (blkOk_by (own := [("page", 3)]) (N := N_numbers_by_pages) (sc := defScope s_numbers_by_pages) (by decide +kernel)) (fun _ _ _ _ _ => pg_name (i := 3) nd rfl (Or.inl rfl)) (fun _ _ _ _ _ => pts_nil) (fun _ _ _ _ _ => pv 3) (fun _ _ _ _ _ => pe_lst (pa_cons pe_int pa_nil)))
      (pss_cons (ps_for PassesOwn.never rfl (pi_list (pv 0)) (pg_name (i := 2) nd rfl (Or.inl rfl))
        (pss_one (ps_expr (pe_bm PySem.F.plainAttrs_list PySem.F.slot_list_append PySem.F.type_list_append mt_append (pe_dget hu (pv 1) (pe_ix ix_tup (pv 2) pe_int (fun _ _ => rfl)) (fun _ _ => rfl)) (pa_cons (pe_ix ix_tup (pv 2) (pe_int) (fun _ _ => rfl)) (pa_nil))))))
      (pss_one (ps_ret (pv 1))))), ?_⟩
    refine ⟨_, rfl, a, ds, rfl, hL, hG, fun pq H1 s1 npq hpq => ?_⟩
    refine ⟨pq, rfl, ⟨_, SqL.of hpq⟩, fun D hD => ?_⟩
    have nD : D ≠ pq := fun z => by
      rw [z, hpq] at hD
      cases hD
    refine dc_walk (walk_list (K := K) (a := pq) (xs := numsV (pgs ds))) (fun i G => Same H1 G ∧ ∃ at_ : Nat → Addr, NumsAt G D ((pgs ds).take i) [] at_ ∧ ∀ p ∈ (pgs ds).take i, H1 (at_ p) = none)
      ⟨Same.updf hD, fun _ => D, ⟨upd_same, fun p hp => by simp at hp, fun p hp => by simp at hp⟩, fun p hp => by simp at hp⟩ (fun i G _ hh => SqL.of (hh.1 _ _ hpq)) ?_ ?_
    · rintro i x G G' hi ⟨sG, at_, hN, nw⟩ ⟨rfl, hv⟩
      have li : i < (pgs ds).length := by
        have := hi
        unfold numsV at this
        rw [List.length_map] at this
        exact this
      unfold numsV at hv
      rw [List.getElem?_map, List.getElem?_eq_getElem li] at hv
      obtain rfl := Option.some.inj hv
      have np : (pgs ds)[i] ∉ (pgs ds).take i := fun m => by
        obtain ⟨j, lj, e⟩ := List.getElem_of_mem m
        rw [List.getElem_take] at e
        rw [List.length_take] at lj
        have := List.pairwise_iff_getElem.mp (pgs_asc ds) j i (by omega) li (by omega)
        omega
      have nep : ∀ p ∈ (pgs ds).take i, ¬ p = (pgs ds)[i] := fun p hp z => np (by rw [← z]; exact hp)
      refine ⟨rfl, ?_⟩
      refine ⟨_, rfl, ?_⟩
      refine ⟨(by show 1 ≤ sizeLine; omega), fun l hl => ?_⟩
      have nl : l ≠ D := fun z => by
        rw [z, hN.d] at hl
        cases hl
      have sl1 : Same G' (upd G' l (.lst [.int 0])) := Same.updf hl
      refine ⟨_, ky (pgs ds)[i], rfl, sl1 _ _ hN.d, by rw [dV_len, List.length_take]; omega, ?_⟩
      rw [dV_new np]
      have tk : (pgs ds).take (i + 1) = (pgs ds).take i ++ [(pgs ds)[i]] := by
        rw [List.take_succ, List.getElem?_eq_getElem li]
        rfl
      refine ⟨fun b o e => ?_, fun p => if p = (pgs ds)[i] then l else at_ p, ?_, ?_⟩
      · rw [upd_ne (ne_of_none e hD)]
        exact sl1 _ _ (sG _ _ e)
      · rw [tk]
        refine ⟨?_, fun p hp => ?_, fun p hp p' hp' e => ?_⟩
        · rw [upd_same]
          refine congrArg (fun z => some (HO.dK z)) (dV_congr fun p hp => ?_)
          unfold put
          split
          · rfl
          · rfl
        · rcases List.mem_append.mp hp with hp | hp
          · show (upd _ D _) (if p = (pgs ds)[i] then l else at_ p) = _
            rw [if_neg (nep p hp), upd_ne (hN.ne hp)]
            exact sl1 _ _ (hN.l p hp)
          · rw [List.mem_singleton] at hp
            show (upd _ D _) (if p = (pgs ds)[i] then l else at_ p) = _
            rw [if_pos hp, upd_ne nl, upd_same]
            rfl
        · have lo : ∀ z, z ∈ (pgs ds).take i → at_ z ≠ l := fun z hz q => by
            have := hN.l z hz
            rw [q, hl] at this
            cases this
          have e : (if p = (pgs ds)[i] then l else at_ p) = (if p' = (pgs ds)[i] then l else at_ p') := e
          rcases List.mem_append.mp hp with hp | hp <;> rcases List.mem_append.mp hp' with hp' | hp'
          · rw [if_neg (nep p hp), if_neg (nep p' hp')] at e
            exact hN.inj p hp p' hp' e
          · rw [List.mem_singleton] at hp'
            rw [if_neg (nep p hp), if_pos hp'] at e
            exact absurd e (lo p hp)
          · rw [List.mem_singleton] at hp
            rw [if_pos hp, if_neg (nep p' hp')] at e
            exact absurd e.symm (lo p' hp')
          · rw [List.mem_singleton] at hp hp'
            rw [hp, hp']
      · rw [tk]
        intro p hp
        rcases List.mem_append.mp hp with hp | hp
        · show H1 (if p = (pgs ds)[i] then l else at_ p) = none
          rw [if_neg (nep p hp)]
          exact nw p hp
        · rw [List.mem_singleton] at hp
          show H1 (if p = (pgs ds)[i] then l else at_ p) = none
          rw [if_pos hp]
          exact none_back sG hl
    · rintro G ⟨sG, at_, hN, nw⟩
      have ln : (numsV (pgs ds)).length = (pgs ds).length := List.length_map _
      rw [ln, List.take_length] at hN nw
      have sHG := s1.trans sG
      refine ⟨_, rfl, a, rfl, ⟨_, SqL.of (sHG _ _ ha)⟩, ?_⟩
      refine for_list (xs := xs) (fun i σ G2 => Same H1 G2 ∧ NumsAt G2 D (pgs ds) (ds.take i) at_ ∧ ∃ v v3, σ = [some (.ref a), some (.ref D), v, v3]) ⟨sG, hN, _, _, rfl⟩ (fun i σ G2 _ hh => SqL.of (hh.1 _ _ (s1 _ _ ha))) ?_ ?_
      · rintro i y σ G2 hy ⟨s2, h2, v, v3, rfl⟩
        have li : i < ds.length := by
          rw [← lx]
          exact (List.getElem?_eq_some_iff.mp hy).1
        have hd : ds[i]? = some ds[i] := List.getElem?_eq_getElem li
        obtain ⟨t, rd, tw, rfl, ht, hr1, _⟩ := (hx i y _ hy hd).same (s1.trans s2)
        have mp : ds[i].p ∈ pgs ds := pgs_mem.mpr ⟨ds[i], List.getElem_mem _, (hG.ok _ (List.getElem_mem _)).own⟩
        have gl := h2.l _ mp
        refine ⟨_, rfl, _, rfl, t, _, 1, _, rfl, rfl, SqT.of ht, rfl, D, .ref (at_ ds[i].p), rfl, (by
          have := DGet.k (k := ky ds[i].p) h2.d
          rw [dV_val mp] at this
          exact this), ?_⟩
        refine ⟨.inl ⟨rfl, _, SqL.of gl⟩, ?_⟩
        refine ⟨_, rfl, t, _, 0, _, rfl, rfl, SqT.of ht, rfl, ?_⟩
        have nl := nbp_len (ds.take i) ds[i].p
        rw [List.length_take] at nl
        refine ⟨_, _, _, rfl, rfl, gl, by unfold numsV; rw [List.length_map]; omega, ?_⟩
        have tk : ds.take (i + 1) = ds.take i ++ [ds[i]] := by
          rw [List.take_succ, hd]
          rfl
        refine ⟨fun b o e => ?_, ⟨?_, fun p hp => ?_, h2.inj⟩, _, _, rfl⟩
        · rw [upd_ne (fun z => ?_)]
          · exact s2 _ _ e
          · rw [z, nw _ mp] at e
            cases e
        · rw [upd_ne (h2.ne mp).symm]
          exact h2.d
        · rw [tk, nbp_snoc]
          by_cases e : ds[i].p = p
          · subst e
            rw [if_pos rfl, upd_same]
            unfold numsV
            rw [List.map_append]
            rfl
          · rw [if_neg e, upd_ne fun z => e (h2.inj _ hp _ mp z).symm]
            exact h2.l p hp
      · rintro σ G2 ⟨s2, h2, v, v3, rfl⟩
        rw [lx, List.take_length] at h2
        exact ⟨_, rfl, k D G2 at_ (s1.trans s2) (none_back s1 hD) h2 fun p hp => none_back s1 (nw p hp)⟩
end
end K27
set_option Elab.async false
set_option linter.all false
set_option maxRecDepth 100000
set_option maxHeartbeats 8000000
namespace K27
open PySem PySem.Spec PyProof.Rows L2 KB
theorem inV_iff {ns : List Nat} {p : Nat} : inV (.int (p : Int)) (numsV ns) = decide (p ∈ ns) := by
  by_cases h : p ∈ ns
  · rw [inV_nums h, decide_eq_true h]
  · rw [decide_eq_false h]
    unfold inV numsV
    rw [List.any_eq_false]
    intro x hx z
    obtain ⟨i, hi, rfl⟩ := List.mem_map.mp hx
    have : i = p := by
      have q : (i : Int) = (p : Int) := by simpa [eqV] using z
      omega
    exact h (this ▸ hi)
/-- marks at b: a number for each of the pages ks -/
def MkAt (H : Hp) (b : Addr) (ks : List Nat) (m : Nat → Nat) : Prop := H b = some (.dK (mV ks m))
def spAreS : Sp := fun vs H Q _ => ∃ (a b : Addr) (ds : List Dd) (ks : List Nat) (m : Nat → Nat), vs = [.ref a, .ref b] ∧ LogAt H a ds ∧ Lg ds ∧ MkAt H b ks m ∧ ks.Perm (pgs ds) ∧ Mk ds m ∧ ∀ H', Same H H' → Q (.bl true) H'
def spNeedS : Sp := fun vs H Q _ => ∃ (a b : Addr) (ds : List Dd) (ks : List Nat) (m : Nat → Nat), vs = [.ref a, .ref b] ∧ LogAt H a ds ∧ Lg ds ∧ MkAt H b ks m ∧ ks.Perm (pgs ds) ∧ Mk ds m ∧ ∀ H', Same H H' → Q .non H'
section
variable {P : Program} {w : World} {K : PySem.W.Frag} {mg : Str → Option Value} {base : Heap}
abbrev s_are_stamps : Stmt := top 23
abbrev N_are_stamps : List Str := ["deeds", "value", "numbers", "page", "stamp"]
theorem sc_are_stamps : FnScope N_are_stamps ["deeds", "value"] (defScope s_are_stamps) := ⟨rfl, rfl, rfl, by decide +kernel, rfl, by decide +kernel, by decide +kernel⟩
theorem ok_are_stamps {f : Addr} {fd : FuncData} (F : FnP K "are_stamps" s_are_stamps f fd) (Z : FreeS mg)
    {f_need_deeds : Addr} {d_need_deeds : FuncData} (g_need_deeds : mg "need_deeds" = some (.ref f_need_deeds)) (F_need_deeds : FnP K "need_deeds" s_need_deeds f_need_deeds d_need_deeds) (G_need_deeds : FnOk P w K mg base CX0 6 f_need_deeds d_need_deeds ["deeds"] spNeedD)
    {f_numbers_by_pages : Addr} {d_numbers_by_pages : FuncData} (g_numbers_by_pages : mg "numbers_by_pages" = some (.ref f_numbers_by_pages)) (F_numbers_by_pages : FnP K "numbers_by_pages" s_numbers_by_pages f_numbers_by_pages d_numbers_by_pages) (G_numbers_by_pages : FnOk P w K mg base CX0 2 f_numbers_by_pages d_numbers_by_pages ["deeds"] spNums)
    {f_is_count : Addr} {d_is_count : FuncData} (g_is_count : mg "is_count" = some (.ref f_is_count)) (F_is_count : FnP K "is_count" s_is_count f_is_count d_is_count) (G_is_count : FnOk P w K mg base CX0 2 f_is_count d_is_count ["value"] spCount) :
    FnOk P w K mg base CX0 7 f fd ["deeds", "value"] spAreS := by
  have b_need_deeds : Binds K d_need_deeds ["deeds"] [] := F_need_deeds.bindsN fun _ _ _ _ _ _ us hl => match us, hl with | [_], _ => rfl
  have b_numbers_by_pages : Binds K d_numbers_by_pages ["deeds"] [] := F_numbers_by_pages.bindsN fun _ _ _ _ _ _ us hl => match us, hl with | [_], _ => rfl
  have b_is_count : Binds K d_is_count ["value"] [] := F_is_count.bindsN fun _ _ _ _ _ _ us hl => match us, hl with | [_], _ => rfl
  refine F.ok sc_are_stamps (fun vs H Q E h => ?_) (fun cdv A outer s H vs Q E hr h => ?_)
  · obtain ⟨a, b, ds, ks, m, rfl, _⟩ := h
    rfl
  · obtain ⟨a, b, ds, ks, m, rfl, hL, hG, hb, pk, hm, k⟩ := h
    have pl := hG.pl
    have l60 := hG.len
    have sl : (2000 : Nat) ≤ sizeLine := by decide
    have hu : (A.deeper (envOfC "are_stamps" (defScope s_are_stamps) s.heap.objs.size f cdv)).units + 1 < cLine := by
      have := hr.units
      omega
    have nd := sc_are_stamps.nd
    refine ⟨_, PSs.nox (pss_cons (ps_expr (pe_call G_need_deeds (hr.mono (by decide)) rfl g_need_deeds F_need_deeds.kp b_need_deeds .nil pass0 (pa_cons (pv 0) (pa_nil))))
      (pss_cons (ps_set (i := 2) nd rfl (Or.inl rfl) (pe_call G_numbers_by_pages (hr.mono (by decide)) rfl g_numbers_by_pages F_numbers_by_pages.kp b_numbers_by_pages .nil pass0 (pa_cons (pv 0) (pa_nil))))
      (pss_cons (ps_if (PW.pt (pw_or (pt_not (pt_val (pe_callB call_isi (by rfl) Z.isi (by decide +kernel) (pa_cons (pv 1) (pa_cons (pe_bltn (v := .ty "dict") (by rfl) Z.tdict (by decide +kernel) rfl) pa_nil))))) (pw_or1 (pt_cmpR op_ne (pe_callB call_lenD (by rfl) Z.len (by decide +kernel) (pa_cons (pv 1) (pa_nil))) (pe_callB call_lenD (by rfl) Z.len (by decide +kernel) (pa_cons (pv 2) (pa_nil))) (nomark _))))) (pss_one (ps_ret (pe_bl))) (pss_nil))
      (pss_cons (ps_lock (ps_for PassesOwn.never rfl (pi_items (pv 1)) (pg_tup rfl (pgs_cons (pg_name (i := 3) nd rfl (Or.inl rfl)) (pgs_cons (pg_name (i := 4) nd rfl (Or.inl rfl)) (pgs_nil))))
        (pss_cons (ps_if (PW.pt (pw_or (pt_not (pt_val (pe_call G_is_count (hr.mono (by decide)) rfl g_is_count F_is_count.kp b_is_count .nil pass0 (pa_cons (pv 3) (pa_nil))))) (pw_or1 (pt_cmp (pc_dnotin hu (pv 3) (pv 2)))))) (pss_one (ps_ret (pe_bl))) (pss_nil))
      (pss_one (ps_if (PW.pt (pw_or (pt_not (pt_val (pe_call G_is_count (hr.mono (by decide)) rfl g_is_count F_is_count.kp b_is_count .nil pass0 (pa_cons (pv 4) (pa_nil))))) (pw_or1 (pt_cmpR op_notIn_seq (pv 4) (pe_dget hu (pv 2) (pv 3) (fun _ _ => rfl)) (by rfl))))) (pss_one (ps_ret (pe_bl))) (pss_nil))))))
      (pss_one (ps_ret (pe_bl))))))), ?_⟩
    refine ⟨_, rfl, a, ds, rfl, hL, hG, fun G1 s1 => ?_⟩
    refine ⟨_, rfl, a, ds, rfl, hL.same s1, hG, fun q G2 at_ s2 nq hN _ => ?_⟩
    have s12 := s1.trans s2
    have hb2 : G2 b = some (.dK (mV ks m)) := s12 _ _ hb
    have lk : ks.length = (pgs ds).length := pk.length_eq
    refine ⟨_, rfl, .ref b, .ty "dict", .type "dict", .type "dict", true, rfl, .ty _, .base (.dK hb2), kit_ty (by decide +kernel), true, rfl, iteF ?_⟩
    refine ⟨_, rfl, b, _, rfl, hb2, _, rfl, q, _, rfl, hN.d, rfl, ?_⟩
    rw [dV_len, dV_len, lk]
    refine ⟨_, rfl, ?_⟩
    rw [decide_eq_true rfl]
    refine iteF ?_
    have nbq : b ≠ q := ne_of_none (s1 _ _ hb) nq
    refine ⟨b, _, hb2, trivial, fun od => ?_⟩
    have lkk : (mV ks m).length = ks.length := dV_len _ _
    refine ⟨_, rfl, ?_⟩
    refine ⟨_, od, _, rfl, upd_same, ?_⟩
    refine for_it (walk_items (d := b) (o := od) (kvs := mV ks m)) (fun i σ G => G b = some (.frz od (.dK (mV ks m))) ∧ (∀ c o, c ≠ b → G2 c = some o → G c = some o) ∧ ∃ v3 v4, σ = [some (.ref a), some (.ref b), some (.ref q), v3, v4])
      ⟨upd_same, fun c o ne e => by rw [upd_ne ne]; exact e, _, _, rfl⟩ (fun i σ G _ hh => hh.1) ?_ ?_
    · rintro i x σ G G' hi ⟨gb, keep, v3, v4, rfl⟩ ⟨T, y1, y2, rfl, nT, rfl, e1, e2⟩
      have li : i < ks.length := by
        rw [← lkk]
        exact hi
      have ei : (mV ks m)[i]? = some (ky ks[i], .int (m ks[i] : Int)) := by
        unfold mV dV
        rw [List.getElem?_map, List.getElem?_eq_getElem li]
        rfl
      dsimp only at e1 e2
      rw [ei] at e1 e2
      obtain rfl := Option.some.inj e1
      obtain rfl := Option.some.inj e2
      have mp : ks[i] ∈ pgs ds := pk.mem_iff.mp (List.getElem_mem _)
      have sT : Same G (upd G T (.tup [.int (ks[i] : Int), .int (m ks[i] : Int)])) := Same.updf nT
      have up : ∀ c o, c ≠ b → G2 c = some o → (upd G T (.tup [.int (ks[i] : Int), .int (m ks[i] : Int)])) c = some o := fun c o ne e => sT _ _ (keep c o ne e)
      have gd := up q _ nbq.symm hN.d
      have gl := up (at_ ks[i]) _ (fun z => by
        have := hN.l _ mp
        rw [z, hb2] at this
        cases this) (hN.l _ mp)
      refine ⟨T, [_, _], rfl, .inl (.inl upd_same), rfl, _, [_], rfl, _, [], rfl, rfl, ?_⟩
      refine ⟨_, rfl, .inl ⟨_, rfl, _, rfl, ?_⟩⟩
      rw [decide_eq_true (show (ks[i] : Int) ≥ 0 by omega)]
      have dg : DGet (upd G T (.tup [.int (ks[i] : Int), .int (m ks[i] : Int)])) q (.int (ks[i] : Int)) (some (.ref (at_ ks[i]))) := by
        have := DGet.k (k := ky ks[i]) gd
        rw [dV_val mp] at this
        exact this
      refine iteF ⟨_, rfl, _, rfl, q, _, rfl, dg, _, rfl, iteF ?_⟩
      refine ⟨_, rfl, .inl ⟨_, rfl, _, rfl, ?_⟩⟩
      rw [decide_eq_true (show (m ks[i] : Int) ≥ 0 by omega)]
      refine iteF ⟨_, rfl, _, rfl, _, rfl, q, _, rfl, dg, _, _, rfl, Or.inl (SqL.of gl), rfl, flat_nums _, ?_⟩
      rw [inV_nums (hm _ mp)]
      exact ⟨_, rfl, iteF ⟨sT _ _ gb, up, _, _, rfl⟩⟩
    · rintro σ G ⟨gb, keep, v3, v4, rfl⟩
      refine ⟨gb, k _ fun c o e => ?_⟩
      by_cases z : c = b
      · subst z
        rw [upd_same, ← hb2]
        exact (s12 _ _ e)
      · rw [upd_ne z]
        exact keep c o z (s12 _ _ e)
abbrev s_need_stamps : Stmt := top 24
abbrev N_need_stamps : List Str := ["deeds", "stamps"]
theorem sc_need_stamps : FnScope N_need_stamps ["deeds", "stamps"] (defScope s_need_stamps) := ⟨rfl, rfl, rfl, by decide +kernel, rfl, by decide +kernel, by decide +kernel⟩
theorem ok_need_stamps {f : Addr} {fd : FuncData} (F : FnP K "need_stamps" s_need_stamps f fd) (Z : FreeS mg)
    {f_are_stamps : Addr} {d_are_stamps : FuncData} (g_are_stamps : mg "are_stamps" = some (.ref f_are_stamps)) (F_are_stamps : FnP K "are_stamps" s_are_stamps f_are_stamps d_are_stamps) (G_are_stamps : FnOk P w K mg base CX0 7 f_are_stamps d_are_stamps ["deeds", "value"] spAreS) :
    FnOk P w K mg base CX0 8 f fd ["deeds", "stamps"] spNeedS := by
  have b_are_stamps : Binds K d_are_stamps ["deeds", "value"] [] := F_are_stamps.bindsN fun _ _ _ _ _ _ us hl => match us, hl with | [_, _], _ => rfl
  refine F.ok sc_need_stamps (fun vs H Q E h => ?_) (fun cdv A outer s H vs Q E hr h => ?_)
  · obtain ⟨a, b, ds, ks, m, rfl, _⟩ := h
    rfl
  · obtain ⟨a, b, ds, ks, m, rfl, hL, hG, hb, pk, hm, k⟩ := h
    have nd := sc_need_stamps.nd
    refine ⟨_, PSs.nox (pss_one (ps_if (pt_not (pt_val (pe_call G_are_stamps (hr.mono (by decide)) rfl g_are_stamps F_are_stamps.kp b_are_stamps .nil pass0 (pa_cons (pv 0) (pa_cons (pv 1) (pa_nil)))))) (pss_one (ps_dead)) (pss_nil))), ?_⟩
    exact ⟨_, rfl, _, rfl, a, b, ds, ks, m, rfl, hL, hG, hb, pk, hm, fun G1 s1 => ⟨true, rfl, iteF (k G1 s1)⟩⟩
end
end K27
set_option Elab.async false
set_option linter.all false
namespace KB
open PySem PySem.Spec PyProof.Rows L2
/-- all but what stands at D -/
def off (H : Hp) (D : Addr) : Hp := fun b => if b = D then none else H b
theorem off_at {H : Hp} {D b : Addr} (n : b ≠ D) : off H D b = H b := if_neg n
theorem off_same {H H' : Hp} (D : Addr) (k : Same H H') : Same (off H D) (off H' D) := fun b o e => by
  by_cases n : b = D
  · unfold off at e
    rw [if_pos n] at e
    cases e
  · rw [off_at n] at e ⊢
    exact k _ _ e
theorem off_le (H : Hp) (D : Addr) : Same (off H D) H := fun b o e => by
  by_cases n : b = D
  · unfold off at e
    rw [if_pos n] at e
    cases e
  · rw [off_at n] at e
    exact e
theorem off_upd (H : Hp) (D : Addr) (o : HO) : off (upd H D o) D = off H D := by
  funext b
  unfold off
  by_cases n : b = D
  · rw [if_pos n, if_pos n]
  · rw [if_neg n, if_neg n, upd_ne n]
theorem off_in {H G : Hp} {D : Addr} (k : Same H G) (n : H D = none) : Same H (off G D) := fun b o e => by
  rw [off_at (ne_of_none e n)]
  exact k b o e
end KB
set_option Elab.async false
set_option linter.all false
set_option maxRecDepth 100000
set_option maxHeartbeats 8000000
namespace K27
open PySem PySem.Spec PyProof.Rows L2 KB
/-- y is the pair of a deed and a page -/
def PairAt (G : Hp) (y : V) (w : Dd × Nat) : Prop := ∃ (t : Addr) (x : V), y = .ref t ∧ G t = some (.tup [x, .int (w.2 : Int)]) ∧ DeedAt G x w.1
theorem PairAt.same {G G' : Hp} {y : V} {w : Dd × Nat} (k : Same G G') (h : PairAt G y w) : PairAt G' y w := by
  obtain ⟨t, x, e, h1, h2⟩ := h
  exact ⟨t, x, e, k _ _ h1, h2.same k⟩
def Pairs (G : Hp) (ys : List V) (ws : List (Dd × Nat)) : Prop := ys.length = ws.length ∧ ∀ (i : Nat) (y : V) (w : Dd × Nat), ys[i]? = some y → ws[i]? = some w → PairAt G y w
theorem Pairs.same {G G' : Hp} {ys : List V} {ws : List (Dd × Nat)} (k : Same G G') (h : Pairs G ys ws) : Pairs G' ys ws := ⟨h.1, fun i y w e1 e2 => (h.2 i y w e1 e2).same k⟩
theorem Pairs.nil (G : Hp) : Pairs G [] [] := ⟨rfl, fun i y w e _ => by simp at e⟩
theorem Pairs.app {G : Hp} {ys zs : List V} {ws us : List (Dd × Nat)} (h : Pairs G ys ws) (k : Pairs G zs us) : Pairs G (ys ++ zs) (ws ++ us) := by
  refine ⟨by rw [List.length_append, List.length_append, h.1, k.1], fun i y w e1 e2 => ?_⟩
  by_cases hi : i < ys.length
  · rw [List.getElem?_append_left hi] at e1
    rw [List.getElem?_append_left (show i < ws.length from h.1 ▸ hi)] at e2
    exact h.2 i y w e1 e2
  · have l1 := h.1
    rw [List.getElem?_append_right (by omega)] at e1 e2
    rw [← h.1] at e2
    exact k.2 _ y w e1 e2
theorem Pairs.one {G : Hp} {y : V} {w : Dd × Nat} (h : PairAt G y w) : Pairs G [y] [w] := ⟨rfl, fun i u v e1 e2 => by
  match i, e1, e2 with
  | 0, e1, e2 =>
    cases e1
    cases e2
    exact h⟩
/-- what of one deed is read wrong, of its first j pages -/
def wr1 (d : Dd) (m : Nat → Nat) (j : Nat) : List (Dd × Nat) := ((d.r.take j).filter fun p => decide (d.n ≤ m p)).map fun p => (d, p)
theorem wr1_len (d : Dd) (m : Nat → Nat) (j : Nat) : (wr1 d m j).length ≤ d.r.length := by
  unfold wr1
  rw [List.length_map]
  refine Nat.le_trans (List.length_filter_le _ _) ?_
  rw [List.length_take]
  omega
theorem wr_take {ds : List Dd} {m : Nat → Nat} {i : Nat} {d : Dd} (h : ds[i]? = some d) : wr (ds.take (i + 1)) m = wr (ds.take i) m ++ if m d.p < d.n then wr1 d m d.r.length else [] := by
  rw [List.take_succ, h]
  unfold wr
  rw [List.flatMap_append]
  simp [wr1]
theorem wr_len {ds : List Dd} (h : ∀ d ∈ ds, d.r.length ≤ 20) (m : Nat → Nat) : (wr ds m).length ≤ 20 * ds.length := by
  induction ds with
  | nil => simp [wr]
  | cons d ds ih =>
    have h1 := ih fun e he => h e (List.mem_cons_of_mem _ he)
    have h2 := h d List.mem_cons_self
    have h3 := wr1_len d m d.r.length
    have e : wr (d :: ds) m = (if m d.p < d.n then wr1 d m d.r.length else []) ++ wr ds m := by
      unfold wr wr1
      rw [List.flatMap_cons, List.take_length]
    rw [e, List.length_append, List.length_cons]
    split
    · omega
    · rw [List.length_nil]
      omega
def spWrong : Sp := fun vs H Q _ => ∃ (a b : Addr) (ds : List Dd) (ks : List Nat) (m : Nat → Nat), vs = [.ref a, .ref b] ∧ LogAt H a ds ∧ Lg ds ∧ MkAt H b ks m ∧ ks.Perm (pgs ds) ∧
  ∀ q H' ys, Same H H' → H q = none → H' q = some (.lst ys) → Pairs H' ys (wr ds m) → Q (.ref q) H'
section
variable {P : Program} {w : World} {K : PySem.W.Frag} {mg : Str → Option Value} {base : Heap}
abbrev s_wrong_reads : Stmt := top 25
abbrev N_wrong_reads : List Str := ["deeds", "stamps", "found", "deed", "page"]
theorem sc_wrong_reads : FnScope N_wrong_reads ["deeds", "stamps"] (defScope s_wrong_reads) := ⟨rfl, rfl, rfl, by decide +kernel, rfl, by decide +kernel, by decide +kernel⟩
theorem ok_wrong_reads {f : Addr} {fd : FuncData} (F : FnP K "wrong_reads" s_wrong_reads f fd) (Z : FreeS mg) :
    FnOk P w K mg base CX0 1 f fd ["deeds", "stamps"] spWrong := by
  refine F.ok sc_wrong_reads (fun vs H Q E h => ?_) (fun cdv A outer s H vs Q E hr h => ?_)
  · obtain ⟨a, b, ds, ks, m, rfl, _⟩ := h
    rfl
  · obtain ⟨a, b, ds, ks, m, rfl, hL, hG, hb, pk, k⟩ := h
    obtain ⟨xs, ha, lx, hx⟩ := id hL
    have l60 := hG.len
    have sl : (3000 : Nat) ≤ sizeLine := by decide
    have hu : (A.deeper (envOfC "wrong_reads" (defScope s_wrong_reads) s.heap.objs.size f cdv)).units + 1 < cLine := by
      have := hr.units
      omega
    have nd := sc_wrong_reads.nd
    refine ⟨_, PSs.nox (pss_cons (ps_set (i := 2) nd rfl (Or.inl rfl) (pe_lst (pa_nil)))
      (pss_cons (ps_for PassesOwn.never rfl (pi_list (pv 0)) (pg_name (i := 3) nd rfl (Or.inr rfl))
        (pss_one (ps_if (pt_cmpR op_lt (pe_dget hu (pv 1) (pe_ix ix_tup (pv 3) pe_int (fun _ _ => rfl)) (fun _ _ => rfl)) (pe_ix ix_tup (pv 3) (pe_int) (fun _ _ => rfl)) (nomark _)) (pss_one (ps_expr (pe_bm PySem.F.plainAttrs_list PySem.F.slot_list_extend PySem.F.type_list_extend mt_extend (pv 2) (pa_cons (pe_lc (own := [("page", 4)]) (g := gName 4) (tt := tTest (tOp (rI0 fun i j => .bl (decide (j ≤ i))) (tDGet (tVar 1) (tVar 4)) (tOp (rIxT K) (tVar 3) (tC (.int 0))))) (te := tTup (tCons (tVar 3) (tCons (tVar 4) (tNil)))) (by rfl) nd (pi_list (pe_ix ix_tup (pv 3) (pe_int) (fun _ _ => rfl)))
          (blkOk_by (own := [("page", 4)]) (N := N_wrong_reads) (sc := defScope s_wrong_reads) (by decide +kernel)) (fun _ _ _ _ _ => pg_name (i := 4) nd rfl (Or.inl rfl)) (fun _ _ _ _ _ => pts_one (pt_cmpR op_ge (pe_dget hu (pv 1) (pv 4) (fun _ _ => rfl)) (pe_ix ix_tup (pv 3) (pe_int) (fun _ _ => rfl)) (nomark _)))
          (fun _ _ _ _ _ => pe_tup (pa_cons (pv 3) (pa_cons (pv 4) (pa_nil))))) (pa_nil))))) (pss_nil))))
      (pss_one (ps_ret (pv 2))))), ?_⟩
    have dget : ∀ {G : Hp} {p : Nat}, Same H G → p ∈ pgs ds → DGet G b (.int (p : Int)) (some (.int (m p : Int))) := fun {G p} s1 hp => by
      have := DGet.k (k := ky p) (s1 _ _ hb)
      rw [dV_val (pk.mem_iff.mpr hp)] at this
      exact this
    have r20 : ∀ d ∈ ds, d.r.length ≤ 20 := fun d hd => (hG.ok d hd).len
    refine ⟨(by show 0 ≤ sizeLine; omega), fun q hq => ?_⟩
    have s1 : Same H (upd H q (.lst [])) := Same.updf hq
    refine ⟨_, rfl, a, rfl, ⟨_, SqL.of (s1 _ _ ha)⟩, ?_⟩
    refine for_list (xs := xs) (fun i σ G => Same H G ∧ (∃ ys, G q = some (.lst ys) ∧ Pairs (off G q) ys (wr (ds.take i) m)) ∧ ∃ v, σ = [some (.ref a), some (.ref b), some (.ref q), v, none]) ⟨s1, ⟨[], upd_same, Pairs.nil _⟩, _, rfl⟩ (fun i σ G _ hh => SqL.of (hh.1 _ _ ha)) ?_ ?_
    · rintro i y σ G hy ⟨sG, ⟨ys, gq, py⟩, v, rfl⟩
      have li : i < ds.length := by
        rw [← lx]
        exact (List.getElem?_eq_some_iff.mp hy).1
      have hd : ds[i]? = some ds[i] := List.getElem?_eq_getElem li
      have dat := (hx i y _ hy hd).same sG
      obtain ⟨t, rd, tw, rfl, ht, hr1, _⟩ := id dat
      have ok := hG.ok _ (List.getElem_mem li)
      have mp : ∀ p ∈ ds[i].r, p ∈ pgs ds := fun p hp => pgs_mem.mpr ⟨ds[i], List.getElem_mem _, hp⟩
      refine ⟨_, rfl, _, rfl, t, _, 1, _, rfl, rfl, SqT.of ht, rfl, b, _, rfl, dget sG (mp _ ok.own), ?_⟩
      refine ⟨_, rfl, t, _, 0, _, rfl, rfl, SqT.of ht, rfl, _, _, rfl, rfl, _, rfl, ?_⟩
      by_cases c : m ds[i].p < ds[i].n
      · rw [decide_eq_true (show (m ds[i].p : Int) < (ds[i].n : Int) by omega)]
        refine iteT ⟨_, rfl, .inl ⟨rfl, _, SqL.of gq⟩, ?_⟩
        refine ⟨_, rfl, t, _, 2, _, rfl, rfl, SqT.of ht, rfl, rd, rfl, ⟨_, SqL.of hr1⟩, fun D hD => ?_⟩
        have nH : H D = none := none_back sG hD
        have wl := wr_len (ds := ds.take i) (fun e he => r20 e (List.mem_of_mem_take he)) m
        rw [List.length_take] at wl
        refine lc_it (walk_list (K := K) (a := rd) (xs := numsV ds[i].r)) (fun j G3 => Same G G3 ∧ ∃ zs, G3 D = some (.lst zs) ∧ Pairs (off (off G3 q) D) zs (wr1 ds[i] m j)) ⟨Same.updf hD, [], upd_same, Pairs.nil _⟩ (fun j G3 _ hh => SqL.of (hh.1 _ _ hr1)) ?_ ?_
        · rintro j x G3 G4 hj ⟨s3, zs, hz, pz⟩ ⟨rfl, hv⟩
          have lj : j < ds[i].r.length := by
            have := hj
            unfold numsV at this
            rw [List.length_map] at this
            exact this
          unfold numsV at hv
          rw [List.getElem?_map, List.getElem?_eq_getElem lj] at hv
          obtain rfl := Option.some.inj hv
          have zl := pz.1
          have wl1 := wr1_len ds[i] m j
          have l20 := r20 _ (List.getElem_mem li)
          have e1 : wr1 ds[i] m (j + 1) = wr1 ds[i] m j ++ if ds[i].n ≤ m ds[i].r[j] then [(ds[i], ds[i].r[j])] else [] := by
            unfold wr1
            rw [List.take_succ, List.getElem?_eq_getElem lj, List.filter_append, List.map_append]
            by_cases z : ds[i].n ≤ m ds[i].r[j]
            · simp [z]
            · simp [z]
          refine ⟨rfl, _, rfl, _, rfl, b, _, rfl, dget (sG.trans s3) (mp _ (List.getElem_mem _)), _, rfl, t, _, 0, _, rfl, rfl, SqT.of (s3 _ _ ht), rfl, _, _, rfl, rfl, _, rfl, ?_⟩
          by_cases z : ds[i].n ≤ m ds[i].r[j]
          · rw [decide_eq_true (show (ds[i].n : Int) ≤ (m ds[i].r[j] : Int) by omega)]
            refine iteT ⟨_, rfl, _, rfl, (by show 2 ≤ sizeLine; omega), fun T hT => ?_⟩
            have nTD : T ≠ D := fun e => by
              rw [e, hz] at hT
              cases hT
            have nTq : T ≠ q := fun e => by
              rw [e, s3 _ _ gq] at hT
              cases hT
            have sT := Same.updf (o := .tup [.ref t, .int (ds[i].r[j] : Int)]) hT
            refine ⟨zs, sT _ _ hz, by omega, fun c o e => ?_, zs ++ [.ref T], upd_same, ?_⟩
            · rw [upd_ne (ne_of_none e hD)]
              exact sT _ _ (s3 _ _ e)
            · rw [e1, if_pos z]
              have so : Same (off (off G4 q) D) (off (off (upd G4 T (.tup [.ref t, .int (ds[i].r[j] : Int)])) q) D) := off_same D (off_same q sT)
              have eo : off (off (upd (upd G4 T (.tup [.ref t, .int (ds[i].r[j] : Int)])) D (.lst (zs ++ [.ref T]))) q) D = off (off (upd G4 T (.tup [.ref t, .int (ds[i].r[j] : Int)])) q) D := by
                funext c
                by_cases c1 : c = D
                · unfold off
                  rw [if_pos c1, if_pos c1]
                · unfold off
                  rw [if_neg c1, if_neg c1, upd_ne c1]
              rw [eo]
              refine (pz.same so).app (Pairs.one ⟨T, .ref t, rfl, ?_, ?_⟩)
              · rw [off_at nTD, off_at nTq, upd_same]
              · exact (hx i _ _ hy hd).same (off_in (off_in ((sG.trans s3).trans sT) hq) nH)
          · rw [decide_eq_false (show ¬ (ds[i].n : Int) ≤ (m ds[i].r[j] : Int) by omega)]
            refine iteF ⟨s3, zs, hz, ?_⟩
            rw [e1, if_neg z, List.append_nil]
            exact pz
        · rintro G3 ⟨s3, zs, hz, pz⟩
          have ln : (numsV ds[i].r).length = ds[i].r.length := List.length_map _
          rw [ln] at pz
          have zl := pz.1
          have wl1 := wr1_len ds[i] m ds[i].r.length
          have l20 := r20 _ (List.getElem_mem li)
          have yl := py.1
          refine ⟨q, D, ys, zs, rfl, rfl, s3 _ _ gq, hz, by omega, fun c o e => ?_, ⟨_, upd_same, ?_⟩, _, rfl⟩
          · rw [upd_ne (ne_of_none e hq)]
            exact s3 _ _ (sG _ _ e)
          · rw [off_upd, wr_take hd, if_pos c]
            exact (py.same (off_same q s3)).app (pz.same (off_le _ D))
      · rw [decide_eq_false (show ¬ (m ds[i].p : Int) < (ds[i].n : Int) by omega)]
        refine iteF ⟨sG, ⟨ys, gq, ?_⟩, _, rfl⟩
        rw [wr_take hd, if_neg c, List.append_nil]
        exact py
    · rintro σ G ⟨sG, ⟨ys, gq, py⟩, v, rfl⟩
      rw [lx, List.take_length] at py
      exact ⟨_, rfl, k q G ys sG hq gq (py.same (off_le G q))⟩
end
end K27
set_option Elab.async false
set_option linter.all false
set_option maxRecDepth 100000
set_option maxHeartbeats 8000000
namespace K27
open PySem PySem.Spec PyProof.Rows L2 KB RZ
abbrev s_exact : Stmt := top 49
abbrev N_exact : List Str := ["_law_mine", "_law_theirs", "_law_alike", "_law_a", "_law_b", "_law_key"]
theorem sc_exact : FnScope N_exact ["_law_mine", "_law_theirs"] (defScope s_exact) := ⟨rfl, rfl, rfl, by decide +kernel, rfl, by decide +kernel, by decide +kernel⟩
/-- as Tr, with dictionaries of marks -/
def TD (H : Hp) : Nat → V → PyData → Prop
  | 0, x, d => FlatD x d
  | n + 1, x, d => FlatD x d ∨ (∃ (a : Addr) (xs : List V) (ds : List PyData), x = .ref a ∧ xs.length = ds.length ∧ ds.length ≤ 1000 ∧ ((H a = some (.lst xs) ∧ d = .list ds) ∨ (H a = some (.tup xs) ∧ d = .tuple ds)) ∧
      ∀ (i : Nat) (u : V) (e : PyData), xs[i]? = some u → ds[i]? = some e → TD H n u e) ∨ ∃ (a : Addr) (ps : List Nat) (m : Nat → Nat), x = .ref a ∧ (1 ≤ n ∧ ps.length ≤ 1000) ∧ H a = some (.dK (mV ps m)) ∧ d = .dict (ps.map fun p : Nat => (.int (p : Int), .int (m p : Int)))
theorem TD.same {H H' : Hp} (k : Same H H') : ∀ {n : Nat} {x : V} {d : PyData}, TD H n x d → TD H' n x d
  | 0, _, _, h => h
  | n + 1, _, _, h => by
    rcases h with h | ⟨a, xs, ds, e, l, l1, t, c⟩ | ⟨a, ps, m, e, n1, ha, ed⟩
    · exact .inl h
    · refine .inr (.inl ⟨a, xs, ds, e, l, l1, ?_, fun i u v e1 e2 => TD.same k (c i u v e1 e2)⟩)
      rcases t with ⟨t1, t2⟩ | ⟨t1, t2⟩
      · exact .inl ⟨k _ _ t1, t2⟩
      · exact .inr ⟨k _ _ t1, t2⟩
    · exact .inr (.inr ⟨a, ps, m, e, n1, k _ _ ha, ed⟩)
theorem TD.of {H : Hp} : ∀ {n : Nat} {x : V} {d : PyData}, Tr H n x d → TD H n x d
  | 0, _, _, h => h
  | n + 1, _, _, h => by
    rcases h with h | ⟨a, xs, ds, e, l, l1, t, c⟩
    · exact .inl h
    · exact .inr (.inl ⟨a, xs, ds, e, l, l1, t, fun i u v e1 e2 => TD.of (c i u v e1 e2)⟩)
theorem TD.up {H : Hp} : ∀ {n : Nat} {x : V} {d : PyData}, TD H n x d → TD H (n + 1) x d
  | 0, _, _, h => .inl h
  | n + 1, _, _, h => by
    rcases h with h | ⟨a, xs, ds, e, l, l1, t, c⟩ | h
    · exact .inl h
    · exact .inr (.inl ⟨a, xs, ds, e, l, l1, t, fun i u v e1 e2 => TD.up (c i u v e1 e2)⟩)
    · obtain ⟨a, ps, m, e, n1, r⟩ := h
      exact .inr (.inr ⟨a, ps, m, e, ⟨by omega, n1.2⟩, r⟩)
theorem TD.lst {H : Hp} {n : Nat} {a : Addr} {xs : List V} {ds : List PyData} (h : H a = some (.lst xs)) (l : xs.length = ds.length) (s : ds.length ≤ 1000) (k : ∀ (i : Nat) (u : V) (e : PyData), xs[i]? = some u → ds[i]? = some e → TD H n u e) : TD H (n + 1) (.ref a) (.list ds) :=
  .inr (.inl ⟨a, xs, ds, rfl, l, s, .inl ⟨h, rfl⟩, k⟩)
theorem TD.dct {H : Hp} {n : Nat} {a : Addr} {ps : List Nat} {m : Nat → Nat} (h : H a = some (.dK (mV ps m))) (l : ps.length ≤ 1000) : TD H (n + 2) (.ref a) (.dict (ps.map fun p : Nat => (.int (p : Int), .int (m p : Int)))) := .inr (.inr ⟨a, ps, m, rfl, ⟨by omega, l⟩, h, rfl⟩)
theorem TD.flat {H : Hp} {n : Nat} {x : V} {d : PyData} (h : FlatD x d) : TD H n x d := by
  cases n with
  | zero => exact h
  | succ n => exact .inl h
theorem td_cons {H : Hp} {n : Nat} {x : V} {xs : List V} {d : PyData} {ds : List PyData} (h : TD H n x d) (k : ∀ (i : Nat) (u : V) (e : PyData), xs[i]? = some u → ds[i]? = some e → TD H n u e) : ∀ (i : Nat) (u : V) (e : PyData), (x :: xs)[i]? = some u → (d :: ds)[i]? = some e → TD H n u e := fun i u e h1 h2 => by
  cases i with
  | zero =>
    cases h1
    cases h2
    exact h
  | succ i => exact k i u e h1 h2
theorem td_nil {H : Hp} {n : Nat} : ∀ (i : Nat) (u : V) (e : PyData), ([] : List V)[i]? = some u → ([] : List PyData)[i]? = some e → TD H n u e := fun i u e h1 h2 => by simp at h1
theorem dict_inj : ∀ {ps qs : List Nat} {m m' : Nat → Nat}, (ps.map fun p : Nat => (PyData.int (p : Int), PyData.int (m p : Int))) = (qs.map fun p : Nat => (PyData.int (p : Int), PyData.int (m' p : Int))) → ps = qs ∧ ∀ p ∈ ps, m p = m' p
  | [], [], _, _, _ => ⟨rfl, fun p h => nomatch h⟩
  | [], q :: qs, _, _, e => by cases e
  | p :: ps, [], _, _, e => by cases e
  | p :: ps, q :: qs, m, m', e => by
    rw [List.map_cons, List.map_cons] at e
    obtain ⟨e1, e2⟩ := List.cons.inj e
    have h1 := PyData.int.inj (congrArg Prod.fst e1)
    have h2 := PyData.int.inj (congrArg Prod.snd e1)
    have hp : p = q := by omega
    subst hp
    obtain ⟨h3, h4⟩ := dict_inj e2
    refine ⟨by rw [h3], fun r hr => ?_⟩
    rcases List.mem_cons.mp hr with rfl | hr
    · omega
    · exact h4 r hr
theorem mV_val {ps : List Nat} {m : Nat → Nat} {p : Nat} (h : p ∈ ps) : valV (mV ps m) (ky p) = some (.int (m p : Int)) := dV_val h
def spExactD (n : Nat) : Sp := fun vs H Q _ => ∃ (x y : V) (d : PyData), vs = [x, y] ∧ TD H n x d ∧ TD H n y d ∧ ∀ H', Same H H' → Q (.bl true) H'
section
variable {P : Program} {w : World} {K : PySem.W.Frag} {mg : Str → Option Value} {base : Heap} {f : Addr} {fd : FuncData}
theorem ok_exact (F : FnP K "_law_exact" s_exact f fd) (Z : FreeS mg) (gE : mg "_law_exact" = some (.ref f)) : ∀ n : Nat, FnOk P w K mg base CX0 (n + 1) f fd ["_law_mine", "_law_theirs"] (spExactD n) := by
  have bE : Binds K fd ["_law_mine", "_law_theirs"] [] := F.bindsN fun _ _ _ _ _ _ us hl => match us, hl with | [_, _], _ => rfl
  have kitF : ∀ {t : String}, kitB t "list" = some false → kitB t "tuple" = some false → PySem.W.kitAny K (.type t) [.type "list", .type "tuple"] = some false := fun h1 h2 =>
    kitAny_cons (kit_ty h1) (fun _ => kitAny_cons (kit_ty h2) (fun _ => kitAny_nil) (fun z => nomatch z)) (fun z => nomatch z)
  have la : kitB "list" "list" = some true := by decide +kernel
  have lt : kitB "list" "tuple" = some false := by decide +kernel
  have ta : kitB "tuple" "tuple" = some true := by decide +kernel
  have tl : kitB "tuple" "list" = some false := by decide +kernel
  intro n
  induction n with
  | zero =>
    refine F.ok sc_exact (fun vs H Q E h => ?_) (fun cdv A outer s H vs Q E hr h => ?_)
    · obtain ⟨x, y, d, rfl, _⟩ := h
      rfl
    · obtain ⟨x, y, d, rfl, hx, hy, k⟩ := h
      have hx : FlatD x d := hx
      obtain rfl : y = x := FlatD.eq hy hx
      have nd := sc_exact.nd
      refine ⟨_, PSs.nox (pss_cons (ps_if (pt_val (pe_callB call_isiT (by rfl) Z.isi (by decide +kernel) (pa_cons (pv 0) (pa_cons (pe_tup (pa_cons (pe_bltn (v := .ty "list") (by rfl) Z.tlist (by decide +kernel) rfl) (pa_cons (pe_bltn (v := .ty "tuple") (by rfl) Z.ttuple (by decide +kernel) rfl) (pa_nil)))) pa_nil)))) (pss_cons ps_dead (pss_one ps_dead)) (pss_nil))
      (pss_cons (ps_if (pt_val (pe_callB call_isi (by rfl) Z.isi (by decide +kernel) (pa_cons (pv 0) (pa_cons (pe_bltn (v := .ty "dict") (by rfl) Z.tdict (by decide +kernel) rfl) pa_nil)))) (pss_cons ps_dead (pss_one ps_dead)) (pss_nil))
      (pss_cons (ps_set (i := 2) nd rfl (Or.inl rfl) (pe_cmpR op_eq (pe_callB call_isi (by rfl) Z.isi (by decide +kernel) (pa_cons (pv 0) (pa_cons (pe_bltn (v := .ty "int") (by rfl) Z.int (by decide +kernel) rfl) pa_nil))) (pe_callB call_isi (by rfl) Z.isi (by decide +kernel) (pa_cons (pv 1) (pa_cons (pe_bltn (v := .ty "int") (by rfl) Z.int (by decide +kernel) rfl) pa_nil))) (nomark _)))
      (pss_one (ps_ret (pe_and (pv 2) (pe_and (pe_cmpR op_eq (pe_callB call_isi (by rfl) Z.isi (by decide +kernel) (pa_cons (pv 0) (pa_cons (pe_bltn (v := .ty "bool") (by rfl) Z.tbool (by decide +kernel) rfl) pa_nil))) (pe_callB call_isi (by rfl) Z.isi (by decide +kernel) (pa_cons (pv 1) (pa_cons (pe_bltn (v := .ty "bool") (by rfl) Z.tbool (by decide +kernel) rfl) pa_nil))) (nomark _)) (pe_one (pe_cmpR op_eq (pv 0) (pv 1) (nomark _)))))))))), ?_⟩
      refine ⟨_, rfl, (by show 2 ≤ sizeLine; decide), fun T hT => ?_⟩
      have s1 : Same H (upd H T (.tup [.ty "list", .ty "tuple"])) := Same.updf hT
      obtain ⟨t', ty', k1', k2', k3', i', b', k4', k5'⟩ := FlatD.ty (K := K) (H := upd H T (.tup [.ty "list", .ty "tuple"])) hx
      refine ⟨y, T, [.ty "list", .ty "tuple"], .type t', [.type "list", .type "tuple"], false, rfl, upd_same, .cons (.ty _) (.cons (.ty _) .nil), ty', kitF k1' k2', false, rfl, iteF ?_⟩
      refine ⟨_, rfl, y, .ty "dict", .type t', .type "dict", false, rfl, .ty _, ty', kit_ty k3', false, rfl, iteF ?_⟩
      refine ⟨_, rfl, y, .ty "int", .type t', .type "int", i', rfl, .ty _, ty', kit_ty k4', _, rfl, y, .ty "int", .type t', .type "int", i', rfl, .ty _, ty', kit_ty k4', rfl, ?_⟩
      rw [decide_eq_true (rfl : V.bl i' = V.bl i')]
      refine ⟨_, rfl, true, rfl, iteT ?_⟩
      refine ⟨_, rfl, y, .ty "bool", .type t', .type "bool", b', rfl, .ty _, ty', kit_ty k5', _, rfl, y, .ty "bool", .type t', .type "bool", b', rfl, .ty _, ty', kit_ty k5', rfl, ?_⟩
      rw [decide_eq_true (rfl : V.bl b' = V.bl b')]
      refine ⟨true, rfl, iteT ?_⟩
      refine ⟨_, rfl, _, rfl, FlatD.scal hx, ?_⟩
      rw [decide_eq_true (rfl : y = y)]
      exact k _ s1
  | succ n ih =>
    refine F.ok sc_exact (fun vs H Q E h => ?_) (fun cdv A outer s H vs Q E hr h => ?_)
    · obtain ⟨x, y, d, rfl, _⟩ := h
      rfl
    · obtain ⟨x, y, d, rfl, hx, hy, k⟩ := h
      have hu : (A.deeper (envOfC "_law_exact" (defScope s_exact) s.heap.objs.size f cdv)).units + 1 < cLine := by
        have := hr.units
        omega
      have nd := sc_exact.nd
      refine ⟨_, PSs.nox (pss_cons (ps_if (pt_val (pe_callB call_isiT (by rfl) Z.isi (by decide +kernel) (pa_cons (pv 0) (pa_cons (pe_tup (pa_cons (pe_bltn (v := .ty "list") (by rfl) Z.tlist (by decide +kernel) rfl) (pa_cons (pe_bltn (v := .ty "tuple") (by rfl) Z.ttuple (by decide +kernel) rfl) (pa_nil)))) pa_nil)))) (pss_cons (ps_set (i := 2) nd rfl (Or.inl rfl) (pe_and (pe_cmpR op_eq (pe_callB call_isi (by rfl) Z.isi (by decide +kernel) (pa_cons (pv 1) (pa_cons (pe_bltn (v := .ty "list") (by rfl) Z.tlist (by decide +kernel) rfl) pa_nil))) (pe_callB call_isi (by rfl) Z.isi (by decide +kernel) (pa_cons (pv 0) (pa_cons (pe_bltn (v := .ty "list") (by rfl) Z.tlist (by decide +kernel) rfl) pa_nil))) (nomark _)) (pe_one (pe_cmpR op_eq (pe_callB call_isi (by rfl) Z.isi (by decide +kernel) (pa_cons (pv 1) (pa_cons (pe_bltn (v := .ty "tuple") (by rfl) Z.ttuple (by decide +kernel) rfl) pa_nil))) (pe_callB call_isi (by rfl) Z.isi (by decide +kernel) (pa_cons (pv 0) (pa_cons (pe_bltn (v := .ty "tuple") (by rfl) Z.ttuple (by decide +kernel) rfl) pa_nil))) (nomark _)))))
      (pss_one (ps_ret (pe_and (pv 2) (pe_and (pe_cmpR op_eq (pe_callB call_len_seq (by rfl) Z.len (by decide +kernel) (pa_cons (pv 0) (pa_nil))) (pe_callB call_len_seq (by rfl) Z.len (by decide +kernel) (pa_cons (pv 1) (pa_nil))) (nomark _)) (pe_one (pe_callB (cr_all rfl) (by rfl) Z.all (by decide +kernel) (pa_cons (pe_lc (own := [("_law_a", 3), ("_law_b", 4)]) (g := gTup K 2 (gCons (gName 3) (gCons (gName 4) (gNil)))) (tt := tYes) (te := tCall (spExactD n) [] E0 (tCons (tVar 3) (tCons (tVar 4) tNil))) (by rfl) nd (pi_zipA (by rfl) Z.zip (pa_cons (pv 0) (pa_cons (pv 1) pa_nil)))
          (blkOk_by (own := [("_law_a", 3), ("_law_b", 4)]) (N := N_exact) (sc := defScope s_exact) (by decide +kernel)) (fun _ _ _ _ _ => pg_tup rfl (pgs_cons (pg_name (i := 3) nd rfl (Or.inl rfl)) (pgs_cons (pg_name (i := 4) nd rfl (Or.inl rfl)) (pgs_nil)))) (fun _ _ _ _ _ => pts_nil)
          (fun _ _ _ _ _ => pe_call ih hr rfl gE F.kp bE .nil pass0 (pa_cons (pv 3) (pa_cons (pv 4) pa_nil)))) (pa_nil))))))))) (pss_nil))
      (pss_cons (ps_if (pt_val (pe_callB call_isi (by rfl) Z.isi (by decide +kernel) (pa_cons (pv 0) (pa_cons (pe_bltn (v := .ty "dict") (by rfl) Z.tdict (by decide +kernel) rfl) pa_nil)))) (pss_cons (ps_set (i := 2) nd rfl (Or.inl rfl) (pe_and (pe_callB call_isi (by rfl) Z.isi (by decide +kernel) (pa_cons (pv 1) (pa_cons (pe_bltn (v := .ty "dict") (by rfl) Z.tdict (by decide +kernel) rfl) pa_nil))) (pe_one (pe_call ih hr rfl gE F.kp bE .nil pass0 (pa_cons (pe_callTy (call_list_dK rfl) (by rfl) Z.tlist (by decide +kernel) (pa_cons (pv 0) pa_nil)) (pa_cons (pe_callTy (call_list_dK rfl) (by rfl) Z.tlist (by decide +kernel) (pa_cons (pv 1) pa_nil)) pa_nil))))))
      (pss_one (ps_ret (pe_and (pv 2) (pe_one (pe_callB (cr_all rfl) (by rfl) Z.all (by decide +kernel) (pa_cons (pe_lock (pe_lc (own := [("_law_key", 5)]) (g := gName 5) (tt := tYes) (te := tCall (spExactD n) [] E0 (tCons (tDGet (tVar 0) (tVar 5)) (tCons (tDGet (tVar 1) (tVar 5)) tNil))) (by rfl) nd (pi_keys (pv 0))
          (blkOk_by (own := [("_law_key", 5)]) (N := N_exact) (sc := defScope s_exact) (by decide +kernel)) (fun _ _ _ _ _ => pg_name (i := 5) nd rfl (Or.inl rfl)) (fun _ _ _ _ _ => pts_nil)
          (fun _ _ _ _ _ => pe_call ih hr rfl gE F.kp bE .nil pass0 (pa_cons (pe_dget hu (pv 0) (pv 5) (fun _ _ => rfl)) (pa_cons (pe_dget hu (pv 1) (pv 5) (fun _ _ => rfl)) pa_nil))))) (pa_nil)))))))) (pss_nil))
      (pss_cons (ps_set (i := 2) nd rfl (Or.inl rfl) (pe_cmpR op_eq (pe_callB call_isi (by rfl) Z.isi (by decide +kernel) (pa_cons (pv 0) (pa_cons (pe_bltn (v := .ty "int") (by rfl) Z.int (by decide +kernel) rfl) pa_nil))) (pe_callB call_isi (by rfl) Z.isi (by decide +kernel) (pa_cons (pv 1) (pa_cons (pe_bltn (v := .ty "int") (by rfl) Z.int (by decide +kernel) rfl) pa_nil))) (nomark _)))
      (pss_one (ps_ret (pe_and (pv 2) (pe_and (pe_cmpR op_eq (pe_callB call_isi (by rfl) Z.isi (by decide +kernel) (pa_cons (pv 0) (pa_cons (pe_bltn (v := .ty "bool") (by rfl) Z.tbool (by decide +kernel) rfl) pa_nil))) (pe_callB call_isi (by rfl) Z.isi (by decide +kernel) (pa_cons (pv 1) (pa_cons (pe_bltn (v := .ty "bool") (by rfl) Z.tbool (by decide +kernel) rfl) pa_nil))) (nomark _)) (pe_one (pe_cmpR op_eq (pv 0) (pv 1) (nomark _)))))))))), ?_⟩
      rcases hx with hx | ⟨a, xs, ds, rfl, lx, l1, tx, kx⟩ | ⟨a, ps, m, rfl, n1, ha, rfl⟩
      · have hy : FlatD y d := by
          rcases hy with hy | ⟨b, ys, es, rfl, ly, l2, ty, ky⟩ | ⟨b, qs, m', rfl, _, hb, rfl⟩
          · exact hy
          · rcases ty with ⟨_, rfl⟩ | ⟨_, rfl⟩
            · exact (FlatD.noL hx).elim
            · exact (FlatD.noT hx).elim
          · cases hx
        obtain rfl : y = x := FlatD.eq hy hx
        refine ⟨_, rfl, (by show 2 ≤ sizeLine; decide), fun T hT => ?_⟩
        have s1 : Same H (upd H T (.tup [.ty "list", .ty "tuple"])) := Same.updf hT
        obtain ⟨t', ty', k1', k2', k3', i', b', k4', k5'⟩ := FlatD.ty (K := K) (H := upd H T (.tup [.ty "list", .ty "tuple"])) hx
        refine ⟨y, T, [.ty "list", .ty "tuple"], .type t', [.type "list", .type "tuple"], false, rfl, upd_same, .cons (.ty _) (.cons (.ty _) .nil), ty', kitF k1' k2', false, rfl, iteF ?_⟩
        refine ⟨_, rfl, y, .ty "dict", .type t', .type "dict", false, rfl, .ty _, ty', kit_ty k3', false, rfl, iteF ?_⟩
        refine ⟨_, rfl, y, .ty "int", .type t', .type "int", i', rfl, .ty _, ty', kit_ty k4', _, rfl, y, .ty "int", .type t', .type "int", i', rfl, .ty _, ty', kit_ty k4', rfl, ?_⟩
        rw [decide_eq_true (rfl : V.bl i' = V.bl i')]
        refine ⟨_, rfl, true, rfl, iteT ?_⟩
        refine ⟨_, rfl, y, .ty "bool", .type t', .type "bool", b', rfl, .ty _, ty', kit_ty k5', _, rfl, y, .ty "bool", .type t', .type "bool", b', rfl, .ty _, ty', kit_ty k5', rfl, ?_⟩
        rw [decide_eq_true (rfl : V.bl b' = V.bl b')]
        refine ⟨true, rfl, iteT ?_⟩
        refine ⟨_, rfl, _, rfl, FlatD.scal hx, ?_⟩
        rw [decide_eq_true (rfl : y = y)]
        exact k _ s1
      · rcases hy with hy | ⟨b, ys, es, rfl, ly, l2, ty, ky⟩ | ⟨b, qs, m', rfl, _, hb, e⟩
        · rcases tx with ⟨_, rfl⟩ | ⟨_, rfl⟩
          · exact (FlatD.noL hy).elim
          · exact (FlatD.noT hy).elim
        rotate_left
        · rcases tx with ⟨_, rfl⟩ | ⟨_, rfl⟩ <;> cases e
        refine ⟨_, rfl, (by show 2 ≤ sizeLine; decide), fun T hT => ?_⟩
        have s1 : Same H (upd H T (.tup [.ty "list", .ty "tuple"])) := Same.updf hT
        have ll : (1000 : Nat) ≤ 100000 := by decide
        have fin : ∀ (H2 : Hp), Same H H2 → ∀ (D : Addr), H2 D = some (.lst ((List.range xs.length).filterMap fun _ => some (V.bl true))) → ∃ (a : Addr) (bs : List Bool), [V.ref D] = [V.ref a] ∧ SqL K H2 a (bs.map V.bl) ∧ Q (.bl (bs.all id)) H2 := fun H2 s2 D hR => by
          obtain ⟨bs, hB, hb'⟩ := all_bits (K := K) hR
          refine ⟨D, bs, rfl, hB, ?_⟩
          rw [hb']
          exact k H2 s2
        rcases tx with ⟨ha, rfl⟩ | ⟨ha, rfl⟩
        · rcases ty with ⟨hb, e⟩ | ⟨hb, e⟩
          · cases e
            have ha1 := s1 _ _ ha
            have hb1 := s1 _ _ hb
            refine ⟨.ref a, T, [.ty "list", .ty "tuple"], .type "list", [.type "list", .type "tuple"], true, rfl, upd_same, .cons (.ty _) (.cons (.ty _) .nil), .base (.lst ha1), kitAny_cons (kit_ty la) (fun z => nomatch z) (fun _ => rfl), true, rfl, iteT ?_⟩
            refine ⟨_, rfl, .ref b, .ty "list", .type "list", .type "list", true, rfl, .ty _, .base (.lst hb1), kit_ty la, _, rfl, .ref a, .ty "list", .type "list", .type "list", true, rfl, .ty _, .base (.lst ha1), kit_ty la, rfl, true, rfl, iteT ?_⟩
            refine ⟨_, rfl, .ref b, .ty "tuple", .type "list", .type "tuple", false, rfl, .ty _, .base (.lst hb1), kit_ty lt, _, rfl, .ref a, .ty "tuple", .type "list", .type "tuple", false, rfl, .ty _, .base (.lst ha1), kit_ty lt, rfl, ?_⟩
            refine ⟨_, rfl, true, rfl, iteT ?_⟩
            refine ⟨_, rfl, a, xs, rfl, Or.inl (SqL.of ha1), _, rfl, b, ys, rfl, Or.inl (SqL.of hb1), rfl, ?_⟩
            rw [decide_eq_true (show V.int (xs.length : Int) = V.int (ys.length : Int) by rw [lx, ly])]
            refine ⟨true, rfl, iteT ?_⟩
            refine ⟨_, rfl, _, rfl, a, b, xs, ys, rfl, Or.inl ⟨SqL.of ha1, SqL.of hb1, fun D hD => ?_⟩⟩
            refine lc_sel (n := xs.length) (walk_zip (K := K) (a := a) (b := b) (xs := xs) (ys := ys) (by omega)) (fun _ => some (.bl true)) (by omega) hD (fun H2 s2 => ⟨SqL.of (s2 _ _ ha1), SqL.of (s2 _ _ hb1)⟩) ?_ ?_
            · rintro i v H2 H3 Qy Qn hi sH ⟨T2, x1, x2, rfl, nT, rfl, g1, g2⟩ ky' kn
              dsimp only at g1 g2
              refine ⟨T2, [_, _], rfl, .inl (.inl upd_same), rfl, _, [_], rfl, _, [], rfl, rfl, ?_⟩
              have sT : Same H2 (upd H2 T2 (.tup [x1, x2])) := Same.updf nT
              have gd : ds[i]? = some (ds[i]'(by omega)) := List.getElem?_eq_getElem _
              exact ⟨rfl, _, rfl, _, rfl, x1, x2, _, rfl, (kx i x1 _ g1 gd).same (s1.trans (sH.trans sT)), (ky i x2 _ g2 gd).same (s1.trans (sH.trans sT)), fun H5 s5 => ky' _ _ (sT.trans s5) rfl⟩
            · intro H2 s2 hR
              exact fin H2 (s1.trans s2) D hR
          · cases e
        · rcases ty with ⟨hb, e⟩ | ⟨hb, e⟩
          · cases e
          · cases e
            have ha1 := s1 _ _ ha
            have hb1 := s1 _ _ hb
            refine ⟨.ref a, T, [.ty "list", .ty "tuple"], .type "tuple", [.type "list", .type "tuple"], true, rfl, upd_same, .cons (.ty _) (.cons (.ty _) .nil), .base (.tup ha1), kitAny_cons (kit_ty tl) (fun _ => kitAny_cons (kit_ty ta) (fun z => nomatch z) (fun _ => rfl)) (fun z => nomatch z), true, rfl, iteT ?_⟩
            refine ⟨_, rfl, .ref b, .ty "list", .type "tuple", .type "list", false, rfl, .ty _, .base (.tup hb1), kit_ty tl, _, rfl, .ref a, .ty "list", .type "tuple", .type "list", false, rfl, .ty _, .base (.tup ha1), kit_ty tl, rfl, true, rfl, iteT ?_⟩
            refine ⟨_, rfl, .ref b, .ty "tuple", .type "tuple", .type "tuple", true, rfl, .ty _, .base (.tup hb1), kit_ty ta, _, rfl, .ref a, .ty "tuple", .type "tuple", .type "tuple", true, rfl, .ty _, .base (.tup ha1), kit_ty ta, rfl, ?_⟩
            refine ⟨_, rfl, true, rfl, iteT ?_⟩
            refine ⟨_, rfl, a, xs, rfl, Or.inr (Or.inl (.inl ha1)), _, rfl, b, ys, rfl, Or.inr (Or.inl (.inl hb1)), rfl, ?_⟩
            rw [decide_eq_true (show V.int (xs.length : Int) = V.int (ys.length : Int) by rw [lx, ly])]
            refine ⟨true, rfl, iteT ?_⟩
            refine ⟨_, rfl, _, rfl, a, b, xs, ys, rfl, Or.inr ⟨SqT.of ha1, SqT.of hb1, fun D hD => ?_⟩⟩
            refine lc_sel (n := xs.length) (walk_zipT (K := K) (a := a) (b := b) (xs := xs) (ys := ys) (by omega)) (fun _ => some (.bl true)) (by omega) hD (fun H2 s2 => ⟨SqT.of (s2 _ _ ha1), SqT.of (s2 _ _ hb1)⟩) ?_ ?_
            · rintro i v H2 H3 Qy Qn hi sH ⟨T2, x1, x2, rfl, nT, rfl, g1, g2⟩ ky' kn
              dsimp only at g1 g2
              refine ⟨T2, [_, _], rfl, .inl (.inl upd_same), rfl, _, [_], rfl, _, [], rfl, rfl, ?_⟩
              have sT : Same H2 (upd H2 T2 (.tup [x1, x2])) := Same.updf nT
              have gd : ds[i]? = some (ds[i]'(by omega)) := List.getElem?_eq_getElem _
              exact ⟨rfl, _, rfl, _, rfl, x1, x2, _, rfl, (kx i x1 _ g1 gd).same (s1.trans (sH.trans sT)), (ky i x2 _ g2 gd).same (s1.trans (sH.trans sT)), fun H5 s5 => ky' _ _ (sT.trans s5) rfl⟩
            · intro H2 s2 hR
              exact fin H2 (s1.trans s2) D hR
      · rcases hy with hy | ⟨b, ys, es, rfl, ly, l2, ty, ky⟩ | ⟨b, qs, m', rfl, _, hb, e⟩
        · cases hy
        · rcases ty with ⟨_, e⟩ | ⟨_, e⟩ <;> cases e
        obtain ⟨rfl, em⟩ := dict_inj (PyData.dict.inj e)
        refine ⟨_, rfl, (by show 2 ≤ sizeLine; decide), fun T hT => ?_⟩
        have s1 : Same H (upd H T (.tup [.ty "list", .ty "tuple"])) := Same.updf hT
        have ha1 := s1 _ _ ha
        have hb1 := s1 _ _ hb
        have dl : kitB "dict" "list" = some false := by decide +kernel
        have dt : kitB "dict" "tuple" = some false := by decide +kernel
        refine ⟨.ref a, T, [.ty "list", .ty "tuple"], .type "dict", [.type "list", .type "tuple"], false, rfl, upd_same, .cons (.ty _) (.cons (.ty _) .nil), .base (.dK ha1), kitF dl dt, false, rfl, iteF ?_⟩
        refine ⟨_, rfl, .ref a, .ty "dict", .type "dict", .type "dict", true, rfl, .ty _, .base (.dK ha1), kit_ty (by decide +kernel), true, rfl, iteT ?_⟩
        refine ⟨_, rfl, .ref b, .ty "dict", .type "dict", .type "dict", true, rfl, .ty _, .base (.dK hb1), kit_ty (by decide +kernel), true, rfl, iteT ?_⟩
        have kl : ∀ f : Nat → Nat, ((mV ps f).map fun kv => kV kv.1) = numsV ps := fun f => by
          unfold mV dV numsV
          rw [List.map_map]
          rfl
        refine ⟨_, rfl, a, _, rfl, ha1, fun l1 hl1 => ?_⟩
        rw [kl]
        have s2 := Same.updf (o := .lst (numsV ps)) hl1
        refine ⟨_, rfl, b, _, rfl, s2 _ _ hb1, fun l2 hl2 => ?_⟩
        rw [kl]
        have s3 := Same.updf (o := .lst (numsV ps)) hl2
        have tdl : ∀ (G : Hp) (l : Addr), G l = some (.lst (numsV ps)) → TD G n (.ref l) (.list (ps.map fun p : Nat => .int (p : Int))) := fun G l e => by
          obtain ⟨n', rfl⟩ : ∃ n', n = n' + 1 := ⟨n - 1, by omega⟩
          refine TD.lst e (by unfold numsV; rw [List.length_map, List.length_map]) (by rw [List.length_map]; exact n1.2) fun i u v e1 e2 => ?_
          unfold numsV at e1
          rw [List.getElem?_map] at e1 e2
          obtain ⟨p, q1, rfl⟩ := Option.map_eq_some_iff.mp e1
          rw [q1] at e2
          cases e2
          exact TD.flat (.int _)
        refine ⟨.ref l1, .ref l2, _, rfl, tdl _ _ (s3 _ _ upd_same), tdl _ _ upd_same, fun G s4 => ?_⟩
        have s14 := s1.trans ((s2.trans s3).trans s4)
        have haG := s14 _ _ ha
        have hbG := s14 _ _ hb
        refine ⟨_, rfl, true, rfl, iteT ?_⟩
        refine ⟨a, _, haG, trivial, fun od => ?_⟩
        refine ⟨_, rfl, a, od, rfl, .inl ⟨_, upd_same, fun D hD => ?_⟩⟩
        have nDa : D ≠ a := fun z => by
          rw [z, upd_same] at hD
          cases hD
        have hDG : G D = none := by
          rw [upd_ne nDa] at hD
          exact hD
        refine lc_sel (n := ps.length) (by have := walk_keys (d := a) (o := od) (kvs := mV ps m); rw [dV_len] at this; exact this) (fun _ => some (.bl true)) (by have := n1.2; omega) hD (fun H2 q2 => q2 _ _ upd_same) ?_ ?_
        · rintro i v H2 H3 Qy Qn hi sH ⟨rfl, k', v', ek, rfl⟩ ky' kn
          have ei : (mV ps m)[i]? = some (ky ps[i], .int (m ps[i] : Int)) := by
            unfold mV dV
            rw [List.getElem?_map, List.getElem?_eq_getElem hi]
            rfl
          rw [ei] at ek
          cases ek
          have mp := List.getElem_mem hi
          have fa := sH _ _ upd_same
          have da : DGet H3 a (.int (ps[i] : Int)) (some (.int (m ps[i] : Int))) := .inl ⟨_, ky ps[i], .inr ⟨od, fa⟩, rfl, (mV_val mp).symm⟩
          have db : DGet H3 b (.int (ps[i] : Int)) (some (.int (m' ps[i] : Int))) := by
            by_cases z : b = a
            · have e1 : mV ps m = mV ps m' := dV_congr fun p hp => by rw [em p hp]
              rw [z]
              exact .inl ⟨_, ky ps[i], .inr ⟨od, by rw [← e1]; exact fa⟩, rfl, (mV_val mp).symm⟩
            · exact .inl ⟨_, ky ps[i], .inl (sH _ _ (by rw [upd_ne z]; exact hbG)), rfl, (mV_val mp).symm⟩
          refine ⟨rfl, _, rfl, _, rfl, a, _, rfl, da, _, rfl, _, rfl, b, _, rfl, db, ?_⟩
          rw [← em _ mp]
          exact ⟨_, _, _, rfl, TD.flat (.int _), TD.flat (.int _), fun H5 s5 => ky' _ _ s5 rfl⟩
        · intro H2 q2 hR
          refine ⟨q2 _ _ upd_same, ?_⟩
          obtain ⟨bs, hB, hb'⟩ := all_bits (K := K) hR
          have hR2 : (upd H2 a (.dK (mV ps m))) D = some (.lst ((List.range ps.length).filterMap fun _ => some (V.bl true))) := by
            rw [upd_ne nDa]
            exact hR
          obtain ⟨bs, hB, hb'⟩ := all_bits (K := K) hR2
          refine ⟨D, bs, rfl, hB, ?_⟩
          rw [hb']
          refine k _ fun c o e => ?_
          by_cases z : c = a
          · rw [z, ha] at e
            cases e
            rw [z, upd_same]
          · rw [upd_ne z]
            exact q2 _ _ (by rw [upd_ne z]; exact s14 _ _ e)
end
end K27
set_option Elab.async false
set_option linter.all false
set_option maxRecDepth 100000
set_option maxHeartbeats 8000000
namespace K27
open PySem PySem.Spec PyProof.Rows L2 KB
theorem pe_dead {X : Cx} {e : Expr} : PE X e (fun _ _ _ => False) := ⟨fun _ _ _ _ _ _ h => h.elim⟩
/-- what is new in H' -/
def nw (H H' : Hp) : Hp := fun b => match H b with
  | none => H' b
  | some _ => none
theorem nw_at {H H' : Hp} {b : Addr} (h : H b = none) : nw H H' b = H' b := by
  unfold nw
  rw [h]
theorem nw_le (H H' : Hp) : Same (nw H H') H' := fun b o e => by
  unfold nw at e
  split at e
  · exact e
  · cases e
theorem nw_none {H H' : Hp} {b : Addr} {o : HO} (h : nw H H' b = some o) : H b = none := by
  unfold nw at h
  split at h
  · assumption
  · cases h
theorem nw_same {H G G2 : Hp} (k : Same G G2) : Same (nw H G) (nw H G2) := fun b o e => by
  rw [nw_at (nw_none e)]
  exact k _ _ (nw_le _ _ _ _ e)
theorem nw_sub {H G G2 : Hp} (k : Same H G) : Same (nw G G2) (nw H G2) := fun b o e => by
  rw [nw_at (none_back k (nw_none e))]
  exact nw_le _ _ _ _ e
def spSame (n : Nat) : Sp := fun vs H Q _ => ∃ (x : V) (d : PyData), vs = [x] ∧ Tr H n x d ∧ ∀ y H', Same H H' → Tr (nw H H') n y d → Q y H'
abbrev s_same : Stmt := top 48
abbrev N_same : List Str := ["_law_thing", "_law_item", "_law_key"]
theorem sc_same : FnScope N_same ["_law_thing"] (defScope s_same) := ⟨rfl, rfl, rfl, by decide +kernel, rfl, by decide +kernel, by decide +kernel⟩
section
variable {P : Program} {w : World} {K : PySem.W.Frag} {mg : Str → Option Value} {base : Heap} {f : Addr} {fd : FuncData}
theorem ok_same (F : FnP K "_law_same" s_same f fd) (Z : FreeS mg) (gS : mg "_law_same" = some (.ref f)) : ∀ n : Nat, FnOk P w K mg base CX0 (n + 1) f fd ["_law_thing"] (spSame n) := by
  have bS : Binds K fd ["_law_thing"] [] := F.bindsN fun _ _ _ _ _ _ us hl => match us, hl with | [_], _ => rfl
  intro n
  induction n with
  | zero =>
    refine F.ok sc_same (fun vs H Q E h => ?_) (fun cdv A outer s H vs Q E hr h => ?_)
    · obtain ⟨x, d, rfl, _⟩ := h
      rfl
    · obtain ⟨x, d, rfl, hx, k⟩ := h
      have hx : FlatD x d := hx
      have nd := sc_same.nd
      refine ⟨_, PSs.nox (pss_cons (ps_if (pt_val (pe_callB call_isi (by rfl) Z.isi (by decide +kernel) (pa_cons (pv 0) (pa_cons (pe_bltn (v := .ty "dict") (by rfl) Z.tdict (by decide +kernel) rfl) pa_nil)))) (pss_one ps_dead) (pss_nil))
      (pss_cons (ps_if (pt_val (pe_callB call_isi (by rfl) Z.isi (by decide +kernel) (pa_cons (pv 0) (pa_cons (pe_bltn (v := .ty "list") (by rfl) Z.tlist (by decide +kernel) rfl) pa_nil)))) (pss_one ps_dead) (pss_nil))
      (pss_one (ps_ret (pe_ifExp (pt_val (pe_callB call_isi (by rfl) Z.isi (by decide +kernel) (pa_cons (pv 0) (pa_cons (pe_bltn (v := .ty "tuple") (by rfl) Z.ttuple (by decide +kernel) rfl) pa_nil)))) (pe_dead) (pv 0)))))), ?_⟩
      obtain ⟨t', ty', k1', k2', k3', i', b', k4', k5'⟩ := FlatD.ty (K := K) (H := H) hx
      refine ⟨_, rfl, x, .ty "dict", .type t', .type "dict", false, rfl, .ty _, ty', kit_ty k3', false, rfl, iteF ?_⟩
      refine ⟨_, rfl, x, .ty "list", .type t', .type "list", false, rfl, .ty _, ty', kit_ty k1', false, rfl, iteF ?_⟩
      refine ⟨_, rfl, x, .ty "tuple", .type t', .type "tuple", false, rfl, .ty _, ty', kit_ty k2', false, rfl, iteF ?_⟩
      exact ⟨_, rfl, k x H (Same.refl H) (Tr.flat hx)⟩
  | succ n ih =>
    refine F.ok sc_same (fun vs H Q E h => ?_) (fun cdv A outer s H vs Q E hr h => ?_)
    · obtain ⟨x, d, rfl, _⟩ := h
      rfl
    · obtain ⟨x, d, rfl, hx, k⟩ := h
      have nd := sc_same.nd
      have sl : (2000 : Nat) ≤ sizeLine := by decide
      refine ⟨_, PSs.nox (pss_cons (ps_if (pt_val (pe_callB call_isi (by rfl) Z.isi (by decide +kernel) (pa_cons (pv 0) (pa_cons (pe_bltn (v := .ty "dict") (by rfl) Z.tdict (by decide +kernel) rfl) pa_nil)))) (pss_one ps_dead) (pss_nil))
      (pss_cons (ps_if (pt_val (pe_callB call_isi (by rfl) Z.isi (by decide +kernel) (pa_cons (pv 0) (pa_cons (pe_bltn (v := .ty "list") (by rfl) Z.tlist (by decide +kernel) rfl) pa_nil)))) (pss_one (ps_ret (pe_lc (own := [("_law_item", 1)]) (g := gName 1) (tt := tYes) (te := tCall (spSame n) [] E0 (tCons (tVar 1) tNil)) (by rfl) nd (pi_list (pv 0))
          (blkOk_by (own := [("_law_item", 1)]) (N := N_same) (sc := defScope s_same) (by decide +kernel)) (fun _ _ _ _ _ => pg_name (i := 1) nd rfl (Or.inl rfl)) (fun _ _ _ _ _ => pts_nil)
          (fun _ _ _ _ _ => pe_call ih hr rfl gS F.kp bS .nil pass0 (pa_cons (pv 1) pa_nil))))) (pss_nil))
      (pss_one (ps_ret (pe_ifExp (pt_val (pe_callB call_isi (by rfl) Z.isi (by decide +kernel) (pa_cons (pv 0) (pa_cons (pe_bltn (v := .ty "tuple") (by rfl) Z.ttuple (by decide +kernel) rfl) pa_nil)))) (pe_callTy call_tuple_of (by rfl) Z.ttuple (by decide +kernel) (pa_cons (pe_lc (own := [("_law_item", 1)]) (g := gName 1) (tt := tYes) (te := tCall (spSame n) [] E0 (tCons (tVar 1) tNil)) (by rfl) nd (pi_tup (pv 0))
          (blkOk_by (own := [("_law_item", 1)]) (N := N_same) (sc := defScope s_same) (by decide +kernel)) (fun _ _ _ _ _ => pg_name (i := 1) nd rfl (Or.inl rfl)) (fun _ _ _ _ _ => pts_nil)
          (fun _ _ _ _ _ => pe_call ih hr rfl gS F.kp bS .nil pass0 (pa_cons (pv 1) pa_nil))) pa_nil)) (pv 0)))))), ?_⟩
      rcases hx with hx | ⟨a, xs, ds, rfl, lx, l1, tx, kx⟩
      · skip
        obtain ⟨t', ty', k1', k2', k3', i', b', k4', k5'⟩ := FlatD.ty (K := K) (H := H) hx
        refine ⟨_, rfl, x, .ty "dict", .type t', .type "dict", false, rfl, .ty _, ty', kit_ty k3', false, rfl, iteF ?_⟩
        refine ⟨_, rfl, x, .ty "list", .type t', .type "list", false, rfl, .ty _, ty', kit_ty k1', false, rfl, iteF ?_⟩
        refine ⟨_, rfl, x, .ty "tuple", .type t', .type "tuple", false, rfl, .ty _, ty', kit_ty k2', false, rfl, iteF ?_⟩
        exact ⟨_, rfl, k x H (Same.refl H) (Tr.flat hx)⟩
      · rcases tx with ⟨ha, rfl⟩ | ⟨ha, rfl⟩
        · refine ⟨_, rfl, .ref a, .ty "dict", .type "list", .type "dict", false, rfl, .ty _, .base (.lst ha), kit_ty (by decide +kernel), false, rfl, iteF ?_⟩
          refine ⟨_, rfl, .ref a, .ty "list", .type "list", .type "list", true, rfl, .ty _, .base (.lst ha), kit_ty (by decide +kernel), true, rfl, iteT ?_⟩
          refine ⟨_, rfl, a, rfl, ⟨_, SqL.of ha⟩, fun D hD => ?_⟩
          refine lc_it (walk_list (K := K) (a := a) (xs := xs)) (fun i G => Same H G ∧ ∃ ys : List V, G D = some (.lst ys) ∧ ys.length = i ∧ ∀ (j : Nat) (u : V) (e : PyData), ys[j]? = some u → ds[j]? = some e → Tr (off (nw H G) D) n u e)
            ⟨Same.updf hD, [], upd_same, rfl, fun j u e h => by simp at h⟩ (fun i G _ hh => SqL.of (hh.1 _ _ ha)) ?_ ?_
          · rintro i v G G' hi ⟨sG, ys, hy, ly, ky'⟩ ⟨rfl, hv⟩
            have hd : ds[i]? = some ds[i] := List.getElem?_eq_getElem (by omega)
            refine ⟨rfl, _, rfl, v, _, rfl, (kx i v _ hv hd).same sG, fun y G2 s2 hy2 => ?_⟩
            refine ⟨ys, s2 _ _ hy, by omega, fun c o e => ?_, ys ++ [y], upd_same, by rw [List.length_append, ly]; rfl, fun j u e h1 h2 => ?_⟩
            · rw [upd_ne (ne_of_none e hD)]
              exact s2 _ _ (sG _ _ e)
            · have eo : off (nw H (upd G2 D (.lst (ys ++ [y])))) D = off (nw H G2) D := by
                funext c
                unfold off
                by_cases c1 : c = D
                · rw [if_pos c1, if_pos c1]
                · rw [if_neg c1, if_neg c1]
                  unfold nw
                  rw [upd_ne c1]
              rw [eo]
              by_cases hj : j < ys.length
              · rw [List.getElem?_append_left hj] at h1
                exact (ky' j u e h1 h2).same (off_same D (nw_same s2))
              · rw [List.getElem?_append_right (by omega)] at h1
                have hz : j - ys.length < 1 := by
                  have := (List.getElem?_eq_some_iff.mp h1).1
                  simpa using this
                have q1 := List.mem_of_getElem? h1
                rw [List.mem_singleton] at q1
                rw [show j = i by omega, hd] at h2
                rw [q1, ← Option.some.inj h2]
                refine hy2.same fun c o e => ?_
                have c1 : c ≠ D := fun z => by
                  have := nw_none e
                  rw [z, hy] at this
                  cases this
                rw [off_at c1]
                exact nw_sub sG _ _ e
          · rintro G ⟨sG, ys, hy, ly, ky'⟩
            refine k (.ref D) G sG ?_
            exact Tr.lst (by rw [nw_at hD]; exact hy) (by omega) l1 fun j u e h1 h2 => (ky' j u e h1 h2).same (off_le _ D)
        · refine ⟨_, rfl, .ref a, .ty "dict", .type "tuple", .type "dict", false, rfl, .ty _, .base (.tup ha), kit_ty (by decide +kernel), false, rfl, iteF ?_⟩
          refine ⟨_, rfl, .ref a, .ty "list", .type "tuple", .type "list", false, rfl, .ty _, .base (.tup ha), kit_ty (by decide +kernel), false, rfl, iteF ?_⟩
          refine ⟨_, rfl, .ref a, .ty "tuple", .type "tuple", .type "tuple", true, rfl, .ty _, .base (.tup ha), kit_ty (by decide +kernel), true, rfl, iteT ?_⟩
          refine ⟨_, rfl, a, rfl, ⟨_, SqT.of ha⟩, fun D hD => ?_⟩
          refine lc_it (walk_tup (K := K) (a := a) (xs := xs)) (fun i G => Same H G ∧ ∃ ys : List V, G D = some (.lst ys) ∧ ys.length = i ∧ ∀ (j : Nat) (u : V) (e : PyData), ys[j]? = some u → ds[j]? = some e → Tr (off (nw H G) D) n u e)
            ⟨Same.updf hD, [], upd_same, rfl, fun j u e h => by simp at h⟩ (fun i G _ hh => SqT.of (hh.1 _ _ ha)) ?_ ?_
          · rintro i v G G' hi ⟨sG, ys, hy, ly, ky'⟩ ⟨rfl, hv⟩
            have hd : ds[i]? = some ds[i] := List.getElem?_eq_getElem (by omega)
            refine ⟨rfl, _, rfl, v, _, rfl, (kx i v _ hv hd).same sG, fun y G2 s2 hy2 => ?_⟩
            refine ⟨ys, s2 _ _ hy, by omega, fun c o e => ?_, ys ++ [y], upd_same, by rw [List.length_append, ly]; rfl, fun j u e h1 h2 => ?_⟩
            · rw [upd_ne (ne_of_none e hD)]
              exact s2 _ _ (sG _ _ e)
            · have eo : off (nw H (upd G2 D (.lst (ys ++ [y])))) D = off (nw H G2) D := by
                funext c
                unfold off
                by_cases c1 : c = D
                · rw [if_pos c1, if_pos c1]
                · rw [if_neg c1, if_neg c1]
                  unfold nw
                  rw [upd_ne c1]
              rw [eo]
              by_cases hj : j < ys.length
              · rw [List.getElem?_append_left hj] at h1
                exact (ky' j u e h1 h2).same (off_same D (nw_same s2))
              · rw [List.getElem?_append_right (by omega)] at h1
                have hz : j - ys.length < 1 := by
                  have := (List.getElem?_eq_some_iff.mp h1).1
                  simpa using this
                have q1 := List.mem_of_getElem? h1
                rw [List.mem_singleton] at q1
                rw [show j = i by omega, hd] at h2
                rw [q1, ← Option.some.inj h2]
                refine hy2.same fun c o e => ?_
                have c1 : c ≠ D := fun z => by
                  have := nw_none e
                  rw [z, hy] at this
                  cases this
                rw [off_at c1]
                exact nw_sub sG _ _ e
          · rintro G ⟨sG, ys, hy, ly, ky'⟩
            refine ⟨D, ys, rfl, .inl ⟨SqL.of hy, fun T hT => ?_⟩⟩
            have sT := Same.updf (o := .tup ys) hT
            refine k (.ref T) _ (sG.trans sT) ?_
            exact Tr.tup (by rw [nw_at (none_back sG hT), upd_same]) (by omega) l1 fun j u e h1 h2 => ((ky' j u e h1 h2).same (off_le _ D)).same (nw_same sT)
end
end K27
set_option Elab.async false
set_option linter.all false
set_option maxRecDepth 100000
set_option maxHeartbeats 8000000
namespace K27
open PySem PySem.Spec PyProof.Rows L2 KB
def spLWord : Sp := fun vs H Q _ => ∃ (pu : Addr) (N : Nat), vs = [.ref pu] ∧ Purse H pu N ∧ N ≤ 2 ^ 40 ∧ ∀ z H', But pu H H' → Purse H' pu (N + 12) → wordS z = true → Q (.str z) H'
theorem joinL_nil : ∀ ls : List (List Nat), TL.joinL [] ls = ls.flatten
  | [] => rfl
  | [p] => by simp [TL.joinL]
  | p :: q :: r => by
    rw [TL.joinL, joinL_nil (q :: r)]
    simp
theorem word_join {ys : List Str} (h : ∀ y ∈ ys, ∃ c ∈ abc, y = ⟨#[c]⟩) (l1 : 1 ≤ ys.length) (l8 : ys.length ≤ 8) : wordS (Txt.join Str.empty ys) = true := by
  have e : (Txt.join Str.empty ys).cps.toList = (ys.map fun y => y.cps.toList).flatten := by
    have := TL.tl_join Str.empty ys
    rw [← TL.join_eq] at this
    rw [show TL.tl Str.empty = [] from rfl, joinL_nil] at this
    exact this
  have e2 : (ys.map fun y => y.cps.toList).flatten.length = ys.length := by
    clear e l1 l8
    induction ys with
    | nil => rfl
    | cons y ys ih =>
      obtain ⟨c, _, rfl⟩ := h y List.mem_cons_self
      rw [List.map_cons, List.flatten_cons, List.length_append, ih fun z hz => h z (List.mem_cons_of_mem _ hz), List.length_cons]
      simp
      omega
  have l : (Txt.join Str.empty ys).length = ys.length := by
    rw [← e2, ← e, Array.length_toList]
    rfl
  unfold wordS
  rw [l, Bool.and_eq_true, decide_eq_true_eq, List.all_eq_true]
  refine ⟨⟨l1, l8⟩, fun c hc => ?_⟩
  rw [e] at hc
  obtain ⟨q, hq, hcq⟩ := List.mem_flatten.mp hc
  obtain ⟨y, hy, rfl⟩ := List.mem_map.mp hq
  obtain ⟨d, hd, rfl⟩ := h y hy
  simp at hcq
  exact decide_eq_true (hcq ▸ hd)
theorem one_sum : ∀ {ys : List Str}, (∀ y ∈ ys, ∃ c ∈ abc, y = ⟨#[c]⟩) → (ys.map (·.length)).sum = ys.length
  | [], _ => rfl
  | y :: ys, h => by
    obtain ⟨c, _, rfl⟩ := h y List.mem_cons_self
    rw [List.map_cons, List.sum_cons, one_sum fun z hz => h z (List.mem_cons_of_mem _ hz), List.length_cons]
    show 1 + _ = _
    omega
theorem abc_at {r : Int} (h0 : 0 ≤ r) (h1 : r < 26) : ∃ c ∈ abc, atI (Str.ofString "abcdefghijklmnopqrstuvwxyz").cps.toList r = some c := by
  obtain ⟨n, rfl⟩ : ∃ n : Nat, r = n := ⟨r.toNat, by omega⟩
  have e : (Str.ofString "abcdefghijklmnopqrstuvwxyz").cps.toList = abc := by decide +kernel
  have l : n < abc.length := by
    have : abc.length = 26 := by decide
    omega
  refine ⟨abc[n], List.getElem_mem l, ?_⟩
  rw [e]
  exact atI_nat (List.getElem?_eq_getElem l)
section
variable {P : Program} {w : World} {K : PySem.W.Frag} {mg : Str → Option Value} {base : Heap}
abbrev s_word : Stmt := top 50
abbrev N_word : List Str := ["_law_purse_here", "_law_size", "_law_spin"]
theorem sc_word : FnScope N_word ["_law_purse_here"] (defScope s_word) := ⟨rfl, rfl, rfl, by decide +kernel, rfl, by decide +kernel, by decide +kernel⟩
theorem ok_word {f : Addr} {fd : FuncData} (F : FnP K "_law_word" s_word f fd) (Z : FreeS mg)
    {f_draw : Addr} {d_draw : FuncData} (g_draw : mg "_law_draw" = some (.ref f_draw)) (F_draw : FnP K "_law_draw" s_draw f_draw d_draw) (G_draw : FnOk P w K mg base CX0 2 f_draw d_draw ["_law_purse_here", "_law_many"] spDraw) :
    FnOk P w K mg base CX0 3 f fd ["_law_purse_here"] spLWord := by
  have b_draw : Binds K d_draw ["_law_purse_here", "_law_many"] [] := F_draw.bindsN fun _ _ _ _ _ _ us hl => match us, hl with | [_, _], _ => rfl
  refine F.ok sc_word (fun vs H Q E h => ?_) (fun cdv A outer s H vs Q E hr h => ?_)
  · obtain ⟨pu, N, rfl, _⟩ := h
    rfl
  · obtain ⟨pu, N, rfl, hP, hN, k⟩ := h
    have mx : ∀ m : Int, 1 ≤ m → m < 100 → mixes m = 1 := fun m h1 h2 => mixes_one h1 (by omega)
    have nd := sc_word.nd
    refine ⟨_, PSs.nox (pss_cons (ps_set (i := 1) nd rfl (Or.inl rfl) (pe_op op_add (pe_int) (pe_call G_draw (hr.mono (by decide)) rfl g_draw F_draw.kp b_draw .nil pass0 (pa_cons (pv 0) (pa_cons (pe_ifExp (pt_cmpR op_eq (pe_call G_draw (hr.mono (by decide)) rfl g_draw F_draw.kp b_draw .nil pass0 (pa_cons (pv 0) (pa_cons (pe_int) (pa_nil)))) (pe_int) (nomark _)) (pe_int) (pe_int)) (pa_nil))))))
      (pss_one (ps_ret (pe_join pe_str (pe_lc (own := [("_law_spin", 2)]) (g := gName 2) (tt := tYes) (te := tOp rIxS (tC (.str "abcdefghijklmnopqrstuvwxyz")) (tCall spDraw [] E0 (tCons (tVar 0) (tCons (tC (.int 26)) tNil)))) (by rfl) nd (pi_range1 (by rfl) Z.range (pa_cons (pv 1) pa_nil)) (blkOk_by (own := [("_law_spin", 2)]) (N := N_word) (sc := defScope s_word) (by decide +kernel)) (fun _ _ _ _ _ => pg_name (i := 2) nd rfl (Or.inl rfl)) (fun _ _ _ _ _ => pts_nil) (fun _ _ _ _ _ => pe_ix ix_str pe_str (pe_call G_draw (hr.mono (by decide)) rfl g_draw F_draw.kp b_draw .nil pass0 (pa_cons (pv 0) (pa_cons pe_int pa_nil))) (fun _ _ => rfl))))))), ?_⟩
    have one : ∀ m : Int, 1 ≤ m → m < 100 → ∀ M, M ≤ 2 ^ 41 → M + mixes m ≤ 2 ^ 50 ∧ mixes m ≤ 2 ^ 50 := fun m h1 h2 M hM => by
      rw [mx m h1 h2]
      omega
    refine ⟨_, rfl, _, rfl, pu, 3, N, rfl, by decide, log_small (by decide) (by decide), hP, (one 3 (by decide) (by decide) N (by omega)).1, (one 3 (by decide) (by decide) N (by omega)).2, fun r H1 r0 r1 b1 P1 => ?_⟩
    rw [mx 3 (by decide) (by decide)] at P1
    refine ⟨rfl, _, rfl, ?_⟩
    have fin : ∀ (n : Nat) (H2 : Hp), 1 ≤ n → n ≤ 8 → But pu H H2 → Purse H2 pu (N + 2) → ∀ D, H2 D = none → D ≠ pu → ∀ (ys : List Str) (H3 : Hp), But pu H2 H3 → (∃ M, Purse H3 pu M ∧ M ≤ N + 2 + n) → ys.length = n → (∀ y ∈ ys, ∃ c ∈ abc, y = ⟨#[c]⟩) → Q (.str (Txt.join Str.empty ys)) H3 := fun n H2 n1 n8 b2 P2 D hD nD ys H3 b3 ⟨M, PM, lM⟩ ly cy =>
      k _ H3 (b2.trans b3) (PM.mono (by omega)) (word_join cy (by omega) (by omega))
    have go : ∀ (r2 : Int) (H2 : Hp), 0 ≤ r2 → r2 < 8 → But pu H1 H2 → Purse H2 pu (N + 1 + 1) →
        tRet (tM1 (fun x xs H_1 Q => ∃ a p, ∃ ys : List Str, x = V.str a ∧ xs = [V.ref p] ∧ (SqL K H_1 p (List.map V.str ys) ∨ SqT K H_1 p (List.map V.str ys)) ∧ (List.map (fun x => x.length) ys).sum + ys.length * a.length ≤ 16777216 ∧ Q (V.str (Txt.join a ys)) H_1) (tC (V.str (Str.ofString "")))
          (tLc (iRng1 (tCons (tVar 1) tNil)) (gName 2) tYes (tOp rIxS (tC (V.str (Str.ofString "abcdefghijklmnopqrstuvwxyz"))) (tCall spDraw [] E0 (tCons (tVar 0) (tCons (tC (V.int 26)) tNil)))) [2]))
          { nx := fun x H' => Q V.non H', rt := Q } [some (.ref pu), some (.int (1 + r2)), none] H2 := fun r2 H2 q0 q1 b2 P2 => by
      obtain ⟨n, hn⟩ : ∃ n : Nat, 1 + r2 = (n : Int) := ⟨(1 + r2).toNat, by omega⟩
      rw [hn]
      refine ⟨⟨_, rfl⟩, _, rfl, (n : Int), rfl, by omega, by omega, fun D hD => ?_⟩
      have nD : D ≠ pu := fresh_ne P2 hD
      have b12 := b1.trans b2
      rw [Int.toNat_natCast]
      refine lc_it (walk_range (lo := 0) (n := n)) (fun i G => But pu H2 G ∧ (∃ M, Purse G pu M ∧ M ≤ N + 2 + i) ∧ ∃ ys : List Str, G D = some (.lst (ys.map V.str)) ∧ ys.length = i ∧ ∀ y ∈ ys, ∃ c ∈ abc, y = ⟨#[c]⟩)
        ⟨But.of (Same.updf hD), ⟨N + 2, P2.same (Same.updf hD), Nat.le_refl _⟩, [], upd_same, rfl, fun y hy => nomatch hy⟩ (fun i G _ _ => trivial) ?_ ?_
      · rintro i x G G' hi ⟨bG, ⟨M, PM, lM⟩, ys, hy, ly, cy⟩ ⟨rfl, rfl⟩
        refine ⟨rfl, ?_⟩
        refine ⟨_, rfl, pu, 26, M, rfl, by decide, log_small (by decide) (by decide), PM, (one 26 (by decide) (by decide) M (by omega)).1, (one 26 (by decide) (by decide) M (by omega)).2, fun s G2 s0 s1 b3 P3 => ?_⟩
        rw [mx 26 (by decide) (by decide)] at P3
        obtain ⟨c, hc, ec⟩ := abc_at s0 s1
        have sl : (100 : Nat) ≤ sizeLine := by decide
        refine ⟨_, s, c, rfl, rfl, (by show 26 ≤ sizeLine; omega), ec, ys.map V.str, b3 _ _ nD hy, by rw [List.length_map]; omega, (fun d o n1 e => by
          rw [upd_ne (ne_of_none e hD)]
          exact (bG.trans b3) d o n1 e), ⟨M + 1, P3.same' (upd_ne nD.symm), by omega⟩, ys ++ [⟨#[c]⟩], by rw [upd_same, List.map_append]; rfl, by rw [List.length_append, ly]; rfl, fun y hy' => ?_⟩
        · rcases List.mem_append.mp hy' with h | h
          · exact cy y h
          · rw [List.mem_singleton] at h
            exact ⟨c, hc, h⟩
      · rintro G ⟨bG, ⟨M, PM, lM⟩, ys, hy, ly, cy⟩
        refine ⟨_, D, ys, rfl, rfl, Or.inl (SqL.of hy), ?_, fin n H2 (by omega) (by omega) b12 P2 D hD nD ys G bG ⟨M, PM, lM⟩ ly cy⟩
        rw [one_sum cy]
        show ys.length + ys.length * 0 ≤ 16777216
        omega
    by_cases e : r = 0
    · rw [decide_eq_true (congrArg V.int e)]
      refine iteT ?_
      refine ⟨pu, 8, N + 1, rfl, by decide, log_small (by decide) (by decide), P1, (one 8 (by decide) (by decide) (N + 1) (by omega)).1, (one 8 (by decide) (by decide) (N + 1) (by omega)).2, fun r2 H2 q0 q1 b2 P2 => ?_⟩
      rw [mx 8 (by decide) (by decide)] at P2
      exact ⟨_, _, rfl, rfl, go r2 H2 q0 (by omega) b2 P2⟩
    · rw [decide_eq_false fun z => e (V.int.inj z)]
      refine iteF ?_
      refine ⟨pu, 3, N + 1, rfl, by decide, log_small (by decide) (by decide), P1, (one 3 (by decide) (by decide) (N + 1) (by omega)).1, (one 3 (by decide) (by decide) (N + 1) (by omega)).2, fun r2 H2 q0 q1 b2 P2 => ?_⟩
      rw [mx 3 (by decide) (by decide)] at P2
      exact ⟨_, _, rfl, rfl, go r2 H2 q0 (by omega) b2 P2⟩
end
end K27
set_option Elab.async false
set_option linter.all false
set_option maxRecDepth 100000
set_option maxHeartbeats 4000000
/-! list(x) of a text: its signs, one by one. -/
namespace KB
open PySem PySem.Spec PyProof.Rows L2
def signsV (z : Str) : List V := z.cps.toList.map fun c => V.str ⟨#[c]⟩
def rListS : List V → Hp → VK → Prop := fun xs H Q => ∃ z : Str, xs = [.str z] ∧ z.length ≤ sizeLine ∧ ∀ q, H q = none → Q (.ref q) (upd H q (.lst (signsV z)))
theorem cr_listS {X : Cx} (hc : X.calm = true) : CallR X (.type "list") rListS := by
  intro pins s σ H xs us Q I r h
  obtain ⟨z, rfl, hz, q⟩ := h
  obtain ⟨u, rfl, t, rfl⟩ := vals1 r
  refine call_list_str (I.ok.hd hc) z t (hn := hz) fun h' tk acc' c' hkeep hS hacc => ?_
  refine ⟨.ref s.heap.objs.size, upd H s.heap.objs.size (.lst (signsV z)), I.laid hkeep (Nat.le_refl _) (show ObjOk X.prog X.w _ _ _ (.lst (signsV z)) from ⟨?_, acc'.toList, c', ?_, ?_⟩), rfl, q _ (I.hok.fresh (Nat.le_refl _))⟩
  · show (signsV z).length ≤ _
    unfold signsV
    rw [List.length_map, Array.length_toList]
    exact hz
  · refine vals_of_at (by unfold signsV; rw [List.length_map, Array.length_toList, Array.length_toList, hacc.1]) fun j x w h1 h2 => ?_
    obtain ⟨c, t2, hc2, rfl⟩ := hacc.2 j w (by rw [← Array.getElem?_toList]; exact h2)
    unfold signsV at h1
    rw [List.getElem?_map, Array.getElem?_toList, hc2] at h1
    cases h1
    exact ⟨t2, rfl⟩
  · rw [Array.toArray_toList]; exact hS
end KB
set_option Elab.async false
set_option linter.all false
set_option maxRecDepth 100000
set_option maxHeartbeats 8000000
namespace K27
open PySem PySem.Spec PyProof.Rows L2 KB
/-- two words, in a new list -/
def spLWords : Sp := fun vs H Q _ => ∃ (pu : Addr) (N : Nat), vs = [.ref pu, .int 2] ∧ Purse H pu N ∧ N ≤ 2 ^ 39 ∧
  ∀ p y1 y2 H', But pu H H' → Purse H' pu (N + 50) → H p = none → H' p = some (.lst [.str y1, .str y2]) → wordS y1 = true → wordS y2 = true → Q (.ref p) H'
theorem word_len {z : Str} (h : wordS z = true) : 1 ≤ z.length ∧ z.length ≤ 8 := by
  unfold wordS at h
  rw [Bool.and_eq_true, decide_eq_true_eq] at h
  exact h.1
theorem word_abc {z : Str} (h : wordS z = true) {c : Nat} (m : c ∈ z.cps.toList) : c ∈ abc := by
  unfold wordS at h
  rw [Bool.and_eq_true, List.all_eq_true] at h
  exact of_decide_eq_true (h.2 c m)
theorem word_of {l : List Nat} (h1 : 1 ≤ l.length) (h8 : l.length ≤ 8) (h : ∀ c ∈ l, c ∈ abc) : wordS (SX.S l) = true := by
  unfold wordS
  rw [SX.S_len, Bool.and_eq_true, decide_eq_true_eq, List.all_eq_true]
  exact ⟨⟨h1, h8⟩, fun c m => decide_eq_true (h c m)⟩
/-- a word with another letter at one place -/
theorem word_near {z : Str} (h : wordS z = true) {s : Int} (s0 : 0 ≤ s) (s1 : s < z.length) {c : Nat} (hc : c ∈ abc) :
    wordS (Txt.slice z none (some s) ++ ⟨#[c]⟩ ++ Txt.slice z (some (s + 1)) none) = true := by
  obtain ⟨l, rfl⟩ : ∃ l, z = SX.S l := ⟨_, (SX.S_tl z).symm⟩
  rw [SX.S_len] at s1
  have l8 := word_len h
  rw [SX.S_len] at l8
  rw [SX.slice_to s0, SX.slice_from (by omega), show (⟨#[c]⟩ : Str) = SX.S [c] from rfl, SX.S_cat, SX.S_cat]
  refine word_of ?_ ?_ fun d m => ?_
  · simp
    omega
  · simp
    omega
  · rcases List.mem_append.mp m with m | m
    · rcases List.mem_append.mp m with m | m
      · exact word_abc h (List.mem_of_mem_take m)
      · rw [List.mem_singleton.mp m]
        exact hc
    · exact word_abc h (List.mem_of_mem_drop m)
theorem near_len {z : Str} (h : wordS z = true) {s : Int} (s0 : 0 ≤ s) (s1 : s < z.length) (c : Nat) :
    (Txt.slice z none (some s)).length + (⟨#[c]⟩ : Str).length ≤ 20 ∧ (Txt.slice z none (some s) ++ ⟨#[c]⟩).length + (Txt.slice z (some (s + 1)) none).length ≤ 20 := by
  obtain ⟨l, rfl⟩ : ∃ l, z = SX.S l := ⟨_, (SX.S_tl z).symm⟩
  rw [SX.S_len] at s1
  have l8 := word_len h
  rw [SX.S_len] at l8
  rw [SX.slice_to s0, SX.slice_from (by omega), show (⟨#[c]⟩ : Str) = SX.S [c] from rfl, SX.S_cat, SX.S_len, SX.S_len, SX.S_len, SX.S_len]
  simp
  omega
theorem ite_by {b : Bool} {A B : Prop} (a : b = true → A) (f : b = false → B) : if b = true then A else B := by
  cases b with
  | true => exact iteT (a rfl)
  | false => exact iteF (f rfl)
theorem cutW {R : Str → Hp → Prop} {C : Str → Hp → Prop} {T : Prop} (a : (∀ y H, C y H → R y H) → T) (b : ∀ y H, C y H → R y H) : T := a b
def ltr (j : Nat) : V := .str ⟨#[97 + j]⟩
theorem signs_abc : signsV (Str.ofString "abcdefghijklmnopqrstuvwxyz") = (List.range 26).map ltr := by decide +kernel
theorem ltr_word {j : Nat} (h : j < 26) : wordS ⟨#[97 + j]⟩ = true := word_of (l := [97 + j]) (by simp) (by simp) fun c m => by
  rw [List.mem_singleton.mp m]
  unfold abc
  exact List.mem_map.mpr ⟨j, List.mem_range.mpr h, by omega⟩
theorem sel_head {ys : List Str} (l : ys.length ≤ 1) : ∃ (y : Str) (rest : List V), wordS y = true ∧ ((List.range 26).filterMap fun j => if inV (ltr j) (ys.map V.str) then none else some (ltr j)) = .str y :: rest := by
  cases e : ((List.range 26).filterMap fun j => if inV (ltr j) (ys.map V.str) then none else some (ltr j)) with
  | nil =>
    rw [List.filterMap_eq_nil_iff] at e
    have e0 := e 0 (by decide)
    have e1 := e 1 (by decide)
    exfalso
    match ys, l with
    | [], _ => simp [inV] at e0
    | [y], _ =>
      simp [inV, ltr, eqV] at e0 e1
      rw [e0] at e1
      exact absurd e1 (by decide)
  | cons v rest =>
    have m : v ∈ ((List.range 26).filterMap fun j => if inV (ltr j) (ys.map V.str) then none else some (ltr j)) := by
      rw [e]
      exact List.mem_cons_self
    obtain ⟨j, hj, ej⟩ := List.mem_filterMap.mp m
    refine ⟨⟨#[97 + j]⟩, rest, ltr_word (List.mem_range.mp hj), ?_⟩
    split at ej
    · cases ej
    · cases ej
      rfl
theorem flat_strs (ys : List Str) : (ys.map V.str).all flatV = true := by
  rw [List.all_eq_true]
  intro v m
  obtain ⟨y, _, rfl⟩ := List.mem_map.mp m
  rfl
section
variable {P : Program} {w : World} {K : PySem.W.Frag} {mg : Str → Option Value} {base : Heap}
abbrev s_words : Stmt := top 51
abbrev N_words : List Str := ["_law_purse_here", "_law_many", "_law_base", "_law_near", "_law_spot", "_law_found", "_law_spin", "_law_word_here", "_law_letter"]
theorem sc_words : FnScope N_words ["_law_purse_here", "_law_many"] (defScope s_words) := ⟨rfl, rfl, rfl, by decide +kernel, rfl, by decide +kernel, by decide +kernel⟩
theorem ok_words {f : Addr} {fd : FuncData} (F : FnP K "_law_words" s_words f fd) (Z : FreeS mg)
    {f_word : Addr} {d_word : FuncData} (g_word : mg "_law_word" = some (.ref f_word)) (F_word : FnP K "_law_word" s_word f_word d_word) (G_word : FnOk P w K mg base CX0 3 f_word d_word ["_law_purse_here"] spLWord)
    {f_draw : Addr} {d_draw : FuncData} (g_draw : mg "_law_draw" = some (.ref f_draw)) (F_draw : FnP K "_law_draw" s_draw f_draw d_draw) (G_draw : FnOk P w K mg base CX0 2 f_draw d_draw ["_law_purse_here", "_law_many"] spDraw) :
    FnOk P w K mg base CX0 4 f fd ["_law_purse_here", "_law_many"] spLWords := by
  have b_word : Binds K d_word ["_law_purse_here"] [] := F_word.bindsN fun _ _ _ _ _ _ us hl => match us, hl with | [_], _ => rfl
  have b_draw : Binds K d_draw ["_law_purse_here", "_law_many"] [] := F_draw.bindsN fun _ _ _ _ _ _ us hl => match us, hl with | [_, _], _ => rfl
  refine F.ok sc_words (fun vs H Q E h => ?_) (fun cdv A outer s H vs Q E hr h => ?_)
  · obtain ⟨pu, N, rfl, _⟩ := h
    rfl
  · obtain ⟨pu, N, rfl, hP, hN, k⟩ := h
    have mx : ∀ m : Int, 1 ≤ m → m < 100 → mixes m = 1 := fun m h1 h2 => mixes_one h1 (by omega)
    have one : ∀ m : Int, 1 ≤ m → m < 100 → ∀ M, M ≤ 2 ^ 41 → M + mixes m ≤ 2 ^ 50 ∧ mixes m ≤ 2 ^ 50 := fun m h1 h2 M hM => by
      rw [mx m h1 h2]
      omega
    have nd := sc_words.nd
    refine ⟨_, PSs.nox (pss_cons (ps_par (i := 2) (j := 3) rfl nd rfl rfl (by decide) rfl rfl (pa_cons (pe_call G_word (hr.mono (by decide)) rfl g_word F_word.kp b_word .nil pass0 (pa_cons (pv 0) (pa_nil))) (pa_cons (pe_cmpR op_eq (pe_call G_draw (hr.mono (by decide)) rfl g_draw F_draw.kp b_draw .nil pass0 (pa_cons (pv 0) (pa_cons (pe_int) (pa_nil)))) (pe_int) (nomark _)) (pa_nil))) rfl)
      (pss_cons (ps_asg (pe_tup (pa_cons (pe_call G_draw (hr.mono (by decide)) rfl g_draw F_draw.kp b_draw .nil pass0 (pa_cons (pv 0) (pa_cons (pe_callB call_len_str (by rfl) Z.len (by decide +kernel) (pa_cons (pv 2) (pa_nil))) (pa_nil)))) (pa_cons (pe_lst (pa_nil)) (pa_nil)))) (pg_tup rfl (pgs_cons (pg_name (i := 4) nd rfl (Or.inl rfl)) (pgs_cons (pg_name (i := 5) nd rfl (Or.inr rfl)) (pgs_nil)))))
      (pss_cons (ps_for PassesOwn.never rfl (pi_range1 (by rfl) Z.range (pa_cons (pv 1) (pa_nil))) (pg_name (i := 6) nd rfl (Or.inl rfl))
        (pss_cons (ps_set (i := 7) nd rfl (Or.inl rfl) (pe_op op_add_str (pe_op op_add_str (pe_slice C8.sl_txt (pv 2) po_none (po_some (pv 4))) (pe_ix ix_str pe_str (pe_call G_draw (hr.mono (by decide)) rfl g_draw F_draw.kp b_draw .nil pass0 (pa_cons (pv 0) (pa_cons pe_int pa_nil))) (fun _ _ => rfl))) (pe_slice C8.sl_txt (pv 2) (po_some (pe_op op_add (pv 4) pe_int)) po_none)))
      (pss_cons (ps_if (pt_not (pt_truth (pv 3) (fun _ => rfl))) (pss_one (ps_set (i := 7) nd rfl (Or.inl rfl) (pe_call G_word (hr.mono (by decide)) rfl g_word F_word.kp b_word .nil pass0 (pa_cons (pv 0) (pa_nil))))) (pss_nil))
      (pss_cons (ps_if (pt_cmpR op_in_seq (pv 7) (pv 5) (by rfl)) (pss_one (ps_set (i := 7) nd rfl (Or.inl rfl) (pe_ix ix_list (pe_lc (own := [("_law_letter", 8)]) (g := gName 8) (tt := tTest (tOp (rIn K true) (tVar 8) (tVar 5))) (te := tVar 8) (by rfl) nd (pi_list (pe_callTy (cr_listS rfl) (by rfl) Z.tlist (by decide +kernel) (pa_cons pe_str pa_nil)))
          (blkOk_by (own := [("_law_letter", 8)]) (N := N_words) (sc := defScope s_words) (by decide +kernel)) (fun _ _ _ _ _ => pg_name (i := 8) nd rfl (Or.inl rfl)) (fun _ _ _ _ _ => pts_one (pt_cmpR op_notIn_seq (pv 8) (pv 5) (by rfl)))
          (fun _ _ _ _ _ => pv 8)) (pe_int) (fun _ _ => rfl)))) (pss_nil))
      (pss_one (ps_expr (pe_bm PySem.F.plainAttrs_list PySem.F.slot_list_append PySem.F.type_list_append mt_append (pv 5) (pa_cons (pv 7) (pa_nil)))))))))
      (pss_one (ps_ret (pv 5)))))), ?_⟩
    refine ⟨_, rfl, pu, N, rfl, hP, by omega, fun z H1 b1 P1 hz => ?_⟩
    refine ⟨_, rfl, pu, 3, N + 12, rfl, by decide, log_small (by decide) (by decide), P1, (one 3 (by decide) (by decide) _ (by omega)).1, (one 3 (by decide) (by decide) 0 (by omega)).2, fun r H2 r0 r1 b2 P2 => ?_⟩
    rw [mx 3 (by decide) (by decide)] at P2
    refine ⟨rfl, ?_⟩
    have l8 := word_len hz
    refine ⟨_, _, rfl, ?_⟩
    generalize decide (V.int r = V.int 0) = nb
    refine ⟨_, rfl, _, rfl, z, rfl, by have : (100 : Nat) ≤ sizeLine := by decide
                                       omega, pu, z.length, N + 13, rfl, by omega, log_small (by omega) (by omega), P2, (one z.length (by omega) (by omega) _ (by omega)).1, (one z.length (by omega) (by omega) 0 (by omega)).2, fun sp H3 s0 s1 b3 P3 => ?_⟩
    rw [mx z.length (by omega) (by omega)] at P3
    have sl : (100 : Nat) ≤ sizeLine := by decide
    refine ⟨Nat.zero_le _, fun L hL => ⟨(by show 2 ≤ sizeLine; omega), fun T hT => ⟨T, _, rfl, .inl (.inl upd_same), rfl, _, [_], rfl, _, [], rfl, rfl, ?_⟩⟩⟩
    have nL : L ≠ pu := fresh_ne P3 hL
    have hL0 : H L = none := ((b1.trans b2).trans b3).none nL hL
    have nTL : T ≠ L := fun z => by
      rw [z, upd_same] at hT
      cases hT
    have hT3 : H3 T = none := by
      rw [upd_ne nTL] at hT
      exact hT
    have nT : T ≠ pu := fresh_ne P3 hT3
    have b123 := (b1.trans b2).trans b3
    refine ⟨_, rfl, 2, rfl, by decide, by decide, ?_⟩
    refine for_it (walk_range (lo := 0) (n := 2)) (fun i σ G => But pu H3 G ∧ (∃ M, Purse G pu M ∧ M ≤ N + 14 + 13 * i) ∧ (∃ ys : List Str, G L = some (.lst (ys.map V.str)) ∧ ys.length = i ∧ ∀ y ∈ ys, wordS y = true) ∧
        ∃ v6 v7 v8, σ = [some (.ref pu), some (.int 2), some (.str z), some (.bl nb), some (.int sp), some (.ref L), v6, v7, v8])
      ⟨fun c o n1 e => by rw [upd_ne (ne_of_none e hT3), upd_ne (ne_of_none e hL)]; exact e, ⟨N + 14, P3.same' (by rw [upd_ne nT.symm, upd_ne nL.symm]), by omega⟩, ⟨[], by rw [upd_ne nTL.symm, upd_same]; rfl, rfl, fun y hy => nomatch hy⟩, _, _, _, rfl⟩ (fun i σ G _ _ => trivial) ?_ ?_
    · rintro i x σ G G' hi ⟨bG, ⟨M, PM, lM⟩, ⟨ys, hy, ly, wy'⟩, v6, v7, v8, rfl⟩ ⟨rfl, rfl⟩
      have l20 : (20 : Nat) ≤ sizeLine := by omega
      have zl : z.length ≤ sizeLine := by omega
      have iN : N + 14 + 13 * i ≤ 2 ^ 41 := by omega
      refine ⟨_, rfl, _, rfl, _, rfl, z, rfl, zl, ?_⟩
      refine ⟨_, rfl, pu, 26, M, rfl, by decide, log_small (by decide) (by decide), PM, (one 26 (by decide) (by decide) M (by omega)).1, (one 26 (by decide) (by decide) 0 (by omega)).2, fun t G1 t0 t1 b4 P4 => ?_⟩
      rw [mx 26 (by decide) (by decide)] at P4
      obtain ⟨c, hc, ec⟩ := abc_at t0 t1
      obtain ⟨n1, n2⟩ := near_len hz s0 s1 c
      refine ⟨_, t, c, rfl, rfl, (by show 26 ≤ sizeLine; omega), ec, _, _, rfl, rfl, by omega, ?_⟩
      refine ⟨_, rfl, _, rfl, sp, 1, rfl, rfl, _, rfl, z, rfl, zl, _, _, rfl, rfl, by omega, ?_⟩
      apply cutW (C := fun y G2 => wordS y = true ∧ But pu G' G2 ∧ ∃ M2, Purse G2 pu M2 ∧ M2 ≤ N + 14 + 13 * i + 13)
      · intro tail
        refine ⟨_, rfl, nb, rfl, ?_⟩
        refine ite_by (fun _ => ?_) (fun _ => ?_)
        · refine ⟨_, rfl, pu, M + 1, rfl, P4, by omega, fun y G2 b5 P5 wy => ?_⟩
          exact tail y G2 ⟨wy, b4.trans b5, _, P5, by omega⟩
        · exact tail _ _ ⟨word_near hz s0 s1 hc, b4, _, P4, by omega⟩
      · rintro y G2 ⟨wy, b5, M2, P5, lM2⟩
        have hy2 := b5 _ _ nL hy
        apply cutW (C := fun y3 G3 => wordS y3 = true ∧ Same G2 G3)
        · intro tail
          refine ⟨_, rfl, _, rfl, L, ys.map V.str, rfl, Or.inl (SqL.of hy2), rfl, flat_strs ys, _, rfl, ?_⟩
          refine ite_by (fun _ => ?_) (fun _ => ?_)
          · refine ⟨_, rfl, (by show 26 ≤ sizeLine; omega), fun q hq => ?_⟩
            rw [signs_abc]
            have sq : Same G2 (upd G2 q (.lst ((List.range 26).map ltr))) := Same.updf hq
            refine ⟨q, rfl, ⟨_, SqL.of upd_same⟩, fun D hD => ?_⟩
            refine lc_sel (walk_list (K := K) (a := q) (xs := (List.range 26).map ltr)) (fun j => if inV (ltr j) (ys.map V.str) then none else some (ltr j)) (by decide) hD (fun H2 s2 => SqL.of (s2 _ _ upd_same)) ?_ ?_
            · rintro j v H5 H6 Qy Qn hj s5 ⟨rfl, hv⟩ ky kn
              have j26 : j < 26 := hj
              rw [List.getElem?_map, List.getElem?_range j26] at hv
              obtain rfl := Option.some.inj hv
              refine ⟨rfl, _, rfl, _, rfl, L, ys.map V.str, rfl, Or.inl (SqL.of (s5 _ _ (sq _ _ hy2))), rfl, flat_strs ys, _, rfl, ?_⟩
              cases e2 : inV (ltr j) (ys.map V.str) with
              | false => exact iteT ⟨_, rfl, ky _ _ (Same.refl _) (by simp [e2])⟩
              | true => exact iteF (kn _ (Same.refl _) (by simp [e2]))
            · intro H5 s5 hR
              obtain ⟨y4, rest, w4, ej⟩ := sel_head (ys := ys) (by omega)
              have hR2 : H5 D = some (.lst (((List.range 26).filterMap fun j => if inV (ltr j) (ys.map V.str) then none else some (ltr j)))) := hR
              rw [ej] at hR2
              refine ⟨D, _, 0, .str y4, rfl, rfl, SqL.of hR2, atI_nat (j := 0) rfl, ?_⟩
              exact tail y4 H5 ⟨w4, sq.trans s5⟩
          · exact tail y G2 ⟨wy, Same.refl _⟩
        · rintro y3 G3 ⟨w3, s3⟩
          refine ⟨_, rfl, .inl ⟨rfl, _, SqL.of (s3 _ _ hy2)⟩, _, rfl, L, ys.map V.str, .str y3, rfl, rfl, s3 _ _ hy2, by rw [List.length_map]; omega, ?_⟩
          refine ⟨fun c o n1 e => ?_, ⟨M2, (P5.same s3).same' (upd_ne nL.symm), by omega⟩, ⟨ys ++ [y3], by rw [upd_same, List.map_append]; rfl, by rw [List.length_append, ly]; rfl, fun u hu => ?_⟩, _, _, _, rfl⟩
          · rw [upd_ne (ne_of_none e hL)]
            exact s3 _ _ (b5 _ _ n1 (bG _ _ n1 e))
          · rcases List.mem_append.mp hu with h | h
            · exact wy' u h
            · rw [List.mem_singleton.mp h]
              exact w3
    · rintro σ G ⟨bG, ⟨M, PM, lM⟩, ⟨ys, hy, ly, wy⟩, v6, v7, v8, rfl⟩
      refine ⟨_, rfl, ?_⟩
      match ys, ly with
      | [y1, y2], _ => exact k L y1 y2 G (b123.trans bG) (PM.mono (by omega)) hL0 hy (wy _ (by simp)) (wy _ (by simp))
end
end K27
set_option Elab.async false
set_option linter.all false
set_option maxRecDepth 100000
set_option maxHeartbeats 8000000
namespace K27
open PySem PySem.Spec PyProof.Rows L2 KB
/-- ascending pages, in a new list -/
def spSheets : Sp := fun vs H Q _ => ∃ (pu : Addr) (n N : Nat), vs = [.ref pu, .int (n : Int)] ∧ n ≤ 5 ∧ Purse H pu N ∧ N ≤ 2 ^ 39 ∧
  ∀ p ps H', But pu H H' → Purse H' pu (N + 10) → H p = none → H' p = some (.lst (numsV ps)) → ps.length = n → ps.Pairwise (· < ·) → (∀ x ∈ ps, x ≤ 30) → Q (.ref p) H'
theorem numsV_snoc (l : List Nat) (x : Nat) : numsV (l ++ [x]) = numsV l ++ [V.int (x : Int)] := by
  unfold numsV
  rw [List.map_append]
  rfl
theorem asc_snoc {l : List Nat} {x : Nat} (h : l.Pairwise (· < ·)) (k : ∀ y ∈ l, y < x) : (l ++ [x]).Pairwise (· < ·) :=
  List.pairwise_append.mpr ⟨h, List.pairwise_singleton _ _, fun a m b n => by rw [List.mem_singleton.mp n]; exact k a m⟩
section
variable {P : Program} {w : World} {K : PySem.W.Frag} {mg : Str → Option Value} {base : Heap}
abbrev s_sheets : Stmt := top 55
abbrev N_sheets : List Str := ["_law_purse_here", "_law_many", "_law_found", "_law_page", "_law_spin"]
theorem sc_sheets : FnScope N_sheets ["_law_purse_here", "_law_many"] (defScope s_sheets) := ⟨rfl, rfl, rfl, by decide +kernel, rfl, by decide +kernel, by decide +kernel⟩
theorem ok_sheets {f : Addr} {fd : FuncData} (F : FnP K "_law_sheets" s_sheets f fd) (Z : FreeS mg)
    {f_draw : Addr} {d_draw : FuncData} (g_draw : mg "_law_draw" = some (.ref f_draw)) (F_draw : FnP K "_law_draw" s_draw f_draw d_draw) (G_draw : FnOk P w K mg base CX0 2 f_draw d_draw ["_law_purse_here", "_law_many"] spDraw) :
    FnOk P w K mg base CX0 3 f fd ["_law_purse_here", "_law_many"] spSheets := by
  have b_draw : Binds K d_draw ["_law_purse_here", "_law_many"] [] := F_draw.bindsN fun _ _ _ _ _ _ us hl => match us, hl with | [_, _], _ => rfl
  refine F.ok sc_sheets (fun vs H Q E h => ?_) (fun cdv A outer s H vs Q E hr h => ?_)
  · obtain ⟨pu, n, N, rfl, _⟩ := h
    rfl
  · obtain ⟨pu, n, N, rfl, n4, hP, hN, k⟩ := h
    have mx : ∀ m : Int, 1 ≤ m → m < 100 → mixes m = 1 := fun m h1 h2 => mixes_one h1 (by omega)
    have one : ∀ m : Int, 1 ≤ m → m < 100 → ∀ M, M ≤ 2 ^ 41 → M + mixes m ≤ 2 ^ 50 ∧ mixes m ≤ 2 ^ 50 := fun m h1 h2 M hM => by
      rw [mx m h1 h2]
      omega
    have nd := sc_sheets.nd
    refine ⟨_, PSs.nox (pss_cons (ps_par (i := 2) (j := 3) rfl nd rfl rfl (by decide) rfl rfl (pa_cons (pe_lst (pa_nil)) (pa_cons (pe_call G_draw (hr.mono (by decide)) rfl g_draw F_draw.kp b_draw .nil pass0 (pa_cons (pv 0) (pa_cons (pe_int) (pa_nil)))) (pa_nil))) rfl)
      (pss_cons (ps_for PassesOwn.never rfl (pi_range1 (by rfl) Z.range (pa_cons (pv 1) (pa_nil))) (pg_name (i := 4) nd rfl (Or.inl rfl))
        (pss_cons (ps_expr (pe_bm PySem.F.plainAttrs_list PySem.F.slot_list_append PySem.F.type_list_append mt_append (pv 2) (pa_cons (pv 3) (pa_nil))))
      (pss_one (ps_set (i := 3) nd rfl (Or.inl rfl) (pe_op op_add (pe_op op_add (pv 3) (pe_int)) (pe_call G_draw (hr.mono (by decide)) rfl g_draw F_draw.kp b_draw .nil pass0 (pa_cons (pv 0) (pa_cons (pe_int) (pa_nil)))))))))
      (pss_one (ps_ret (pv 2))))), ?_⟩
    have sl : (100 : Nat) ≤ sizeLine := by decide
    refine ⟨Nat.zero_le _, fun L hL => ?_⟩
    have nL : L ≠ pu := fresh_ne hP hL
    have PL : Purse (upd H L (.lst [])) pu N := hP.same (Same.updf hL)
    refine ⟨_, rfl, pu, 3, N, rfl, by decide, log_small (by decide) (by decide), PL, (one 3 (by decide) (by decide) _ (by omega)).1, (one 3 (by decide) (by decide) 0 (by omega)).2, fun r H2 r0 r1 b2 P2 => ?_⟩
    rw [mx 3 (by decide) (by decide)] at P2
    obtain ⟨r, rfl⟩ : ∃ q : Nat, r = (q : Int) := ⟨r.toNat, by omega⟩
    refine ⟨_, _, rfl, ?_⟩
    refine ⟨_, rfl, (n : Int), rfl, by omega, by omega, ?_⟩
    rw [Int.toNat_natCast]
    have hL2 : H2 L = some (.lst (numsV [])) := b2 _ _ nL upd_same
    have bH : But pu H H2 := (But.of (Same.updf hL)).trans b2
    refine for_it (walk_range (lo := 0) (n := n)) (fun i σ G => But pu H G ∧ (∃ M, Purse G pu M ∧ M ≤ N + 1 + i) ∧ ∃ (ys : List Nat) (g : Nat) (v4 : Option V), G L = some (.lst (numsV ys)) ∧ ys.length = i ∧ ys.Pairwise (· < ·) ∧ (∀ y ∈ ys, y < g) ∧ g ≤ 2 + 4 * i ∧
        σ = [some (.ref pu), some (.int (n : Int)), some (.ref L), some (.int (g : Int)), v4])
      ⟨bH, ⟨_, P2, Nat.le_refl _⟩, [], r, _, hL2, rfl, .nil, (fun y hy => nomatch hy), by omega, rfl⟩ (fun i σ G _ _ => trivial) ?_ ?_
    · rintro i x σ G G' hi ⟨bG, ⟨M, PM, lM⟩, ys, g, v4, hy, ly, ay, cy, lg, rfl⟩ ⟨rfl, rfl⟩
      refine ⟨_, rfl, .inl ⟨rfl, _, SqL.of hy⟩, _, rfl, L, numsV ys, .int (g : Int), rfl, rfl, hy, by unfold numsV; rw [List.length_map]; omega, ?_⟩
      have P4 : Purse (upd G' L (.lst (numsV ys ++ [.int (g : Int)]))) pu M := PM.same' (upd_ne nL.symm)
      refine ⟨_, rfl, _, 1, rfl, rfl, ?_⟩
      refine ⟨_, rfl, pu, 4, M, rfl, by decide, log_small (by decide) (by decide), P4, (one 4 (by decide) (by decide) _ (by omega)).1, (one 4 (by decide) (by decide) 0 (by omega)).2, fun t G4 t0 t1 b4 P5 => ?_⟩
      rw [mx 4 (by decide) (by decide)] at P5
      obtain ⟨t, rfl⟩ : ∃ q : Nat, t = (q : Int) := ⟨t.toNat, by omega⟩
      refine ⟨_, _, rfl, rfl, ?_⟩
      refine ⟨fun c o n1 e => b4 _ _ n1 (by rw [upd_ne (ne_of_none e hL)]; exact bG _ _ n1 e), ⟨_, P5, by omega⟩, ys ++ [g], g + 1 + t, _, b4 _ _ nL (by rw [upd_same, numsV_snoc]), by rw [List.length_append, ly]; rfl, asc_snoc ay cy, fun y m => ?_, by omega, rfl⟩
      rcases List.mem_append.mp m with m | m
      · have := cy y m
        omega
      · rw [List.mem_singleton.mp m]
        omega
    · rintro σ G ⟨bG, ⟨M, PM, lM⟩, ys, g, v4, hy, ly, ay, cy, lg, rfl⟩
      exact ⟨_, rfl, k L ys G bG (PM.mono (by omega)) hL hy ly ay fun x m => by
        have := cy x m
        omega⟩
end
end K27
set_option Elab.async false
set_option linter.all false
set_option maxRecDepth 100000
set_option maxHeartbeats 8000000
namespace K27
open PySem PySem.Spec PyProof.Rows L2 KB
abbrev s_one_of : Stmt := sOne
def spSpeech : Sp := fun vs H Q _ => ∃ (pu : Addr) (N : Nat), vs = [.ref pu] ∧ Purse H pu N ∧ N ≤ 2 ^ 38 ∧
  ∀ a ds H', But pu H H' → Purse H' pu (N + 60) → Tr H' 5 (.ref a) (.tuple ds) → okWs ds = true → szWs ds ≤ 20 → Q (.ref a) H'
def TA2 (H : Hp) (n : Nat) : List V → List PyData → Prop
  | [], [] => True
  | x :: xs, d :: ds => Tr H n x d ∧ TA2 H n xs ds
  | _, _ => False
theorem TA2.len {H : Hp} {n : Nat} : ∀ {xs : List V} {ds : List PyData}, TA2 H n xs ds → xs.length = ds.length
  | [], [], _ => rfl
  | _ :: _, _ :: _, h => congrArg (· + 1) (TA2.len h.2)
  | [], _ :: _, h => h.elim
  | _ :: _, [], h => h.elim
theorem TA2.get {H : Hp} {n : Nat} : ∀ {xs : List V} {ds : List PyData}, TA2 H n xs ds → ∀ (i : Nat) (u : V) (e : PyData), xs[i]? = some u → ds[i]? = some e → Tr H n u e
  | x :: xs, d :: ds, h, 0, u, e, h1, h2 => by
    cases h1
    cases h2
    exact h.1
  | _ :: _, _ :: _, h, i + 1, u, e, h1, h2 => TA2.get h.2 i u e h1 h2
theorem TA2.tup {H : Hp} {n : Nat} {p : Addr} {xs : List V} {ds : List PyData} (hp : H p = some (.tup xs)) (a : TA2 H n xs ds) (l : ds.length ≤ 1000) : Tr H (n + 1) (.ref p) (.tuple ds) :=
  Tr.tup hp a.len l a.get
theorem tr_but {pu : Addr} {H H' : Hp} {M : Nat} (hP : Purse H pu M) (b : But pu H H') : ∀ {n : Nat} {x : V} {d : PyData}, okW d = true → Tr H n x d → Tr H' n x d
  | 0, _, _, _, h => h
  | n + 1, x, d, k, h => by
    rcases h with h | ⟨a, xs, ds, rfl, l, l2, t, c⟩
    · exact .inl h
    · rcases t with ⟨_, rfl⟩ | ⟨ha, rfl⟩
      · exact absurd k Bool.false_ne_true
      · have na : a ≠ pu := fun z => by
          rw [z] at ha
          obtain ⟨_, _, _, _, e, _⟩ := hP
          rw [ha] at e
          cases e
        exact .inr ⟨a, xs, ds, rfl, l, l2, .inr ⟨b _ _ na ha, rfl⟩, fun i u e h1 h2 => tr_but hP b (okWs_iff.mp k e (List.mem_of_getElem? h2)) (c i u e h1 h2)⟩
/-- what stands while a speech is made -/
structure Sg (pu nl : Addr) (H0 : Hp) (o : HO) (H : Hp) (M : Nat) (fs : List (Nat × V × PyData)) : Prop where
  b : But pu H0 H
  P : Purse H pu M
  l : H nl = some o
  n : nl ≠ pu
  t : ∀ f ∈ fs, okW f.2.2 = true ∧ Tr H f.1 f.2.1 f.2.2
variable {pu nl : Addr} {H0 H : Hp} {o : HO} {M : Nat} {fs : List (Nat × V × PyData)}
theorem Sg.new (S : Sg pu nl H0 o H M fs) {T : Addr} (q : HO) (h : H T = none) : Sg pu nl H0 o (upd H T q) M fs :=
  ⟨S.b.trans (But.of (Same.updf h)), S.P.same (Same.updf h), Same.updf h _ _ S.l, S.n, fun f m => ⟨(S.t f m).1, (S.t f m).2.same (Same.updf h)⟩⟩
theorem Sg.draw (S : Sg pu nl H0 o H M fs) {H' : Hp} {M' : Nat} (b : But pu H H') (P : Purse H' pu M') : Sg pu nl H0 o H' M' fs :=
  ⟨S.b.trans b, P, b _ _ S.n S.l, S.n, fun f m => ⟨(S.t f m).1, tr_but S.P b (S.t f m).1 (S.t f m).2⟩⟩
theorem Sg.tup (S : Sg pu nl H0 o H M fs) {T : Addr} (h : H T = none) (n : Nat) (xs : List V) (ds : List PyData) (k : okWs ds = true) (a : TA2 (upd H T (.tup xs)) n xs ds) (l : ds.length ≤ 1000) :
    Sg pu nl H0 o (upd H T (.tup xs)) M ((n + 1, .ref T, .tuple ds) :: fs) :=
  ⟨(S.new _ h).b, (S.new _ h).P, (S.new _ h).l, S.n, fun f m => by
    rcases List.mem_cons.mp m with rfl | m
    · exact ⟨k, TA2.tup upd_same a l⟩
    · exact (S.new _ h).t f m⟩
theorem Sg.at (S : Sg pu nl H0 o H M fs) (n : Nat) (x : V) (d : PyData) (m : (n, x, d) ∈ fs) : Tr H n x d := (S.t _ m).2
theorem ti {H : Hp} {n : Nat} (i : Int) : Tr H n (.int i) (.int i) := Tr.flat (.int i)
theorem ts {H : Hp} {n : Nat} (i : Str) : Tr H n (.str i) (.str i) := Tr.flat (.str i)
theorem tn {H : Hp} {n : Nat} : Tr H n .non .none := Tr.flat .non
section
variable {P : Program} {w : World} {K : PySem.W.Frag} {mg : Str → Option Value} {base : Heap}
abbrev s_speech : Stmt := top 53
abbrev N_speech : List Str := ["_law_purse_here", "_law_names", "_law_some"]
theorem sc_speech : FnScope N_speech ["_law_purse_here"] (defScope s_speech) := ⟨rfl, rfl, rfl, by decide +kernel, rfl, by decide +kernel, by decide +kernel⟩
theorem ok_speech {f : Addr} {fd : FuncData} (F : FnP K "_law_speech" s_speech f fd) (Z : FreeS mg)
    {f_words : Addr} {d_words : FuncData} (g_words : mg "_law_words" = some (.ref f_words)) (F_words : FnP K "_law_words" s_words f_words d_words) (G_words : FnOk P w K mg base CX0 4 f_words d_words ["_law_purse_here", "_law_many"] spLWords)
    {f_one_of : Addr} {d_one_of : FuncData} (g_one_of : mg "_law_one_of" = some (.ref f_one_of)) (F_one_of : FnP K "_law_one_of" s_one_of f_one_of d_one_of) (G_one_of : FnOk P w K mg base CX0 3 f_one_of d_one_of ["_law_purse_here", "_law_some"] (spOne K))
    {f_draw : Addr} {d_draw : FuncData} (g_draw : mg "_law_draw" = some (.ref f_draw)) (F_draw : FnP K "_law_draw" s_draw f_draw d_draw) (G_draw : FnOk P w K mg base CX0 2 f_draw d_draw ["_law_purse_here", "_law_many"] spDraw) :
    FnOk P w K mg base CX0 5 f fd ["_law_purse_here"] spSpeech := by
  have b_words : Binds K d_words ["_law_purse_here", "_law_many"] [] := F_words.bindsN fun _ _ _ _ _ _ us hl => match us, hl with | [_, _], _ => rfl
  have b_one_of : Binds K d_one_of ["_law_purse_here", "_law_some"] [] := F_one_of.bindsN fun _ _ _ _ _ _ us hl => match us, hl with | [_, _], _ => rfl
  have b_draw : Binds K d_draw ["_law_purse_here", "_law_many"] [] := F_draw.bindsN fun _ _ _ _ _ _ us hl => match us, hl with | [_, _], _ => rfl
  refine F.ok sc_speech (fun vs H Q E h => ?_) (fun cdv A outer s H vs Q E hr h => ?_)
  · obtain ⟨pu, N, rfl, _⟩ := h
    rfl
  · obtain ⟨pu, N, rfl, hP, hN, k⟩ := h
    have mx : ∀ m : Int, 1 ≤ m → m < 100 → mixes m = 1 := fun m h1 h2 => mixes_one h1 (by omega)
    have one : ∀ m : Int, 1 ≤ m → m < 100 → ∀ M, M ≤ 2 ^ 41 → M + mixes m ≤ 2 ^ 50 ∧ mixes m ≤ 2 ^ 50 := fun m h1 h2 M hM => by
      rw [mx m h1 h2]
      omega
    have nd := sc_speech.nd
    refine ⟨_, PSs.nox (pss_cons (ps_set (i := 1) nd rfl (Or.inl rfl) (pe_call G_words (hr.mono (by decide)) rfl g_words F_words.kp b_words .nil pass0 (pa_cons (pv 0) (pa_cons (pe_int) (pa_nil)))))
      (pss_cons (ps_set (i := 2) nd rfl (Or.inl rfl) (pe_lst (pa_cons (pe_tup (pa_cons (pe_str) (pa_cons (pe_tup (pa_cons (pe_ix ix_list (pv 1) (pe_int) (fun _ _ => rfl)) (pa_cons (pe_call G_draw (hr.mono (by decide)) rfl g_draw F_draw.kp b_draw .nil pass0 (pa_cons (pv 0) (pa_cons (pe_int) (pa_nil)))) (pa_nil)))) (pa_cons (pe_op op_add (pe_int) (pe_call G_draw (hr.mono (by decide)) rfl g_draw F_draw.kp b_draw .nil pass0 (pa_cons (pv 0) (pa_cons (pe_int) (pa_nil))))) (pa_cons (pe_non) (pa_nil)))))) (pa_cons (pe_tup (pa_cons (pe_str) (pa_cons (pe_tup (pa_cons (pe_ix ix_list (pv 1) (pe_int) (fun _ _ => rfl)) (pa_nil))) (pa_cons (pe_int) (pa_nil))))) (pa_cons (pe_tup (pa_cons (pe_str) (pa_cons (pe_tup (pa_cons (pe_ix ix_list (pv 1) (pe_int) (fun _ _ => rfl)) (pa_nil))) (pa_nil)))) (pa_cons (pe_tup (pa_nil)) (pa_cons (pe_tup (pa_cons (pe_int) (pa_cons (pe_non) (pa_cons (pe_ix ix_list (pv 1) (pe_int) (fun _ _ => rfl)) (pa_nil))))) (pa_nil))))))))
      (pss_one (ps_ret (pe_call G_one_of (hr.mono (by decide)) rfl g_one_of F_one_of.kp b_one_of .nil pass0 (pa_cons (pv 0) (pa_cons (pe_op op_cat (pv 2) (pe_lst (pa_cons (pe_tup (pa_cons (pe_str) (pa_cons (pe_tup (pa_cons (pe_int) (pa_cons (pe_int) (pa_nil)))) (pa_cons (pe_int) (pa_nil))))) (pa_cons (pe_tup (pa_cons (pe_tup (pa_cons (pe_tup (pa_cons (pe_tup (pa_nil)) (pa_nil))) (pa_nil))) (pa_nil))) (pa_cons (pe_tup (pa_cons (pe_str) (pa_cons (pe_ix ix_list (pv 1) (pe_int) (fun _ _ => rfl)) (pa_cons (pe_call G_draw (hr.mono (by decide)) rfl g_draw F_draw.kp b_draw .nil pass0 (pa_cons (pv 0) (pa_cons (pe_int) (pa_nil)))) (pa_nil))))) (pa_nil)))))) (pa_nil)))))))), ?_⟩
    have sl : (100 : Nat) ≤ sizeLine := by decide
    have dr : ∀ m : Int, 1 ≤ m → m < 100 → ∀ M, M ≤ N + 60 → ∀ H', Purse H' pu M → 1 ≤ m ∧ m.natAbs.log2 < 9000 ∧ Purse H' pu M ∧ M + mixes m ≤ 2 ^ 50 ∧ mixes m ≤ 2 ^ 50 := fun m h1 h2 M hM H' hP' =>
      ⟨h1, log_small h1 (by omega), hP', (one m h1 h2 M (by omega)).1, (one m h1 h2 0 (by omega)).2⟩
    refine ⟨_, rfl, pu, N, rfl, hP, by omega, fun nl n0 n1 H1 b1 P1 nfr hl w0 w1 => ?_⟩
    have S1 : Sg pu nl H (.lst [.str n0, .str n1]) H1 (N + 50) [] := ⟨b1, P1, hl, fresh_ne hP nfr, fun f m => nomatch m⟩
    have a0 : ∀ {x y : V}, atI [x, y] 0 = some x := atI_nat (j := 0) rfl
    have a1 : ∀ {x y : V}, atI [x, y] 1 = some y := atI_nat (j := 1) rfl
    have le : ∀ n : Nat, n ≤ 100 → n ≤ sizeLine := fun n h => by omega
    obtain ⟨d1, d2, d3, d4, d5⟩ := dr 99 (by decide) (by decide) (N + 50) (by omega) H1 S1.P
    refine ⟨_, rfl, nl, _, 0, .str n0, rfl, rfl, SqL.of S1.l, a0, _, rfl, pu, 99, N + 50, rfl, d1, d2, d3, d4, d5, fun r1 H2 r10 r11 b2 P2 => ?_⟩
    rw [mx 99 (by decide) (by decide)] at P2
    have S2 := S1.draw b2 P2
    refine ⟨le _ (by simp), fun T1 h1 => ?_⟩
    have S3 := S2.tup h1 3 [.str n0, .int r1] [.str n0, .int r1] (by simp [okWs, okW, w0, r10]) ⟨ts _, ti _, trivial⟩ (by simp)
    obtain ⟨d1, d2, d3, d4, d5⟩ := dr 9 (by decide) (by decide) (N + 51) (by omega) _ S3.P
    refine ⟨_, rfl, pu, 9, N + 51, rfl, d1, d2, d3, d4, d5, fun r2 H4 r20 r21 b4 P4 => ⟨_, _, rfl, rfl, le _ (by simp), fun T2 h2 => ?_⟩⟩
    rw [mx 9 (by decide) (by decide)] at P4
    have S4 := S3.draw b4 P4
    have S5 := S4.tup h2 4 [.str (Str.ofString "put"), .ref T1, .int (1 + r2), .non] [.str (Str.ofString "put"), .tuple [.str n0, .int r1], .int (1 + r2), .none] (by simp [okWs, okW, w0, r10]; exact ⟨by decide +kernel, by omega⟩) ⟨ts _, (S4.new _ h2).at 4 _ _ (by simp), ti _, tn, trivial⟩ (by simp)
    refine ⟨_, rfl, nl, _, 0, .str n0, rfl, rfl, SqL.of S5.l, a0, le _ (by simp), fun T3 h3 => ?_⟩
    have S6 := S5.tup h3 3 [.str n0] [.str n0] (by simp [okWs, okW, w0]) ⟨ts _, trivial⟩ (by simp)
    refine ⟨le _ (by simp), fun T4 h4 => ?_⟩
    have S7 := S6.tup h4 4 [.str (Str.ofString "copy"), .ref T3, .int 3] [.str (Str.ofString "copy"), .tuple [.str n0], .int 3] (by simp [okWs, okW, w0]; decide +kernel) ⟨ts _, (S6.new _ h4).at 4 _ _ (by simp), ti _, trivial⟩ (by simp)
    refine ⟨_, rfl, nl, _, 1, .str n1, rfl, rfl, SqL.of S7.l, a1, le _ (by simp), fun T5 h5 => ?_⟩
    have S8 := S7.tup h5 3 [.str n1] [.str n1] (by simp [okWs, okW, w1]) ⟨ts _, trivial⟩ (by simp)
    refine ⟨le _ (by simp), fun T6 h6 => ?_⟩
    have S9 := S8.tup h6 4 [.str (Str.ofString "trim"), .ref T5] [.str (Str.ofString "trim"), .tuple [.str n1]] (by simp [okWs, okW, w1]; decide +kernel) ⟨ts _, (S8.new _ h6).at 4 _ _ (by simp), trivial⟩ (by simp)
    refine ⟨le _ (by simp), fun T7 h7 => ?_⟩
    have S10 := S9.tup h7 4 [] [] rfl trivial (by simp)
    refine ⟨_, rfl, nl, _, 0, .str n0, rfl, rfl, SqL.of S10.l, a0, le _ (by simp), fun T8 h8 => ?_⟩
    have S11 := S10.tup h8 4 [.int 0, .non, .str n0] [.int 0, .none, .str n0] (by simp [okWs, okW, w0]) ⟨ti _, tn, ts _, trivial⟩ (by simp)
    refine ⟨le _ (by simp), fun L1 hL1 => ?_⟩
    have S12 := S11.new (.lst [.ref T2, .ref T4, .ref T6, .ref T7, .ref T8]) hL1
    have nL1 : L1 ≠ pu := fresh_ne S11.P hL1
    have R12 : Sg pu L1 H (.lst [.ref T2, .ref T4, .ref T6, .ref T7, .ref T8]) _ _ [] := ⟨S12.b, S12.P, upd_same, nL1, fun f m => nomatch m⟩
    refine ⟨_, rfl, _, rfl, le _ (by simp), fun T9 h9 => ?_⟩
    have R13 := R12.new (.tup [.int 0, .int 3]) h9
    have S13 := S12.tup h9 3 [.int 0, .int 3] [.int 0, .int 3] (by simp [okWs, okW]) ⟨ti _, ti _, trivial⟩ (by simp)
    refine ⟨le _ (by simp), fun T10 h10 => ?_⟩
    have R14 := R13.new (.tup [.str (Str.ofString "clear"), .ref T9, .int 7]) h10
    have S14 := S13.tup h10 4 [.str (Str.ofString "clear"), .ref T9, .int 7] [.str (Str.ofString "clear"), .tuple [.int 0, .int 3], .int 7] (by simp [okWs, okW]; decide +kernel) ⟨ts _, (S13.new _ h10).at 4 _ _ (by simp), ti _, trivial⟩ (by simp)
    refine ⟨le _ (by simp), fun T11 h11 => ?_⟩
    have R15 := R14.new (.tup []) h11
    have S15 := S14.tup h11 1 [] [] rfl trivial (by simp)
    refine ⟨le _ (by simp), fun T12 h12 => ?_⟩
    have R16 := R15.new (.tup [.ref T11]) h12
    have S16 := S15.tup h12 2 [.ref T11] [.tuple []] rfl ⟨(S15.new _ h12).at 2 _ _ (by simp), trivial⟩ (by simp)
    refine ⟨le _ (by simp), fun T13 h13 => ?_⟩
    have R17 := R16.new (.tup [.ref T12]) h13
    have S17 := S16.tup h13 3 [.ref T12] [.tuple [.tuple []]] rfl ⟨(S16.new _ h13).at 3 _ _ (by simp), trivial⟩ (by simp)
    refine ⟨le _ (by simp), fun T14 h14 => ?_⟩
    have R18 := R17.new (.tup [.ref T13]) h14
    have S18 := S17.tup h14 4 [.ref T13] [.tuple [.tuple [.tuple []]]] rfl ⟨(S17.new _ h14).at 4 _ _ (by simp), trivial⟩ (by simp)
    obtain ⟨d1, d2, d3, d4, d5⟩ := dr 9 (by decide) (by decide) (N + 52) (by omega) _ S18.P
    refine ⟨_, rfl, nl, _, 0, .str n0, rfl, rfl, SqL.of S18.l, a0, _, rfl, pu, 9, N + 52, rfl, d1, d2, d3, d4, d5, fun r3 H19 r30 r31 b19 P19 => ⟨le _ (by simp), fun T15 h15 => ?_⟩⟩
    rw [mx 9 (by decide) (by decide)] at P19
    have R19 := (R18.draw b19 P19).new (.tup [.str (Str.ofString "pin"), .str n0, .int r3]) h15
    have S19 := (S18.draw b19 P19).tup h15 4 [.str (Str.ofString "pin"), .str n0, .int r3] [.str (Str.ofString "pin"), .str n0, .int r3] (by simp [okWs, okW, w0, r30]; decide +kernel) ⟨ts _, ts _, ti _, trivial⟩ (by simp)
    refine ⟨le _ (by simp), fun L2 hL2 => ?_⟩
    have R20 := R19.new (.lst [.ref T10, .ref T14, .ref T15]) hL2
    have S20 := S19.new (.lst [.ref T10, .ref T14, .ref T15]) hL2
    refine ⟨L1, L2, _, _, rfl, rfl, R20.l, upd_same, le _ (by simp), fun L3 hL3 => ?_⟩
    have S21 := S20.new (.lst ([.ref T2, .ref T4, .ref T6, .ref T7, .ref T8] ++ [.ref T10, .ref T14, .ref T15])) hL3
    refine ⟨pu, L3, _, N + 53, rfl, fresh_ne S20.P hL3, SqL.of upd_same, by simp, by simp, S21.P, by omega, fun x H' m b P => ?_⟩
    have S := S21.draw b P
    have fin : ∀ T ds, (5, V.ref T, PyData.tuple ds) ∈ _ → szWs ds ≤ 20 → Q (.ref T) H' := fun T ds m z => k T ds H' S.b (S.P.mono (by omega)) (S.t _ m).2 (S.t _ m).1 z
    simp at m
    rcases m with rfl | rfl | rfl | rfl | rfl | rfl | rfl | rfl
    · exact fin T2 [.str (Str.ofString "put"), .tuple [.str n0, .int r1], .int (1 + r2), .none] (by simp) (by simp [szWs, szW])
    · exact fin T4 [.str (Str.ofString "copy"), .tuple [.str n0], .int 3] (by simp) (by simp [szWs, szW])
    · exact fin T6 [.str (Str.ofString "trim"), .tuple [.str n1]] (by simp) (by simp [szWs, szW])
    · exact fin T7 [] (by simp) (by simp [szWs])
    · exact fin T8 [.int 0, .none, .str n0] (by simp) (by simp [szWs, szW])
    · exact fin T10 [.str (Str.ofString "clear"), .tuple [.int 0, .int 3], .int 7] (by simp) (by simp [szWs, szW])
    · exact fin T14 [.tuple [.tuple [.tuple []]]] (by simp) (by simp [szWs, szW])
    · exact fin T15 [.str (Str.ofString "pin"), .str n0, .int r3] (by simp) (by simp [szWs, szW])
end
end K27
set_option Elab.async false
set_option linter.all false
set_option maxRecDepth 100000
set_option maxHeartbeats 8000000
namespace K27
open PySem PySem.Spec PyProof.Rows L2 KB
/-- the pages of a log, in a new list -/
def spOfP : Sp := fun vs H Q _ => ∃ (a : Addr) (ds : List Dd), vs = [.ref a] ∧ LogAt H a ds ∧ Lg ds ∧ ∀ q H', Same H H' → H q = none → H' q = some (.lst (numsV (pgs ds))) → Q (.ref q) H'
theorem sel_not (r l : List Nat) : ((List.range r.length).filterMap fun j => (r[j]?).bind fun x => if x ∈ l then none else some (V.int (x : Int))) = numsV (r.filter fun x => decide (x ∉ l)) := by
  induction r with
  | nil => rfl
  | cons x r ih =>
    rw [List.length_cons, List.range_succ_eq_map, List.filterMap_cons, List.filterMap_map, List.filter_cons]
    have e : ((fun j => ((x :: r)[j]?).bind fun x => if x ∈ l then none else some (V.int (x : Int))) ∘ Nat.succ) = fun j => (r[j]?).bind fun x => if x ∈ l then none else some (V.int (x : Int)) := rfl
    rw [e, ih]
    by_cases h : x ∈ l
    · simp [h]
    · simp [h, numsV]
theorem flat_nums2 (l : List Nat) : (numsV l).all flatV = true := by
  rw [List.all_eq_true]
  intro v m
  obtain ⟨y, _, rfl⟩ := List.mem_map.mp m
  rfl
theorem inV_nums2 (x : Nat) : ∀ l : List Nat, inV (.int (x : Int)) (numsV l) = decide (x ∈ l)
  | [] => by simp [inV, numsV]
  | y :: l => by
    have ih := inV_nums2 x l
    have e : eqV (.int (y : Int)) (.int (x : Int)) = decide (x = y) := by
      show ((y : Int) == (x : Int)) = _
      by_cases h : x = y
      · subst h
        simp
      · simp [h]
        omega
    unfold inV numsV at *
    rw [List.map_cons, List.any_cons, ih, e]
    simp [List.mem_cons]
theorem numsV_app (l m : List Nat) : numsV l ++ numsV m = numsV (l ++ m) := by
  unfold numsV
  rw [List.map_append]
theorem le_uniq : ∀ {l m : List Int}, l.Perm m → l.Pairwise (· ≤ ·) → m.Pairwise (· ≤ ·) → l = m
  | [], m, p, _, _ => (List.nil_perm.mp p).symm
  | x :: l, [], p, _, _ => by
    have := p.length_eq
    cases this
  | x :: l, y :: m, p, hl, hm => by
    obtain ⟨l1, l2⟩ := List.pairwise_cons.mp hl
    obtain ⟨m1, m2⟩ := List.pairwise_cons.mp hm
    have e : x = y := by
      have a : x ∈ y :: m := p.mem_iff.mp List.mem_cons_self
      have b : y ∈ x :: l := p.mem_iff.mpr List.mem_cons_self
      rcases List.mem_cons.mp a with a | a
      · exact a
      · rcases List.mem_cons.mp b with b | b
        · exact b.symm
        · have := m1 _ a
          have := l1 _ b
          omega
    subst e
    rw [le_uniq (List.Perm.cons_inv p) l2 m2]
section
variable {P : Program} {w : World} {K : PySem.W.Frag} {mg : Str → Option Value} {base : Heap}
abbrev s_of_pages : Stmt := top 56
abbrev N_of_pages : List Str := ["_law_log_here", "_law_found", "_law_deed", "_law_page"]
theorem sc_of_pages : FnScope N_of_pages ["_law_log_here"] (defScope s_of_pages) := ⟨rfl, rfl, rfl, by decide +kernel, rfl, by decide +kernel, by decide +kernel⟩
theorem ok_of_pages {f : Addr} {fd : FuncData} (F : FnP K "_law_of_pages" s_of_pages f fd) (Z : FreeS mg) :
    FnOk P w K mg base CX0 1 f fd ["_law_log_here"] spOfP := by
  refine F.ok sc_of_pages (fun vs H Q E h => ?_) (fun cdv A outer s H vs Q E hr h => ?_)
  · obtain ⟨a, ds, rfl, _⟩ := h
    rfl
  · obtain ⟨a, ds, rfl, hL, hG, k⟩ := h
    obtain ⟨xs, ha, lx, hx⟩ := id hL
    have l60 := hG.len
    have pl := hG.pl
    have sl : (2000 : Nat) ≤ sizeLine := by decide
    have nd := sc_of_pages.nd
    refine ⟨_, PSs.nox (pss_cons (ps_set (i := 1) nd rfl (Or.inr rfl) (pe_lst (pa_nil)))
      (pss_cons (ps_for PassesOwn.never rfl (pi_list (pv 0)) (pg_name (i := 2) nd rfl (Or.inl rfl))
        (pss_one (ps_set (i := 1) nd rfl (Or.inr rfl) (pe_op op_cat (pv 1) (pe_lc (own := [("_law_page", 3)]) (g := gName 3) (tt := tTest (tOp (rIn K true) (tVar 3) (tVar 1))) (te := tVar 3) (by rfl) nd (pi_list (pe_ix ix_tup (pv 2) (pe_int) (fun _ _ => rfl)))
          (blkOk_by (own := [("_law_page", 3)]) (N := N_of_pages) (sc := defScope s_of_pages) (by decide +kernel)) (fun _ _ _ _ _ => pg_name (i := 3) nd rfl (Or.inl rfl)) (fun _ _ _ _ _ => pts_one (pt_cmpR op_notIn_seq (pv 3) (pv 1) (by rfl)))
          (fun _ _ _ _ _ => pv 3))))))
      (pss_one (ps_ret (pe_callB (cr_sorted) (by rfl) Z.sorted (by decide +kernel) (pa_cons (pv 1) pa_nil)))))), ?_⟩
    refine ⟨Nat.zero_le _, fun L0 hL0 => ?_⟩
    have s0 : Same H (upd H L0 (.lst [])) := Same.updf hL0
    refine ⟨_, rfl, a, rfl, ⟨_, SqL.of (s0 _ _ ha)⟩, ?_⟩
    have sub : ∀ {l : List Nat} {i : Nat}, l.Nodup → (∀ x, x ∈ l ↔ ∃ d ∈ ds.take i, x ∈ d.r) → l.length ≤ 30 := fun {l i} nl ml => by
      have := List.Nodup.length_le_of_subset (l₂ := pgs ds) nl fun x m => by
        obtain ⟨d, hd, hx⟩ := (ml x).mp m
        exact pgs_mem.mpr ⟨d, List.mem_of_mem_take hd, hx⟩
      omega
    refine for_it (walk_list (K := K) (a := a) (xs := xs)) (fun i σ G => Same H G ∧ ∃ (L : Addr) (l : List Nat) (v2 v3 : Option V), G L = some (.lst (numsV l)) ∧ l.Nodup ∧ (∀ x, x ∈ l ↔ ∃ d ∈ ds.take i, x ∈ d.r) ∧ σ = [some (.ref a), some (.ref L), v2, v3])
      ⟨s0, L0, [], _, _, upd_same, .nil, (fun x => by simp), rfl⟩ (fun i σ G _ hh => SqL.of (hh.1 _ _ ha)) ?_ ?_
    · rintro i x σ G G' hi ⟨sG, L, l, v2, v3, hl, nl, ml, rfl⟩ ⟨rfl, hv⟩
      have li : i < ds.length := by omega
      have hd : ds[i]? = some ds[i] := List.getElem?_eq_getElem li
      obtain ⟨t, rd, tw, rfl, ht, hr1, _⟩ := (hx i x _ hv hd).same sG
      have okd := hG.ok ds[i] (List.getElem_mem li)
      have l20 := okd.len
      have l30 := sub nl ml
      refine ⟨_, rfl, ?_⟩
      refine ⟨_, rfl, t, _, 2, .ref rd, rfl, rfl, SqT.of ht, rfl, rd, rfl, ⟨_, SqL.of hr1⟩, fun D hD => ?_⟩
      have ln : (numsV ds[i].r).length = ds[i].r.length := List.length_map _
      refine lc_sel (n := (numsV ds[i].r).length) (walk_list (K := K) (a := rd) (xs := numsV ds[i].r)) (fun j => (ds[i].r[j]?).bind fun x => if x ∈ l then none else some (V.int (x : Int))) (by omega) hD (fun H2 s2 => SqL.of (s2 _ _ hr1)) ?_ ?_
      · rintro j v H5 H6 Qy Qn hj s5 ⟨rfl, hy⟩ ky kn
        have lj : j < ds[i].r.length := by omega
        unfold numsV at hy
        rw [List.getElem?_map, List.getElem?_eq_getElem lj] at hy
        obtain rfl := Option.some.inj hy
        refine ⟨rfl, _, rfl, _, rfl, L, numsV l, rfl, .inl (SqL.of (s5 _ _ hl)), rfl, flat_nums2 l, _, rfl, ?_⟩
        rw [inV_nums2]
        by_cases e : ds[i].r[j] ∈ l
        · rw [decide_eq_true e]
          exact iteF (kn _ (Same.refl _) (by rw [List.getElem?_eq_getElem lj]; exact if_pos e))
        · rw [decide_eq_false e]
          exact iteT ⟨_, rfl, ky _ _ (Same.refl _) (by rw [List.getElem?_eq_getElem lj]; exact if_neg e)⟩
      · intro H5 s5 hR
        rw [ln, sel_not] at hR
        have fl := List.length_filter_le (fun x => decide (x ∉ l)) ds[i].r
        refine ⟨L, D, _, _, rfl, rfl, s5 _ _ hl, hR, (by unfold numsV; rw [List.length_map, List.length_map]; omega), fun q hq => ?_⟩
        refine ⟨fun b o e => Same.updf hq _ _ (s5 _ _ (sG _ _ e)), q, l ++ ds[i].r.filter (fun x => decide (x ∉ l)), _, _, by rw [upd_same, numsV_app], ?_, fun x => ?_, rfl⟩
        · rw [List.nodup_append]
          refine ⟨nl, (okd.asc.imp fun h => Nat.ne_of_lt h).filter _, fun x m y n z => ?_⟩
          have := (List.mem_filter.mp n).2
          rw [← z] at this
          exact of_decide_eq_true this m
        · rw [List.mem_append, ml x, List.mem_filter, decide_eq_true_eq, List.take_succ, hd]
          constructor
          · rintro (⟨d, m, n⟩ | ⟨m, _⟩)
            · exact ⟨d, List.mem_append_left _ m, n⟩
            · exact ⟨_, List.mem_append_right _ (by simp), m⟩
          · rintro ⟨d, m, n⟩
            rcases List.mem_append.mp m with m | m
            · exact .inl ⟨d, m, n⟩
            · simp at m
              subst m
              by_cases z : x ∈ l
              · exact .inl ((ml x).mp z)
              · exact .inr ⟨n, z⟩
    · rintro σ G ⟨sG, L, l, v2, v3, hl, nl, ml, rfl⟩
      rw [lx, List.take_length] at ml
      have l30 := sub (i := ds.length) nl (by rw [List.take_length]; exact ml)
      have mm : ∀ m : List Nat, (m.map fun x : Nat => (x : Int)).map V.int = numsV m := fun m => by
        rw [List.map_map]
        rfl
      refine ⟨_, rfl, L, l.map fun x : Nat => (x : Int), rfl, SqL.of (by rw [mm]; exact hl), by rw [List.length_map]; omega, fun ns p hp hs hn => ?_⟩
      have pe : l.Perm (pgs ds) := (List.perm_ext_iff_of_nodup nl ((pgs_asc ds).imp fun h => Nat.ne_of_lt h)).mpr fun x => by rw [ml x, pgs_mem]
      have e : ns = (pgs ds).map fun x : Nat => (x : Int) := le_uniq (hp.trans (pe.map _)) hs (List.pairwise_map.mpr ((pgs_asc ds).imp fun h => by omega))
      refine k p _ (sG.trans (Same.updf hn)) (none_back sG hn) ?_
      rw [upd_same, e, mm]
end
end K27
set_option Elab.async false
set_option linter.all false
set_option maxRecDepth 100000
set_option maxHeartbeats 8000000
namespace K27
open PySem PySem.Spec PyProof.Rows L2 KB
/-- a right log, in a new list; none of it is the purse -/
def spLog : Sp := fun vs H Q _ => ∃ (pu pg : Addr) (n N : Nat) (ps : List Nat), vs = [.ref pu, .int (n : Int), .ref pg] ∧ n ≤ 10 ∧ Purse H pu N ∧ N ≤ 2 ^ 36 ∧ pg ≠ pu ∧ H pg = some (.lst (numsV ps)) ∧ 1 ≤ ps.length ∧ ps.length ≤ 6 ∧ ps.Pairwise (· < ·) ∧
  ∀ q ds H', But pu H H' → Purse H' pu (N + 100 * n) → H q = none → LogAt (off H' pu) q ds → Lg ds → ds.length = n → (∀ d ∈ ds, ∀ x ∈ d.r, x ∈ ps) → (∀ d ∈ ds, d.n ≤ 100) → Q (.ref q) H'
theorem but_off {p : Addr} {A B : Hp} (k : But p A B) : Same (off A p) (off B p) := fun c o e => by
  by_cases n : c = p
  · unfold off at e
    rw [if_pos n] at e
    cases e
  · rw [off_at n] at e ⊢
    exact k c o n e
theorem off2_upd (X : Hp) (p L : Addr) (o : HO) : off (off (upd X L o) p) L = off (off X p) L := by
  funext c
  by_cases c1 : c = L
  · unfold off
    rw [if_pos c1, if_pos c1]
  · unfold off
    rw [if_neg c1, if_neg c1, upd_ne c1]
theorem tr_tup {H H' : Hp} (k : ∀ a xs, H a = some (.tup xs) → H' a = some (.tup xs)) : ∀ {n : Nat} {x : V} {d : PyData}, okW d = true → Tr H n x d → Tr H' n x d
  | 0, _, _, _, h => h
  | n + 1, x, d, o, h => by
    rcases h with h | ⟨a, xs, ds, rfl, l, l2, t, c⟩
    · exact .inl h
    · rcases t with ⟨_, rfl⟩ | ⟨ha, rfl⟩
      · exact absurd o Bool.false_ne_true
      · exact .inr ⟨a, xs, ds, rfl, l, l2, .inr ⟨k _ _ ha, rfl⟩, fun i u e h1 h2 => tr_tup k (okWs_iff.mp o e (List.mem_of_getElem? h2)) (c i u e h1 h2)⟩
section
variable {P : Program} {w : World} {K : PySem.W.Frag} {mg : Str → Option Value} {base : Heap}
abbrev s_log : Stmt := top 54
abbrev N_log : List Str := ["_law_purse_here", "_law_many", "_law_pages", "_law_found", "_law_number", "_law_spin", "_law_page", "_law_reads", "_law_late"]
theorem sc_log : FnScope N_log ["_law_purse_here", "_law_many", "_law_pages"] (defScope s_log) := ⟨rfl, rfl, rfl, by decide +kernel, rfl, by decide +kernel, by decide +kernel⟩
theorem ok_log {f : Addr} {fd : FuncData} (F : FnP K "_law_log" s_log f fd) (Z : FreeS mg)
    {f_one_of : Addr} {d_one_of : FuncData} (g_one_of : mg "_law_one_of" = some (.ref f_one_of)) (F_one_of : FnP K "_law_one_of" s_one_of f_one_of d_one_of) (G_one_of : FnOk P w K mg base CX0 3 f_one_of d_one_of ["_law_purse_here", "_law_some"] (spOne K))
    {f_draw : Addr} {d_draw : FuncData} (g_draw : mg "_law_draw" = some (.ref f_draw)) (F_draw : FnP K "_law_draw" s_draw f_draw d_draw) (G_draw : FnOk P w K mg base CX0 2 f_draw d_draw ["_law_purse_here", "_law_many"] spDraw)
    {f_speech : Addr} {d_speech : FuncData} (g_speech : mg "_law_speech" = some (.ref f_speech)) (F_speech : FnP K "_law_speech" s_speech f_speech d_speech) (G_speech : FnOk P w K mg base CX0 5 f_speech d_speech ["_law_purse_here"] spSpeech) :
    FnOk P w K mg base CX0 6 f fd ["_law_purse_here", "_law_many", "_law_pages"] spLog := by
  have b_one_of : Binds K d_one_of ["_law_purse_here", "_law_some"] [] := F_one_of.bindsN fun _ _ _ _ _ _ us hl => match us, hl with | [_, _], _ => rfl
  have b_draw : Binds K d_draw ["_law_purse_here", "_law_many"] [] := F_draw.bindsN fun _ _ _ _ _ _ us hl => match us, hl with | [_, _], _ => rfl
  have b_speech : Binds K d_speech ["_law_purse_here"] [] := F_speech.bindsN fun _ _ _ _ _ _ us hl => match us, hl with | [_], _ => rfl
  refine F.ok sc_log (fun vs H Q E h => ?_) (fun cdv A outer s H vs Q E hr h => ?_)
  · obtain ⟨pu, pg, n, N, ps, rfl, _⟩ := h
    rfl
  · obtain ⟨pu, pg, n, N, ps, rfl, n10, hP, hN, npg, hpg, p1, p6, ap, k⟩ := h
    have mx : ∀ m : Int, 1 ≤ m → m < 100 → mixes m = 1 := fun m h1 h2 => mixes_one h1 (by omega)
    have one : ∀ m : Int, 1 ≤ m → m < 100 → ∀ M, M ≤ 2 ^ 41 → M + mixes m ≤ 2 ^ 50 ∧ mixes m ≤ 2 ^ 50 := fun m h1 h2 M hM => by
      rw [mx m h1 h2]
      omega
    have sl : (2000 : Nat) ≤ sizeLine := by decide
    have nd := sc_log.nd
    refine ⟨_, PSs.nox (pss_cons (ps_par (i := 3) (j := 4) rfl nd rfl rfl (by decide) rfl rfl (pa_cons (pe_lst (pa_nil)) (pa_cons (pe_int) (pa_nil))) rfl)
      (pss_cons (ps_for PassesOwn.never rfl (pi_range1 (by rfl) Z.range (pa_cons (pv 1) (pa_nil))) (pg_name (i := 5) nd rfl (Or.inl rfl))
        (pss_cons (ps_set (i := 4) nd rfl (Or.inl rfl) (pe_op op_add (pe_op op_add (pv 4) (pe_int)) (pe_op op_mul (pe_call G_draw (hr.mono (by decide)) rfl g_draw F_draw.kp b_draw .nil pass0 (pa_cons (pv 0) (pa_cons (pe_int) (pa_nil)))) (pe_callTy call_int1 (by rfl) Z.int (by decide +kernel) (pa_cons (pe_cmpR op_eq (pe_call G_draw (hr.mono (by decide)) rfl g_draw F_draw.kp b_draw .nil pass0 (pa_cons (pv 0) (pa_cons (pe_int) (pa_nil)))) (pe_int) (nomark _)) (pa_nil))))))
      (pss_cons (ps_set (i := 6) nd rfl (Or.inr rfl) (pe_call G_one_of (hr.mono (by decide)) rfl g_one_of F_one_of.kp b_one_of .nil pass0 (pa_cons (pv 0) (pa_cons (pv 2) (pa_nil)))))
      (pss_cons (ps_set (i := 7) nd rfl (Or.inl rfl) (pe_callB (cr_sorted) (by rfl) Z.sorted (by decide +kernel) (pa_cons (pe_op op_cat (pe_lst (pa_cons (pv 6) (pa_nil))) (pe_lc (own := [("_law_late", 8)]) (g := gName 8) (tt := tAnd (tTest (tOp rNe (tVar 8) (tVar 6))) (tTest (tOp rEq (tCall spDraw [] E0 (tCons (tVar 0) (tCons (tC (.int 3)) (tNil)))) (tC (.int 0))))) (te := tVar 8) (by rfl) nd (pi_list (pv 2))
          (blkOk_by (own := [("_law_late", 8)]) (N := N_log) (sc := defScope s_log) (by decide +kernel)) (fun _ _ _ _ _ => pg_name (i := 8) nd rfl (Or.inl rfl)) (fun _ _ _ _ _ => pts_one (PW.pt (pw_and (pt_cmpR op_ne (pv 8) (pv 6) (nomark _)) (pw_and1 (pt_cmpR op_eq (pe_call G_draw (hr.mono (by decide)) rfl g_draw F_draw.kp b_draw .nil pass0 (pa_cons (pv 0) (pa_cons (pe_int) (pa_nil)))) (pe_int) (nomark _))))))
          (fun _ _ _ _ _ => pv 8))) (pa_nil))))
      (pss_one (ps_expr (pe_bm PySem.F.plainAttrs_list PySem.F.slot_list_append PySem.F.type_list_append mt_append (pv 3) (pa_cons (pe_tup (pa_cons (pv 4) (pa_cons (pv 6) (pa_cons (pv 7) (pa_cons (pe_call G_speech (hr.mono (by decide)) rfl g_speech F_speech.kp b_speech .nil pass0 (pa_cons (pv 0) (pa_nil))) (pa_nil)))))) (pa_nil)))))))))
      (pss_one (ps_ret (pv 3))))), ?_⟩
    have dr : ∀ m : Int, 1 ≤ m → m < 100 → ∀ M, M ≤ N + 2000 → ∀ H', Purse H' pu M → 1 ≤ m ∧ m.natAbs.log2 < 9000 ∧ Purse H' pu M ∧ M + mixes m ≤ 2 ^ 50 ∧ mixes m ≤ 2 ^ 50 := fun m h1 h2 M hM H' hP' =>
      ⟨h1, log_small h1 (by omega), hP', (one m h1 h2 M (by omega)).1, (one m h1 h2 0 (by omega)).2⟩
    refine ⟨Nat.zero_le _, fun L hL => ⟨_, _, rfl, ?_⟩⟩
    have nL : L ≠ pu := fresh_ne hP hL
    have nLg : pg ≠ L := ne_of_none hpg hL
    have PL : Purse (upd H L (.lst [])) pu N := hP.same (Same.updf hL)
    refine ⟨_, rfl, (n : Int), rfl, by omega, by omega, ?_⟩
    rw [Int.toNat_natCast]
    refine for_it (walk_range (lo := 0) (n := n)) (fun i σ G => But pu H G ∧ (∃ M, Purse G pu M ∧ M ≤ N + 90 * i) ∧ ∃ (xs : List V) (ds : List Dd) (g : Nat) (v5 v6 v7 : Option V), G L = some (.lst xs) ∧ xs.length = ds.length ∧ ds.length = i ∧
        (∀ (j : Nat) (x : V) (d : Dd), xs[j]? = some x → ds[j]? = some d → DeedAt (off (off G pu) L) x d) ∧ (∀ d ∈ ds, d.Ok ∧ d.n ≤ g ∧ ∀ x ∈ d.r, x ∈ ps) ∧ (ds.Pairwise fun d e => d.n < e.n) ∧ g ≤ 3 * i ∧
        σ = [some (.ref pu), some (.int (n : Int)), some (.ref pg), some (.ref L), some (.int (g : Int)), v5, v6, v7, none])
      ⟨But.of (Same.updf hL), ⟨_, PL, by omega⟩, [], [], 0, _, _, _, upd_same, rfl, rfl, (fun j x d e => by simp at e), (fun d m => nomatch m), .nil, Nat.zero_le _, rfl⟩ (fun i σ G _ _ => trivial) ?_ ?_
    · rintro i x σ G G' hi ⟨bG, ⟨M, PM, lM⟩, xs, ds, g, v5, v6, v7, hx, lx, ld, dx, okx, ax, g3, rfl⟩ ⟨rfl, rfl⟩
      obtain ⟨d1, d2, d3, d4, d5⟩ := dr 3 (by decide) (by decide) M (by omega) _ PM
      refine ⟨_, rfl, _, _, rfl, rfl, _, rfl, pu, 3, M, rfl, d1, d2, d3, d4, d5, fun r1 G1 r10 r11 b1 P1 => ?_⟩
      rw [mx 3 (by decide) (by decide)] at P1
      obtain ⟨d1, d2, d3, d4, d5⟩ := dr 4 (by decide) (by decide) (M + 1) (by omega) _ P1
      refine ⟨_, rfl, pu, 4, M + 1, rfl, d1, d2, d3, d4, d5, fun r2 G2 r20 r21 b2 P2 => ?_⟩
      rw [mx 4 (by decide) (by decide)] at P2
      obtain ⟨r1, rfl⟩ : ∃ q : Nat, r1 = (q : Int) := ⟨r1.toNat, by omega⟩
      refine ⟨rfl, .inr ⟨_, rfl, _, _, rfl, rfl, .inl ⟨by omega, by omega⟩, _, _, rfl, rfl, ?_⟩⟩
      obtain ⟨g', eg, lg, lg3⟩ : ∃ g' : Nat, ((g : Int) + 1 + (r1 : Int) * (if decide (V.int r2 = V.int 0) = true then 1 else 0)) = (g' : Int) ∧ g < g' ∧ g' ≤ g + 3 := by
        split
        · exact ⟨g + 1 + r1, by omega, by omega, by omega⟩
        · exact ⟨g + 1, by omega, by omega, by omega⟩
      show gName 4 (V.int ((g : Int) + 1 + (r1 : Int) * (if decide (V.int r2 = V.int 0) = true then 1 else 0))) _ _ _
      rw [eg]
      have b12 := (bG.trans b1).trans b2
      have hp2 : G2 pg = some (.lst (numsV ps)) := b12 _ _ npg hpg
      have lnp : (numsV ps).length = ps.length := List.length_map _
      refine ⟨_, rfl, _, rfl, pu, pg, numsV ps, M + 2, rfl, npg, SqL.of hp2, by omega, by omega, P2, by omega, fun x G3 hxm b3 P3 => ?_⟩
      obtain ⟨pp, mpp, rfl⟩ := List.mem_map.mp hxm
      have hp3 := b3 _ _ npg hp2
      have hL3 : G3 L = some (.lst xs) := b3 _ _ nL (b2 _ _ nL (b1 _ _ nL hx))
      refine ⟨_, rfl, (by show 1 ≤ sizeLine; omega), fun A1 hA1 => ?_⟩
      have s4 := Same.updf (o := .lst [V.int (pp : Int)]) hA1
      have nA1 : A1 ≠ pu := fresh_ne P3 hA1
      refine ⟨_, rfl, pg, rfl, ⟨_, SqL.of (s4 _ _ hp3)⟩, fun D hD => ?_⟩
      have P4 : Purse (upd (upd G3 A1 (.lst [.int (pp : Int)])) D (.lst [])) pu (M + 3) := (P3.same s4).same (Same.updf hD)
      refine lc_it (walk_list (K := K) (a := pg) (xs := numsV ps)) (fun j H5 => But pu (upd G3 A1 (.lst [.int (pp : Int)])) H5 ∧ (∃ M', Purse H5 pu M' ∧ M' ≤ M + 3 + j) ∧ ∃ ys : List Nat, H5 D = some (.lst (numsV ys)) ∧ ys.Sublist (ps.take j) ∧ pp ∉ ys)
        ⟨But.of (Same.updf hD), ⟨_, P4, Nat.le_refl _⟩, [], upd_same, List.nil_sublist _, fun h => nomatch h⟩ (fun j H5 _ hh => SqL.of (hh.1 _ _ npg (s4 _ _ hp3))) ?_ ?_
      · rintro j x H5 H6 hj ⟨b5, ⟨M', P5, lM'⟩, ys, hys, sy, ny⟩ ⟨rfl, hv⟩
        have lj : j < ps.length := by omega
        unfold numsV at hv
        rw [List.getElem?_map, List.getElem?_eq_getElem lj] at hv
        obtain rfl := Option.some.inj hv
        have tk : ps.take (j + 1) = ps.take j ++ [ps[j]] := by
          rw [List.take_succ, List.getElem?_eq_getElem lj]
          rfl
        have nD : D ≠ pu := fresh_ne (P3.same s4) hD
        have ly : ys.length ≤ 6 := by
          have := sy.length_le
          rw [List.length_take] at this
          omega
        have stay : ∀ {H7 : Hp} {M7 : Nat}, But pu H6 H7 → Purse H7 pu M7 → M7 ≤ M + 3 + (j + 1) → But pu (upd G3 A1 (.lst [.int (pp : Int)])) H7 ∧ (∃ M', Purse H7 pu M' ∧ M' ≤ M + 3 + (j + 1)) ∧ ∃ ys : List Nat, H7 D = some (.lst (numsV ys)) ∧ ys.Sublist (ps.take (j + 1)) ∧ pp ∉ ys := fun b7 P7 l7 =>
          ⟨b5.trans b7, ⟨_, P7, l7⟩, ys, b7 _ _ nD hys, by rw [tk]; exact sy.trans (List.sublist_append_left _ _), ny⟩
        refine ⟨rfl, _, rfl, _, rfl, ⟨rfl, _, rfl, ?_⟩⟩
        by_cases e : ps[j] = pp
        · rw [e]
          simp only [decide_true, Bool.not_true]
          exact iteF (iteF (stay (But.refl _ _) P5 (by omega)))
        · have e1 : (!decide (V.int (ps[j] : Int) = V.int (pp : Int))) = true := by
            simp
            omega
          rw [e1]
          obtain ⟨d1, d2, d3, d4, d5⟩ := dr 3 (by decide) (by decide) M' (by omega) _ P5
          refine iteT ⟨_, rfl, pu, 3, M', rfl, d1, d2, d3, d4, d5, fun r3 H7 r30 r31 b7 P7 => ?_⟩
          rw [mx 3 (by decide) (by decide)] at P7
          refine ⟨rfl, _, rfl, ?_⟩
          by_cases e3 : r3 = 0
          · subst e3
            refine iteT ⟨_, rfl, numsV ys, b7 _ _ nD hys, (by unfold numsV; rw [List.length_map]; omega), ?_⟩
            refine ⟨fun c o n e => ?_, ⟨_, P7.same' (upd_ne nD.symm), by omega⟩, ys ++ [ps[j]], ?_, ?_, ?_⟩
            · rw [upd_ne (ne_of_none e hD)]
              exact b7 _ _ n (b5 _ _ n e)
            · rw [upd_same, numsV_snoc]
            · rw [tk]
              exact sy.append (List.Sublist.refl _)
            · intro m
              rcases List.mem_append.mp m with m | m
              · exact ny m
              · exact e (List.mem_singleton.mp m).symm
          · rw [decide_eq_false (fun z => e3 (V.int.inj z))]
            exact iteF (stay b7 P7 (by omega))
      · rintro H5 ⟨b5, ⟨M', P5, lM'⟩, ys, hys, sy, ny⟩
        rw [lnp, List.take_length] at sy
        have ly := sy.length_le
        have nyd : ys.Nodup := (ap.sublist sy).imp fun h => Nat.ne_of_lt h
        have hA5 := b5 _ _ nA1 upd_same
        have mm : ∀ m : List Nat, (m.map fun x : Nat => (x : Int)).map V.int = numsV m := fun m => by
          rw [List.map_map]
          rfl
        refine ⟨A1, D, [.int (pp : Int)], numsV ys, rfl, rfl, hA5, hys, (by unfold numsV; rw [List.length_map]; simp; omega), fun A2 hA2 => ?_⟩
        refine ⟨A2, (pp :: ys).map fun x : Nat => (x : Int), rfl, SqL.of (by rw [mm, upd_same]; rfl), (by rw [List.length_map, List.length_cons]; omega), fun ns A3 hpm hso hA3 => ?_⟩
        obtain ⟨rr, rfl⟩ : ∃ rr : List Nat, ns = rr.map fun x : Nat => (x : Int) := by
          refine ⟨ns.map Int.toNat, ?_⟩
          rw [List.map_map]
          conv => lhs; rw [← List.map_id ns]
          refine List.map_congr_left fun x mx => ?_
          obtain ⟨y, _, rfl⟩ := List.mem_map.mp (hpm.mem_iff.mp mx)
          simp
        have prr : rr.Perm (pp :: ys) := by
          have := hpm.map Int.toNat
          rw [List.map_map, List.map_map] at this
          have id1 : (Int.toNat ∘ fun x : Nat => (x : Int)) = id := by
            funext x
            simp
          rw [id1, List.map_id, List.map_id] at this
          exact this
        have ndr : rr.Nodup := prr.nodup_iff.mpr (List.nodup_cons.mpr ⟨ny, nyd⟩)
        have asr : rr.Pairwise (· < ·) := by
          have h1 : rr.Pairwise (· ≤ ·) := (List.pairwise_map.mp hso).imp fun h => by omega
          exact (h1.and ndr).imp fun h => by omega
        rw [mm]
        have lrr : rr.length = ys.length + 1 := by
          have := prr.length_eq
          simpa using this
        have s6 := (Same.updf (o := .lst ([.int (pp : Int)] ++ numsV ys)) hA2).trans (Same.updf (o := .lst (numsV rr)) hA3)
        have hL5 : H5 L = some (.lst xs) := b5 _ _ nL (s4 _ _ hL3)
        have s7 := Same.updf (o := .lst ([.int (pp : Int)] ++ numsV ys)) hA2
        have nLA3 : A3 ≠ L := (ne_of_none (s7 _ _ hL5) hA3).symm
        have nA3 : A3 ≠ pu := fresh_ne (P5.same s7) hA3
        refine ⟨_, rfl, .inl ⟨rfl, _, SqL.of (s6 _ _ hL5)⟩, _, rfl, _, rfl, _, rfl, _, rfl, pu, M', rfl, P5.same s6, by omega, fun tw ws H8 b8 P8 tr8 ok8 sz8 => ⟨(by show 4 ≤ sizeLine; omega), fun T hT => ?_⟩⟩
        have s9 := Same.updf (o := .tup [.int (g' : Int), .int (pp : Int), .ref A3, .ref tw]) hT
        have hL8 : H8 L = some (.lst xs) := b8 _ _ nL (s6 _ _ hL5)
        have nT : T ≠ pu := fresh_ne P8 hT
        have nTL : T ≠ L := (ne_of_none hL8 hT).symm
        refine ⟨L, xs, .ref T, rfl, rfl, s9 _ _ hL8, by omega, ?_⟩
        have bAll : But pu G' H8 := ((((b1.trans b2).trans b3).trans (But.of s4)).trans b5).trans ((But.of s6).trans b8)
        have bG9 : But pu H H8 := bG.trans bAll
        refine ⟨fun c o n e => ?_, ⟨_, P8.same' ((upd_ne nL.symm).trans (upd_ne nT.symm)), by omega⟩, xs ++ [.ref T], ds ++ [⟨g', pp, rr, ws⟩], g', _, _, _, upd_same, by rw [List.length_append, List.length_append, lx]; rfl, by rw [List.length_append, ld]; rfl, fun j x d e1 e2 => ?_, fun d m => ?_, ?_, by omega, rfl⟩
        · rw [upd_ne (ne_of_none e hL)]
          exact s9 _ _ (bG9 _ _ n e)
        · rw [off2_upd]
          have sG9 : Same (off (off G' pu) L) (off (off (upd H8 T (.tup [.int (g' : Int), .int (pp : Int), .ref A3, .ref tw])) pu) L) := off_same L (but_off (bAll.trans (But.of s9)))
          by_cases hj : j < xs.length
          · rw [List.getElem?_append_left hj] at e1
            rw [List.getElem?_append_left (by omega)] at e2
            exact (dx j x d e1 e2).same sG9
          · rw [List.getElem?_append_right (by omega)] at e1
            rw [List.getElem?_append_right (by omega)] at e2
            cases hz : j - xs.length with
            | succ z =>
              rw [hz] at e1
              simp at e1
            | zero =>
              rw [hz] at e1
              rw [show j - ds.length = 0 by omega] at e2
              cases e1
              cases e2
              refine ⟨T, A3, tw, rfl, ?_, ?_, ?_⟩
              · rw [off_at nTL, off_at nT, upd_same]
              · rw [off_at nLA3, off_at nA3]
                exact s9 _ _ (b8 _ _ nA3 upd_same)
              · refine tr_tup (H := H8) (fun a ys e => ?_) ok8 tr8
                have na : a ≠ pu := fun z => by
                  obtain ⟨_, _, _, _, e', _⟩ := P8
                  rw [z, e'] at e
                  cases e
                have nb : a ≠ L := fun z => by
                  rw [z, hL8] at e
                  cases e
                rw [off_at nb, off_at na]
                exact s9 _ _ e
        · rcases List.mem_append.mp m with m | m
          · obtain ⟨o1, o2, o3⟩ := okx d m
            exact ⟨o1, by omega, o3⟩
          · obtain rfl := List.mem_singleton.mp m
            refine ⟨⟨by show 1 ≤ g'; omega, asr, prr.mem_iff.mpr List.mem_cons_self, by show rr.length ≤ 20; omega, ok8, by show szWs ws ≤ 100; omega⟩, Nat.le_refl _, fun x hx => ?_⟩
            rcases List.mem_cons.mp (prr.mem_iff.mp hx) with rfl | hx
            · exact mpp
            · exact sy.mem hx
        · exact List.pairwise_append.mpr ⟨ax, List.pairwise_singleton _ _, fun a m b n => by
            rw [List.mem_singleton.mp n]
            have := (okx a m).2.1
            show a.n < g'
            omega⟩
    · rintro σ G ⟨bG, ⟨M, PM, lM⟩, xs, ds, g, v5, v6, v7, hx, lx, ld, dx, okx, ax, g3, rfl⟩
      have hpg' : ∀ x ∈ pgs ds, x ∈ ps := fun x m => by
        obtain ⟨d, hd, hx⟩ := pgs_mem.mp m
        exact (okx d hd).2.2 x hx
      have lp : (pgs ds).length ≤ ps.length := List.Nodup.length_le_of_subset ((pgs_asc ds).imp fun h => Nat.ne_of_lt h) hpg'
      refine ⟨_, rfl, k L ds G bG (PM.mono (by omega)) hL ⟨xs, by rw [off_at nL]; exact hx, lx, fun j x d e1 e2 => (dx j x d e1 e2).same (off_le _ L)⟩ ⟨fun d m => (okx d m).1, ax, by omega, by omega⟩ ld (fun d m => (okx d m).2.2) fun d m => by
        have := (okx d m).2.1
        omega⟩
end
end K27
set_option Elab.async false
set_option linter.all false
set_option maxRecDepth 100000
set_option maxHeartbeats 4000000
/-! x in l, l a list of dictionaries from keys to ints, x such a one. -/
namespace PySem.SeqAt
open AutoSeq1 (wpAny_loadPart')
open MeetsSeq MeetsSeq2 MeetsSeq3 SeqRoads2
section
variable {prog : Program} {w : World}
theorem kim_loop (l : Addr) (items : Array Value) (n : Nat) (dd : Option Addr) (sl : Array (Option Value)) (x : Value) (e : Nat → Bool) (k : Nat) :
    ∀ i : Nat, items.size - i = k → MeetsIn prog w (Builtin.«list.__contains__.loop» ⟨[.ref l, x, rawInt i], []⟩)
      (fun A R s => s.heap.get? l = some { cls := .type "list", dict := dd, data := .seq items n, slots := sl } ∧ (∀ j (h : j < items.size), EqP prog w A.in1 s items[j] x (e j)) ∧ R (.ok (.ret (.bool (((List.range items.size).drop i).any e)))) s) := by
  induction k with
  | zero =>
    intro i hk A R s h
    obtain ⟨hp, g, d, tk, os⟩ := s; obtain ⟨hl, he, h⟩ := h
    wp_walk using wpAny_loadPart' hl
    have hi : items[((i : Nat) : Int).toNat]? = none := by simp; omega
    have hd : (List.range items.size).drop i = [] := by simp; omega
    rw [hd] at h
    rw [hi]
    wp_walk
    exact h
  | succ k ih =>
    intro i hk A R s h
    obtain ⟨hp, g, d, tk, os⟩ := s; obtain ⟨hl, he, h⟩ := h
    wp_walk using wpAny_loadPart' hl
    have hlt : i < items.size := by omega
    have hi : items[((i : Nat) : Int).toNat]? = some items[i] := by simp [hlt]
    have hd : (List.range items.size).drop i = i :: (List.range items.size).drop (i + 1) := by simp [List.drop_eq_getElem_cons, hlt]
    rw [hd, List.any_cons] at h
    rw [hi]
    refine wpAny_bind (he i hlt _ _ ?_)
    cases hb : e i with
    | true =>
      rw [hb] at h
      wp_walk
      exact h
    | false =>
      rw [hb] at h
      have hc : ((i : Int) + 1) = ((i + 1 : Nat) : Int) := by push_cast; rfl
      wp_walk
      rw [hc]
      exact ⟨plainId_quiet plain_contains_loop _, codeAny_builtin entry_contains_loop (by
        rw [Around.under_plainId plain_contains_loop _]
        exact ih (i + 1) (by omega) A R _ ⟨hl, he, by simpa using h⟩)⟩
theorem kim_contains (l : Addr) (items : Array Value) (n : Nat) (dd : Option Addr) (sl : Array (Option Value)) (x : Value) (e : Nat → Bool) :
    MeetsIn prog w (Builtin.«list.__contains__» ⟨[.ref l, x], []⟩)
      (fun A R s => s.heap.get? l = some { cls := .type "list", dict := dd, data := .seq items n, slots := sl } ∧ (∀ j (h : j < items.size), EqP prog w A.in1 s items[j] x (e j)) ∧ R (.ok (.ret (.bool ((List.range items.size).any e)))) s) := by
  intro A R s h
  obtain ⟨hp, g, d, tk, os⟩ := s; obtain ⟨hl, he, h⟩ := h
  wp_walk using wpAny_loadPart' hl
  exact ⟨plainId_quiet plain_contains_loop _, codeAny_builtin entry_contains_loop (by
    rw [Around.under_plainId plain_contains_loop _]
    exact kim_loop l items n dd sl x e _ 0 rfl A R _ ⟨hl, he, by simpa using h⟩)⟩
theorem kim_in {A : Around} {E : Value → Shared → Prop} {s : Shared} {l : Addr} {items : Array Value} {x : Value} {Q : Value → Shared → Prop} (e : Nat → Bool) (hl : s.heap.IsList l items) (he : ∀ j (h : j < items.size), EqP prog w A.in1 s items[j] x (e j))
    (h : Q (.bool ((List.range items.size).any e)) s) : wpAny (model prog w) A (compareOp .In x (.ref l)) Q E s := by
  obtain ⟨⟨cls, dd, data, sl⟩, ho, hc, n, hd⟩ := id hl
  simp only at hc hd
  subst hc hd
  have hT : s.TypeIs (.ref l) "list" := ⟨_, ho, rfl⟩
  show wpAny _ A (do return .bool (← contains (.ref l) x)) Q E s
  refine wpAny_bind (wpAny_contains_slot hT F.slot_list_contains (wpAny_mono (call_meetsIn F.slot_list_contains hT F.entry_list_contains (F.args_list_contains_2 _ _) (kim_contains l items n dd sl x e) ⟨ho, he, (show wants (fun v s' => ∃ b, v = .bool b ∧ Q (.bool b) s') E _ s from ⟨_, rfl, h⟩)⟩) (fun v s' hv => ?_) fun _ _ e => e))
  obtain ⟨b, rfl, hq⟩ := hv
  exact wpAny_truthy_bool (wpAny_pure hq)
theorem kim_notIn {A : Around} {E : Value → Shared → Prop} {s : Shared} {l : Addr} {items : Array Value} {x : Value} {Q : Value → Shared → Prop} (e : Nat → Bool) (hl : s.heap.IsList l items) (he : ∀ j (h : j < items.size), EqP prog w A.in1 s items[j] x (e j))
    (h : Q (.bool (!(List.range items.size).any e)) s) : wpAny (model prog w) A (compareOp .NotIn x (.ref l)) Q E s := by
  obtain ⟨⟨cls, dd, data, sl⟩, ho, hc, n, hd⟩ := id hl
  simp only at hc hd
  subst hc hd
  have hT : s.TypeIs (.ref l) "list" := ⟨_, ho, rfl⟩
  show wpAny _ A (do return .bool (!(← contains (.ref l) x))) Q E s
  refine wpAny_bind (wpAny_contains_slot hT F.slot_list_contains (wpAny_mono (call_meetsIn F.slot_list_contains hT F.entry_list_contains (F.args_list_contains_2 _ _) (kim_contains l items n dd sl x e) ⟨ho, he, (show wants (fun v s' => ∃ b, v = .bool b ∧ Q (.bool (!b)) s') E _ s from ⟨_, rfl, h⟩)⟩) (fun v s' hv => ?_) fun _ _ e => e))
  obtain ⟨b, rfl, hq⟩ := hv
  exact wpAny_truthy_bool (wpAny_pure hq)
end
end PySem.SeqAt
namespace L2
open PySem PySem.Spec PyProof.Rows
theorem kim_hits {A : Around} {s : Shared} {kvs : List (Key × V)} {vb : List (Key × Value)} (rb : KV kvs vb) {ks : List (Key × V)} {va : List (Key × Value)} (ra : KV ks va) {P : Program} {w : World} :
    (∀ p ∈ ks, ∃ i j : Int, p.2 = .int i ∧ valV kvs p.1 = some (.int j)) → PySem.W.KeqHitsP P w A s vb va (ks.all fun p => decide (valV kvs p.1 = some p.2)) := by
  unfold KV at ra
  induction ra with
  | nil => intro _; exact .nil
  | @cons p q ps qs h t ih =>
    intro hp
    obtain ⟨h1, h2⟩ := h
    obtain ⟨i, j, e1, e2⟩ := hp p List.mem_cons_self
    have rr : RelO (some (V.int j)) (valueAt vb p.1) := by rw [← e2]; exact rb.val p.1
    obtain ⟨y, hy, ry⟩ := rr.some_of
    obtain ⟨k, v⟩ := q
    have h1' : p.1 = k := h1
    rw [h1'] at hy
    rw [List.all_cons]
    have h2' : RelV p.2 v := h2
    rw [e1] at h2'
    obtain ⟨t1, rfl⟩ := h2'
    obtain ⟨t2, rfl⟩ := ry
    have eb : decide (valV kvs p.1 = some p.2) = (i == j) := by
      rw [e1, e2, Bool.eq_iff_iff]
      simp
      exact eq_comm
    rw [eb]
    exact .hit hy ((MeetsSeq.EqGives.int i j t1 t2).at A s).eqP (ih fun p' hm => hp p' (List.mem_cons_of_mem _ hm))
/-- e i: whether the i-th of xs is equal to the dictionary ls -/
def EqMs (H : Hp) (a : Addr) (ls : List (Key × V)) (xs : List V) (e : Nat → Bool) : Prop :=
  ∀ (i : Nat) (v : V), xs[i]? = some v → ∃ (c : Addr) (ks : List (Key × V)), v = .ref c ∧ c ≠ a ∧ H c = some (.dK ks) ∧ ks.length = ls.length ∧ (∀ p ∈ ks, ∃ i j : Int, p.2 = .int i ∧ valV ls p.1 = some (.int j)) ∧ e i = ks.all fun p => decide (valV ls p.1 = some p.2)
section
variable {X : Cx} {pins : List (Addr × Obj)} {σ : St} {H : Hp} {s : Shared}
theorem kim_eqs (I : Inv X pins σ H s) {A : Around} (hu : A.units < cLine) {a : Addr} {ls : List (Key × V)} {xs : List V} {its : List Value} (ea : H a = some (.dK ls)) (hx : Vals xs its) {e : Nat → Bool} (h : EqMs H a ls xs e) :
    ∀ j (hj : j < its.toArray.size), SeqAt.EqP X.prog X.w A s its.toArray[j] (.ref a) (e j) := by
  intro j hj
  have lj : j < its.length := by simpa using hj
  have lx : j < xs.length := by
    have := hx.length
    omega
  obtain ⟨c, ks, ev, ne, ec, len, hp, eb⟩ := h j _ (List.getElem?_eq_getElem lx)
  obtain ⟨u0, eu, rj⟩ := hx.get (List.getElem?_eq_getElem lx)
  rw [List.getElem?_eq_getElem lj] at eu
  cases eu
  rw [ev] at rj
  have rj' : its[j] = Value.ref c := rj
  have e0 : its.toArray[j] = Value.ref c := by simpa using rj'
  rw [e0]
  obtain ⟨_, ya, va, ra, da⟩ := (show ObjOk X.prog X.w H s.heap a (.dK ls) from I.hok a _ ea)
  obtain ⟨_, yc, vc, rc, dc⟩ := (show ObjOk X.prog X.w H s.heap c (.dK ks) from I.hok c _ ec)
  have hl : vc.length = va.length := by rw [← ra.length, ← rc.length]; exact len
  refine SeqAt.eqP_refs ne fun E Q q => PySem.W.rcP_dicts (knd := mixKind X.prog X.w) (r := e j) yc ya dc da hu (fun _ => by rw [eb]; exact kim_hits ra rc hp) E Q ?_
  rw [show (vc.length == va.length) = true by simpa using hl, Bool.true_and]
  exact q
def rInM (K : PySem.W.Frag) (neg : Bool) : R2 := fun x y H Q => ∃ (a L : Addr) (ls : List (Key × V)) (xs : List V) (e : Nat → Bool), x = .ref a ∧ y = .ref L ∧ H a = some (.dK ls) ∧ SqL K H L xs ∧ EqMs H a ls xs e ∧ Q (.bl (((List.range xs.length).any e) != neg)) H
theorem op_notInM (hu : X.A.units + 1 < cLine) : OpR X (compareOp .NotIn) (rInM X.K true) := by
  intro pins s σ H x y v u Q I rx ry h
  obtain ⟨a, L, ls, xs, e, rfl, rfl, ea, hs, he, q⟩ := h
  obtain rfl : v = Value.ref a := rx
  obtain rfl : u = Value.ref L := ry
  obtain ⟨its, rv, ho, hlen⟩ := I.list hs
  obtain ⟨⟨cls, dd, data, sls⟩, n, ho, hc, hdn, hdt⟩ := ho
  have hL : s.heap.IsList L its.toArray := ⟨_, ho, hc, n, hdt⟩
  refine SeqAt.kim_notIn e hL (kim_eqs I (show X.A.in1.units < cLine from hu) ea rv he) ⟨.bl _, H, I, rfl, ?_⟩
  have l := rv.length
  have es : its.toArray.size = xs.length := by simp [l]
  rw [es]
  have z : ∀ b : Bool, (b != true) = !b := by decide
  rw [z] at q
  exact q
theorem op_inM (hu : X.A.units + 1 < cLine) : OpR X (compareOp .In) (rInM X.K false) := by
  intro pins s σ H x y v u Q I rx ry h
  obtain ⟨a, L, ls, xs, e, rfl, rfl, ea, hs, he, q⟩ := h
  obtain rfl : v = Value.ref a := rx
  obtain rfl : u = Value.ref L := ry
  obtain ⟨its, rv, ho, hlen⟩ := I.list hs
  obtain ⟨⟨cls, dd, data, sls⟩, n, ho, hc, hdn, hdt⟩ := ho
  have hL : s.heap.IsList L its.toArray := ⟨_, ho, hc, n, hdt⟩
  refine SeqAt.kim_in e hL (kim_eqs I (show X.A.in1.units < cLine from hu) ea rv he) ⟨.bl _, H, I, rfl, ?_⟩
  have l := rv.length
  have es : its.toArray.size = xs.length := by simp [l]
  rw [es]
  have z : ∀ b : Bool, (b != false) = b := by decide
  rw [z] at q
  exact q
end
end L2
set_option Elab.async false
set_option linter.all false
set_option maxRecDepth 100000
set_option maxHeartbeats 4000000
/-! Comprehensions whose items are new objects: a relation for each turn. -/
namespace L2
open PySem PySem.Spec PyProof.Rows KB
theorem paired_snoc {α β : Type} {F : α → β → Prop} : ∀ {xs : List α} {ys : List β} {x : α} {y : β}, Paired F xs ys → F x y → Paired F (xs ++ [x]) (ys ++ [y])
  | _, _, _, _, .nil, h => .cons h .nil
  | _, _, _, _, .cons r t, h => .cons r (paired_snoc t h)
theorem paired_mono {α β : Type} {F G : α → β → Prop} : ∀ {xs : List α} {ys : List β}, (∀ x y, F x y → G x y) → Paired F xs ys → Paired G xs ys
  | _, _, _, .nil => .nil
  | _, _, k, .cons r t => .cons (k _ _ r) (paired_mono k t)
theorem off_upd_le {H : Hp} {D : Addr} {o : HO} : Same (off H D) (upd H D o) := fun b u e => by
  by_cases n : b = D
  · unfold off at e
    rw [if_pos n] at e
    cases e
  · rw [off_at n] at e
    rw [upd_ne n]
    exact e
/-- turn i gives, if c i, an item y with R i y; what stood stays -/
theorem lc_rel {J : It} {n : Nat} {G : Hp → Prop} {Y : Nat → Hp → V → Hp → Prop} (w : Walk J n G Y) {g : TG} {tt : TT} {te : TE} {vs : List Nat} {σ : St} {H1 : Hp} {D : Addr} {Qd : Hp → Prop} (c : Nat → Bool) (R : Nat → V → Hp → Prop)
    (hR : ∀ i y H H', Same H H' → R i y H → R i y H') (hn : n ≤ 100000) (hD : H1 D = none) (hG : ∀ H, Same H1 H → G H)
    (hs : ∀ i x H H' (Qy : V → Hp → Prop) (Qn : Hp → Prop), i < n → Same H1 H → (∃ acc, H D = some (.lst acc)) → Y i H x H' → (∀ y H4, c i = true → Same H H4 → R i y (off H4 D) → Qy y H4) → (∀ H4, c i = false → Same H H4 → Qn H4) →
      g x (wipe σ vs) H' fun σ2 H2 => wipe σ2 vs = wipe σ vs ∧ tt σ2 H2 fun b H3 => if b = true then te σ2 H3 Qy else Qn H3)
    (hd : ∀ H ys, Same H1 H → H D = some (.lst ys) → Paired (fun i y => R i y (off H D)) ((List.range n).filter c) ys → Qd H) :
    ∃ W : Nat → Nat → Hp → Prop, (∃ m, W 0 m (upd H1 D (.lst []))) ∧ ∀ i m H, W i m H →
      (J.stop i H ∧ Qd H) ∨ (J.go i H ∧ ∃ Nx : Hp → Prop, (∀ H', Nx H' → ∃ m', m' < m ∧ W (i + 1) m' H') ∧ ∀ x H', J.yld i H x H' → g x (wipe σ vs) H' fun σ2 H2 => wipe σ2 vs = wipe σ vs ∧ tt σ2 H2 fun b H3 =>
        if b = true then te σ2 H3 fun y H4 => ∃ acc, H4 D = some (.lst acc) ∧ acc.length < sizeLine ∧ Nx (upd H4 D (.lst (acc ++ [y]))) else Nx H3) := by
  refine lc_it w (fun i H => Same H1 H ∧ ∃ ys, H D = some (.lst ys) ∧ ys.length ≤ i ∧ Paired (fun i y => R i y (off H D)) ((List.range i).filter c) ys) ⟨Same.updf hD, [], upd_same, Nat.le_refl _, .nil⟩ (fun i H _ h => hG H h.1) (fun i x H H' hi hP hy => ?_) (fun H h => ?_)
  · obtain ⟨s1, ys, hD', ly, py⟩ := hP
    refine hs i x H H' _ _ hi s1 ⟨ys, hD'⟩ hy (fun y H4 e s4 r => ?_) (fun H4 e s4 => ?_)
    · have l2 : (100000 : Nat) < sizeLine := by decide
      refine ⟨ys, s4 _ _ hD', by omega, fun b o eb => ?_, ys ++ [y], upd_same, by rw [List.length_append]; exact Nat.succ_le_succ ly, ?_⟩
      · rw [upd_ne (ne_of_none eb hD)]
        exact s4 _ _ (s1 _ _ eb)
      · rw [List.range_succ, List.filter_append, List.filter_cons, if_pos e, List.filter_nil, off_upd]
        exact paired_snoc (paired_mono (fun i y h => hR i y _ _ (off_same D s4) h) py) r
    · refine ⟨s1.trans s4, ys, s4 _ _ hD', by omega, ?_⟩
      rw [List.range_succ, List.filter_append, List.filter_cons, if_neg (by rw [e]; exact Bool.false_ne_true), List.filter_nil, List.append_nil]
      exact paired_mono (fun i y h => hR i y _ _ (off_same D s4) h) py
  · obtain ⟨s1, ys, hD', ly, py⟩ := h
    exact hd H ys s1 hD' py
/-- pairs on the heap, taken for a dictionary's -/
theorem pairs_addr {K : PySem.W.Frag} {H : Hp} : ∀ {is : List Nat} {ys : List V} {f : Nat → Key × V}, Paired (fun i y => ∃ T, y = .ref T ∧ H T = some (.tup [kV (f i).1, (f i).2])) is ys →
    ∃ ps : List Addr, ys = ps.map V.ref ∧ Paired (fun p kv => SqT K H p [kV kv.1, kv.2]) ps (is.map f)
  | _, _, _, .nil => ⟨[], rfl, .nil⟩
  | _, _, _, .cons r t => by
    obtain ⟨T, rfl, h⟩ := r
    obtain ⟨ps, rfl, p⟩ := pairs_addr t
    exact ⟨T :: ps, rfl, .cons (SqT.of h) p⟩
end L2
namespace KB
open PySem PySem.Spec PyProof.Rows L2
def rDictP (K : PySem.W.Frag) : List V → Hp → VK → Prop := fun xs H Q => ∃ (a : Addr) (ps : List Addr) (kvs : List (Key × V)), xs = [.ref a] ∧ SqL K H a (ps.map V.ref) ∧ Paired (fun p kv => SqT K H p [kV kv.1, kv.2]) ps kvs ∧
    ∀ p, H p = none → Q (.ref p) (upd H p (.dK (mergeK [] kvs)))
theorem call_dictPR {X : Cx} (hc : X.calm = true) : CallR X (.type "dict") (rDictP X.K) := call_dictP hc
def rDictD : List V → Hp → VK → Prop := fun xs H Q => ∃ (a : Addr) (kvs : List (Key × V)), xs = [V.ref a] ∧ Rd H a (.dK kvs) ∧ ∀ p, H p = none → Q (.ref p) (upd H p (.dK kvs))
theorem call_dictDR {X : Cx} : CallR X (.type "dict") rDictD := call_dictD
end KB
namespace KB
open PySem PySem.Spec PyProof.Rows L2
def rSortDI : List V → Hp → VK → Prop := fun xs H Q => ∃ (a : Addr) (kvs : List (Key × V)) (ks : List Int), xs = [V.ref a] ∧ Rd H a (.dK kvs) ∧ kvs.map (·.1) = ks.map Sum.inl ∧ ks.length < 64 ∧
    ∀ (ys : List Int) (p : Addr), ys.Perm ks → ys.Pairwise (· ≤ ·) → H p = none → Q (.ref p) (upd H p (.lst (ys.map V.int)))
theorem cr_sortedDI {X : Cx} (hc : X.calm = true) : CallR X (.builtin "sorted") rSortDI := call_sortedDI hc
end KB
set_option Elab.async false
set_option linter.all false
set_option maxRecDepth 100000
set_option maxHeartbeats 4000000
/-! The greatest and the least right marks. -/
namespace K27
open PySem PySem.Spec PyProof.Rows L2 KB
/-- x is the greatest of the right marks that are at most m -/
structure Gr (ds : List Dd) (m x : Nat → Nat) : Prop where
  sh : Mk ds x
  rt : Rt ds x
  le : ∀ p ∈ pgs ds, x p ≤ m p
  gr : ∀ y, Mk ds y → Rt ds y → (∀ p ∈ pgs ds, y p ≤ m p) → ∀ p ∈ pgs ds, y p ≤ x p
structure Le (ds : List Dd) (m x : Nat → Nat) : Prop where
  sh : Mk ds x
  rt : Rt ds x
  le : ∀ p ∈ pgs ds, m p ≤ x p
  gr : ∀ y, Mk ds y → Rt ds y → (∀ p ∈ pgs ds, m p ≤ y p) → ∀ p ∈ pgs ds, x p ≤ y p
theorem Gr.uniq {ds : List Dd} {m x y : Nat → Nat} (h : Gr ds m x) (k : Gr ds m y) : ∀ p ∈ pgs ds, x p = y p := fun p hp => Nat.le_antisymm (k.gr x h.sh h.rt h.le p hp) (h.gr y k.sh k.rt k.le p hp)
theorem Le.uniq {ds : List Dd} {m x y : Nat → Nat} (h : Le ds m x) (k : Le ds m y) : ∀ p ∈ pgs ds, x p = y p := fun p hp => Nat.le_antisymm (h.gr y k.sh k.rt k.le p hp) (k.gr x h.sh h.rt h.le p hp)
def sumM (ps : List Nat) (x : Nat → Nat) : Nat := (ps.map x).sum
theorem sum_same {ps : List Nat} {x y : Nat → Nat} (h : ∀ p ∈ ps, x p = y p) : sumM ps x = sumM ps y := congrArg List.sum (List.map_congr_left h)
theorem sum_put : ∀ {ps : List Nat}, ps.Pairwise (· < ·) → ∀ {x : Nat → Nat} {p n : Nat}, p ∈ ps → sumM ps (putN x p n) + x p = sumM ps x + n
  | q :: ps, hp, x, p, n, h => by
    obtain ⟨h1, h2⟩ := List.pairwise_cons.mp hp
    unfold sumM
    rw [List.map_cons, List.map_cons, List.sum_cons, List.sum_cons]
    by_cases e : q = p
    · subst e
      have z : sumM ps (putN x q n) = sumM ps x := sum_same fun r hr => by
        unfold putN
        have := h1 r hr
        rw [if_neg (by omega)]
      unfold sumM at z
      rw [z]
      unfold putN
      rw [if_pos rfl]
      omega
    · have h' : p ∈ ps := by
        rcases List.mem_cons.mp h with h | h
        · exact absurd h.symm e
        · exact h
      have z := sum_put h2 (x := x) (n := n) h'
      unfold sumM at z
      have e2 : putN x p n q = x q := if_neg e
      rw [e2]
      omega
/-- ahead of the greatest -/
structure PreG (ds : List Dd) (m x : Nat → Nat) : Prop where
  sh : Mk ds x
  le : ∀ p ∈ pgs ds, x p ≤ m p
  gr : ∀ y, Mk ds y → Rt ds y → (∀ p ∈ pgs ds, y p ≤ m p) → ∀ p ∈ pgs ds, y p ≤ x p
theorem own_pg {ds : List Dd} (hG : Lg ds) {d : Dd} (hd : d ∈ ds) : d.p ∈ pgs ds := pgs_mem.mpr ⟨d, hd, (hG.ok d hd).own⟩
theorem read_pg {ds : List Dd} {d : Dd} (hd : d ∈ ds) {p : Nat} (hp : p ∈ d.r) : p ∈ pgs ds := pgs_mem.mpr ⟨d, hd, hp⟩
theorem PreG.step {ds : List Dd} (hG : Lg ds) {m x : Nat → Nat} (h : PreG ds m x) {d : Dd} {p : Nat} (hw : (d, p) ∈ wr ds x) {n : Nat} (hn : n ∈ nbp ds p) (lt : n < d.n) (mx : ∀ k ∈ nbp ds p, k < d.n → k ≤ n) : PreG ds m (putN x p n) ∧ sumM (pgs ds) (putN x p n) < sumM (pgs ds) x := by
  obtain ⟨hd, c, hp, q⟩ := wr_mem.mp hw
  have pp := read_pg hd hp
  refine ⟨⟨fun r hr => ?_, fun r hr => ?_, fun y hy ry ly r hr => ?_⟩, ?_⟩
  · unfold putN
    by_cases e : r = p
    · rw [if_pos e, e]
      exact hn
    · rw [if_neg e]
      exact h.sh r hr
  · unfold putN
    by_cases e : r = p
    · have := h.le p pp
      rw [if_pos e, e]
      omega
    · rw [if_neg e]
      exact h.le r hr
  · unfold putN
    by_cases e : r = p
    · rw [if_pos e, e]
      have h1 := h.gr y hy ry ly d.p (own_pg hG hd)
      exact mx _ (hy p pp) (rt_iff.mp ry d hd (by omega) p hp)
    · rw [if_neg e]
      exact h.gr y hy ry ly r hr
  · have := sum_put (pgs_asc ds) (x := x) (n := n) pp
    omega
theorem PreG.fin {ds : List Dd} {m x : Nat → Nat} (h : PreG ds m x) (r : wr ds x = []) : Gr ds m x := ⟨h.sh, r, h.le, h.gr⟩
theorem PreG.start {ds : List Dd} {m : Nat → Nat} (h : Mk ds m) : PreG ds m m := ⟨h, fun _ _ => Nat.le_refl _, fun _ _ _ l => l⟩
/-- ahead of the least -/
structure PreL (ds : List Dd) (m x : Nat → Nat) : Prop where
  sh : Mk ds x
  le : ∀ p ∈ pgs ds, m p ≤ x p
  gr : ∀ y, Mk ds y → Rt ds y → (∀ p ∈ pgs ds, m p ≤ y p) → ∀ p ∈ pgs ds, x p ≤ y p
theorem PreL.start {ds : List Dd} {m : Nat → Nat} (h : Mk ds m) : PreL ds m m := ⟨h, fun _ _ => Nat.le_refl _, fun _ _ _ l => l⟩
theorem PreL.fin {ds : List Dd} {m x : Nat → Nat} (h : PreL ds m x) (r : wr ds x = []) : Le ds m x := ⟨h.sh, r, h.le, h.gr⟩
/-- no page shows more -/
def mxN (ds : List Dd) : Nat := (ds.map (·.n)).sum
theorem nbp_le {ds : List Dd} {p k : Nat} (h : k ∈ nbp ds p) : k ≤ mxN ds := by
  unfold nbp at h
  rcases List.mem_cons.mp h with rfl | h
  · exact Nat.zero_le _
  · obtain ⟨d, hd, rfl⟩ := List.mem_map.mp h
    exact le_sum (List.mem_map.mpr ⟨d, (List.mem_filter.mp hd).1, rfl⟩)
theorem sum_le {ds : List Dd} {x : Nat → Nat} (h : Mk ds x) : sumM (pgs ds) x ≤ (pgs ds).length * mxN ds := by
  have gen : ∀ ps : List Nat, (∀ p ∈ ps, p ∈ pgs ds) → sumM ps x ≤ ps.length * mxN ds := by
    intro ps
    induction ps with
    | nil => intro _; simp [sumM]
    | cons p ps ih =>
      intro hp
      have h1 := ih fun q hq => hp q (List.mem_cons_of_mem _ hq)
      have h2 := nbp_le (h p (hp p List.mem_cons_self))
      unfold sumM at h1 ⊢
      rw [List.map_cons, List.sum_cons, List.length_cons, Nat.succ_mul]
      omega
  exact gen _ fun _ h => h
theorem PreL.step {ds : List Dd} (hG : Lg ds) {m x : Nat → Nat} (h : PreL ds m x) {d : Dd} {p : Nat} (hw : (d, p) ∈ wr ds x) : PreL ds m (putN x d.p d.n) ∧ sumM (pgs ds) x < sumM (pgs ds) (putN x d.p d.n) := by
  obtain ⟨hd, c, hp, q⟩ := wr_mem.mp hw
  have pp := read_pg hd hp
  have po := own_pg hG hd
  refine ⟨⟨fun r hr => ?_, fun r hr => ?_, fun y hy ry ly r hr => ?_⟩, ?_⟩
  · unfold putN
    by_cases e : r = d.p
    · rw [if_pos e, e]
      unfold nbp
      exact List.mem_cons_of_mem _ (List.mem_map.mpr ⟨d, List.mem_filter.mpr ⟨hd, decide_eq_true rfl⟩, rfl⟩)
    · rw [if_neg e]
      exact h.sh r hr
  · unfold putN
    by_cases e : r = d.p
    · have := h.le d.p po
      rw [if_pos e, e]
      omega
    · rw [if_neg e]
      exact h.le r hr
  · unfold putN
    by_cases e : r = d.p
    · rw [if_pos e, e]
      have h1 := h.gr y hy ry ly p pp
      rcases Nat.lt_or_ge (y d.p) d.n with z | z
      · have := rt_iff.mp ry d hd z p hp
        omega
      · exact z
    · rw [if_neg e]
      exact h.gr y hy ry ly r hr
  · have := sum_put (pgs_asc ds) (x := x) (n := d.n) po
    omega
theorem tk_notin {ds : List Dd} {i : Nat} (h : i < (pgs ds).length) : (pgs ds)[i] ∉ (pgs ds).take i := fun m => by
  obtain ⟨j, lj, e⟩ := List.getElem_of_mem m
  rw [List.getElem_take] at e
  rw [List.length_take] at lj
  have := List.pairwise_iff_getElem.mp (pgs_asc ds) j i (by omega) h (by omega)
  omega
theorem tk_snoc {ds : List Dd} {i : Nat} (h : i < (pgs ds).length) : (pgs ds).take (i + 1) = (pgs ds).take i ++ [(pgs ds)[i]] := by
  rw [List.take_succ, List.getElem?_eq_getElem h]
  rfl
end K27
set_option Elab.async false
set_option linter.all false
set_option maxRecDepth 100000
set_option maxHeartbeats 8000000
namespace K27
open PySem PySem.Spec PyProof.Rows L2 KB
/-- the marks behind the number n -/
def mkAt (ds : List Dd) (n : Int) (p : Nat) : Nat := ((ds.filter fun d => decide (d.p = p ∧ (d.n : Int) ≤ n)).map (·.n)).getLastD 0
theorem mkAt_snoc (ds : List Dd) (d : Dd) (n : Int) (p : Nat) : mkAt (ds ++ [d]) n p = if d.p = p ∧ (d.n : Int) ≤ n then d.n else mkAt ds n p := by
  unfold mkAt
  rw [List.filter_append, List.map_append]
  by_cases e : d.p = p ∧ (d.n : Int) ≤ n
  · rw [if_pos e, List.filter_cons, if_pos (decide_eq_true e)]
    simp
  · rw [if_neg e, List.filter_cons, if_neg (by simpa using e)]
    simp
theorem mkAt_mk (ds : List Dd) (n : Int) : Mk ds (mkAt ds n) := fun p _ => by
  unfold mkAt nbp
  rw [List.getLastD_eq_getLast?]
  cases h : ((ds.filter fun d => decide (d.p = p ∧ (d.n : Int) ≤ n)).map (·.n)).getLast? with
  | none => exact List.mem_cons_self
  | some x =>
    have m := List.mem_of_getLast? h
    obtain ⟨d, hd, rfl⟩ := List.mem_map.mp m
    obtain ⟨h1, h2⟩ := List.mem_filter.mp hd
    exact List.mem_cons_of_mem _ (List.mem_map.mpr ⟨d, List.mem_filter.mpr ⟨h1, decide_eq_true (of_decide_eq_true h2).1⟩, rfl⟩)
/-- marks of a log, in a new dictionary -/
def spMarksAt : Sp := fun vs H Q _ => ∃ (a : Addr) (n : Int) (ds : List Dd), vs = [.ref a, .int n] ∧ LogAt H a ds ∧ Lg ds ∧ ∀ q H', Same H H' → H q = none → MkAt H' q (pgs ds) (mkAt ds n) → Q (.ref q) H'
def spMarks : Sp := fun vs H Q _ => ∃ (a : Addr) (ds : List Dd), vs = [.ref a] ∧ LogAt H a ds ∧ Lg ds ∧ ∀ q H', Same H H' → H q = none → MkAt H' q (pgs ds) (mkAt ds 1000000000) → Q (.ref q) H'
theorem merge_dV : ∀ {qs ps : List Nat} {f : Nat → V}, (ps ++ qs).Nodup → mergeK (dV ps f) (dV qs f) = dV (ps ++ qs) f
  | [], ps, f, _ => by
    rw [List.append_nil]
    rfl
  | q :: qs, ps, f, h => by
    have nq : q ∉ ps := fun m => by
      have := List.nodup_append.mp h
      exact this.2.2 q m q List.mem_cons_self rfl
    have e : mergeK (dV ps f) (dV (q :: qs) f) = mergeK (putK (dV ps f) (ky q) (f q)) (dV qs f) := rfl
    have e2 : dV (ps ++ [q]) (put f q (f q)) = dV (ps ++ [q]) f := dV_congr fun p _ => by
      unfold put
      split
      · next z => rw [z]
      · rfl
    rw [e, dV_new nq, e2, merge_dV (by rw [List.append_assoc]; exact h), List.append_assoc]
    rfl
theorem merge_dV0 {qs : List Nat} {f : Nat → V} (h : qs.Nodup) : mergeK [] (dV qs f) = dV qs f := merge_dV (ps := []) h
theorem pgs_nd (ds : List Dd) : (pgs ds).Nodup := (pgs_asc ds).imp fun h => Nat.ne_of_lt h
theorem filter_true (n : Nat) : ((List.range n).filter fun _ => true) = List.range n := List.filter_eq_self.mpr fun _ _ => rfl
theorem range_map_get (l : List Nat) (f : Nat → V) : ((List.range l.length).map fun i => (ky (l.getD i 0), f (l.getD i 0))) = dV l f := by
  unfold dV
  refine List.ext_getElem (by simp) fun i h1 h2 => ?_
  have hi : i < l.length := by simpa using h1
  simp [hi]
section
variable {P : Program} {w : World} {K : PySem.W.Frag} {mg : Str → Option Value} {base : Heap}
abbrev s_marks_at : Stmt := top 57
abbrev N_marks_at : List Str := ["_law_log_here", "_law_number", "_law_found", "_law_deed", "_law_page"]
theorem sc_marks_at : FnScope N_marks_at ["_law_log_here", "_law_number"] (defScope s_marks_at) := ⟨rfl, rfl, rfl, by decide +kernel, rfl, by decide +kernel, by decide +kernel⟩
theorem ok_marks_at {f : Addr} {fd : FuncData} (F : FnP K "_law_marks_at" s_marks_at f fd) (Z : FreeS mg)
    {f_of_pages : Addr} {d_of_pages : FuncData} (g_of_pages : mg "_law_of_pages" = some (.ref f_of_pages)) (F_of_pages : FnP K "_law_of_pages" s_of_pages f_of_pages d_of_pages) (G_of_pages : FnOk P w K mg base CX0 1 f_of_pages d_of_pages ["_law_log_here"] spOfP) :
    FnOk P w K mg base CX0 2 f fd ["_law_log_here", "_law_number"] spMarksAt := by
  have b_of_pages : Binds K d_of_pages ["_law_log_here"] [] := F_of_pages.bindsN fun _ _ _ _ _ _ us hl => match us, hl with | [_], _ => rfl
  refine F.ok sc_marks_at (fun vs H Q E h => ?_) (fun cdv A outer s H vs Q E hr h => ?_)
  · obtain ⟨a, n, ds, rfl, _⟩ := h
    rfl
  · obtain ⟨a, n, ds, rfl, hL, hG, k⟩ := h
    obtain ⟨xs, ha, lx, hx⟩ := id hL
    have l60 := hG.len
    have pl := hG.pl
    have sl : (2000 : Nat) ≤ sizeLine := by decide
    have hu : (A.deeper (envOfC "_law_marks_at" (defScope s_marks_at) s.heap.objs.size f cdv)).units + 1 < cLine := by
      have := hr.units
      omega
    have nd := sc_marks_at.nd
    refine ⟨_, PSs.nox (pss_cons (ps_set (i := 2) nd rfl (Or.inl rfl) (pe_callTy (call_dictPR rfl) (by rfl) Z.tdict (by decide +kernel) (pa_cons (pe_lc (own := [("_law_page", 4)]) (g := gName 4) (tt := tYes) (te := tTup (tCons (tVar 4) (tCons (tC (.int 0)) (tNil)))) (by rfl) nd (pi_list (pe_call G_of_pages (hr.mono (by decide)) rfl g_of_pages F_of_pages.kp b_of_pages .nil pass0 (pa_cons (pv 0) (pa_nil))))
          (blkOk_by (own := [("_law_page", 4)]) (N := N_marks_at) (sc := defScope s_marks_at) (by decide +kernel)) (fun _ _ _ _ _ => pg_name (i := 4) nd rfl (Or.inl rfl)) (fun _ _ _ _ _ => pts_nil)
          (fun _ _ _ _ _ => pe_tup (pa_cons (pv 4) (pa_cons (pe_int) (pa_nil))))) (pa_nil))))
      (pss_cons (ps_for PassesOwn.never rfl (pi_list (pv 0)) (pg_name (i := 3) nd rfl (Or.inl rfl))
        (pss_one (ps_if (pt_cmpR op_le (pe_ix ix_tup (pv 3) (pe_int) (fun _ _ => rfl)) (pv 1) (nomark _)) (pss_one (ps_dput hu (pv 2) (pe_ix ix_tup (pv 3) (pe_int) (fun _ _ => rfl)) (pe_ix ix_tup (pv 3) (pe_int) (fun _ _ => rfl)) rfl)) (pss_nil))))
      (pss_one (ps_ret (pv 2))))), ?_⟩
    refine ⟨_, rfl, a, ds, rfl, hL, hG, fun pq G1 s1 npq hpq => ?_⟩
    refine ⟨pq, rfl, ⟨_, SqL.of hpq⟩, fun D hD => ?_⟩
    have ln : (numsV (pgs ds)).length = (pgs ds).length := List.length_map _
    refine lc_rel (walk_list (K := K) (a := pq) (xs := numsV (pgs ds))) (fun _ => true) (fun i y G => ∃ T, y = .ref T ∧ G T = some (.tup [kV (ky ((pgs ds).getD i 0)), .int 0])) (fun i y G G' s1 ⟨T, e, h⟩ => ⟨T, e, s1 _ _ h⟩) (by omega) hD (fun G s2 => SqL.of (s2 _ _ hpq)) ?_ ?_
    · rintro i x G G' Qy Qn hi s2 ⟨acc, hacc⟩ ⟨rfl, hv⟩ ky_ kn
      have li : i < (pgs ds).length := by omega
      unfold numsV at hv
      rw [List.getElem?_map, List.getElem?_eq_getElem li] at hv
      obtain rfl := Option.some.inj hv
      refine ⟨rfl, _, rfl, (by show 2 ≤ sizeLine; omega), fun T hT => ky_ _ _ rfl (Same.updf hT) ⟨T, rfl, ?_⟩⟩
      rw [off_at (ne_of_none hacc hT).symm, upd_same, List.getD_eq_getElem?_getD, List.getElem?_eq_getElem li]
      rfl
    · rintro G ys s2 hys py
      rw [ln, filter_true] at py
      obtain ⟨ts, rfl, pt⟩ := pairs_addr (K := K) (f := fun i => (ky ((pgs ds).getD i 0), V.int 0)) (paired_mono (fun i y ⟨T, e, h⟩ => ⟨T, e, off_le _ _ _ _ h⟩) py)
      rw [range_map_get (pgs ds) fun _ => V.int 0] at pt
      refine ⟨D, ts, _, rfl, SqL.of hys, pt, fun q hq => ?_⟩
      rw [merge_dV0 (pgs_nd ds)]
      have sH : Same H (upd G q (.dK (dV (pgs ds) fun _ => V.int 0))) := (s1.trans s2).trans (Same.updf hq)
      have nHq : H q = none := none_back (s1.trans s2) hq
      refine ⟨_, rfl, a, rfl, ⟨_, SqL.of (sH _ _ ha)⟩, ?_⟩
      refine for_it (walk_list (K := K) (a := a) (xs := xs)) (fun i σ G3 => Same H G3 ∧ ∃ v3, MkAt G3 q (pgs ds) (mkAt (ds.take i) n) ∧ σ = [some (.ref a), some (.int n), some (.ref q), v3, none]) ⟨sH, _, upd_same, rfl⟩ (fun i σ G3 _ hh => SqL.of (hh.1 _ _ ha)) ?_ ?_
      · rintro i x σ G3 G4 hi ⟨sG, v3, hm, rfl⟩ ⟨rfl, hv⟩
        have li : i < ds.length := by omega
        have hd : ds[i]? = some ds[i] := List.getElem?_eq_getElem li
        have md : ds[i] ∈ ds := List.getElem_mem li
        have etk : ds.take (i + 1) = ds.take i ++ [ds[i]] := by
          rw [List.take_succ, hd]
          rfl
        obtain ⟨t, rd, tw, rfl, ht, hr1, _⟩ := (hx i x _ hv hd).same sG
        refine ⟨_, rfl, t, _, 0, _, rfl, rfl, SqT.of ht, rfl, _, rfl, _, _, rfl, rfl, _, rfl, ?_⟩
        by_cases c : (ds[i].n : Int) ≤ n
        · rw [decide_eq_true c]
          refine iteT ⟨_, rfl, t, _, 0, _, rfl, rfl, SqT.of ht, rfl, _, rfl, _, rfl, t, _, 1, _, rfl, rfl, SqT.of ht, rfl, q, _, rfl, DPut.k (k := ky ds[i].p) hm (by rw [dV_len]; omega), ?_⟩
          rw [mV_put (own_pg hG md)]
          refine ⟨fun b o e => ?_, _, ?_, rfl⟩
          · rw [upd_ne (ne_of_none e nHq)]
            exact sG _ _ e
          · show _ = _
            rw [upd_same]
            refine congrArg (fun z => some (HO.dK z)) (dV_congr fun p hp => ?_)
            rw [etk, mkAt_snoc]
            unfold putN
            by_cases e : p = ds[i].p
            · rw [if_pos e, if_pos ⟨e.symm, c⟩]
            · rw [if_neg e, if_neg fun h => e h.1.symm]
        · rw [decide_eq_false c]
          refine iteF ⟨sG, _, ?_, rfl⟩
          rw [etk]
          unfold MkAt at hm ⊢
          rw [hm]
          refine congrArg (fun z => some (HO.dK z)) (dV_congr fun p hp => ?_)
          rw [mkAt_snoc, if_neg fun h => c h.2]
      · rintro σ G3 ⟨sG, v3, hm, rfl⟩
        rw [lx, List.take_length] at hm
        exact ⟨_, rfl, k q G3 sG nHq hm⟩
abbrev s_marks : Stmt := top 58
abbrev N_marks : List Str := ["_law_log_here"]
theorem sc_marks : FnScope N_marks ["_law_log_here"] (defScope s_marks) := ⟨rfl, rfl, rfl, by decide +kernel, rfl, by decide +kernel, by decide +kernel⟩
theorem ok_marks {f : Addr} {fd : FuncData} (F : FnP K "_law_marks" s_marks f fd) (Z : FreeS mg)
    {f_marks_at : Addr} {d_marks_at : FuncData} (g_marks_at : mg "_law_marks_at" = some (.ref f_marks_at)) (F_marks_at : FnP K "_law_marks_at" s_marks_at f_marks_at d_marks_at) (G_marks_at : FnOk P w K mg base CX0 2 f_marks_at d_marks_at ["_law_log_here", "_law_number"] spMarksAt) :
    FnOk P w K mg base CX0 3 f fd ["_law_log_here"] spMarks := by
  have b_marks_at : Binds K d_marks_at ["_law_log_here", "_law_number"] [] := F_marks_at.bindsN fun _ _ _ _ _ _ us hl => match us, hl with | [_, _], _ => rfl
  refine F.ok sc_marks (fun vs H Q E h => ?_) (fun cdv A outer s H vs Q E hr h => ?_)
  · obtain ⟨a, ds, rfl, _⟩ := h
    rfl
  · obtain ⟨a, ds, rfl, hL, hG, k⟩ := h
    have nd := sc_marks.nd
    refine ⟨_, PSs.nox (pss_one (ps_ret (pe_call G_marks_at (hr.mono (by decide)) rfl g_marks_at F_marks_at.kp b_marks_at .nil pass0 (pa_cons (pv 0) (pa_cons (pe_op op_pow (pe_int) (pe_int)) (pa_nil)))))), ?_⟩
    exact ⟨_, rfl, _, _, rfl, rfl, ⟨by decide, by decide, by decide⟩, a, _, ds, rfl, hL, hG, fun q H' s nq h => k q H' s nq h⟩
end
end K27
set_option Elab.async false
set_option linter.all false
set_option maxRecDepth 100000
set_option maxHeartbeats 8000000
namespace K27
open PySem PySem.Spec PyProof.Rows L2 KB
theorem paired_map {α β γ : Type} {F : γ → β → Prop} {f : α → γ} : ∀ {xs : List α} {ys : List β}, Paired (fun x y => F (f x) y) xs ys → Paired F (xs.map f) ys
  | _, _, .nil => .nil
  | _, _, .cons r t => .cons r (paired_map t)
theorem sel_get (l : List Nat) (c : Nat → Bool) : (((List.range l.length).filter fun i => c (l.getD i 0)).map fun i => l.getD i 0) = l.filter c := by
  have e : l = (List.range l.length).map fun i => l.getD i 0 := by
    refine List.ext_getElem (by simp) fun i h1 h2 => ?_
    simp [h1]
  conv => rhs; rw [e, List.filter_map]
  rfl
theorem paired_sel {l : List Nat} {c : Nat → Bool} {R : Nat → V → Prop} {ys : List V} (h : Paired (fun i y => R (l.getD i 0) y) ((List.range l.length).filter fun i => c (l.getD i 0)) ys) : Paired R (l.filter c) ys := by
  have := paired_map h
  rw [sel_get] at this
  exact this
theorem paired_app {α β : Type} {F : α → β → Prop} : ∀ {xs zs : List α} {ys us : List β}, Paired F xs ys → Paired F zs us → Paired F (xs ++ zs) (ys ++ us)
  | _, _, _, _, .nil, h => h
  | _, _, _, _, .cons r t, h => .cons r (paired_app t h)
theorem paired_len {α β : Type} {F : α → β → Prop} : ∀ {xs : List α} {ys : List β}, Paired F xs ys → xs.length = ys.length
  | _, _, .nil => rfl
  | _, _, .cons _ t => congrArg (· + 1) (paired_len t)
/-- y is the pair of a number and a page -/
def TwoAt (H : Hp) (w : Dd × Nat) (y : V) : Prop := ∃ T, y = .ref T ∧ H T = some (.tup [.int (w.1.n : Int), .int (w.2 : Int)])
theorem TwoAt.same {H H' : Hp} (k : Same H H') {w : Dd × Nat} {y : V} : TwoAt H w y → TwoAt H' w y := fun ⟨T, e, h⟩ => ⟨T, e, k _ _ h⟩
def spTooNew : Sp := fun vs H Q _ => ∃ (a b : Addr) (ds : List Dd) (ks : List Nat) (m : Nat → Nat), vs = [.ref a, .ref b] ∧ LogAt H a ds ∧ Lg ds ∧ MkAt H b ks m ∧ ks.Perm (pgs ds) ∧ ∀ q ys H', Same H H' → H q = none → H' q = some (.lst ys) → Paired (TwoAt H') (wr ds m) ys → Q (.ref q) H'
section
variable {P : Program} {w : World} {K : PySem.W.Frag} {mg : Str → Option Value} {base : Heap}
abbrev s_too_new : Stmt := top 59
abbrev N_too_new : List Str := ["_law_log_here", "_law_marks_here", "_law_found", "_law_number", "_law_page", "_law_reads", "_law_words_here", "_law_late"]
theorem sc_too_new : FnScope N_too_new ["_law_log_here", "_law_marks_here"] (defScope s_too_new) := ⟨rfl, rfl, rfl, by decide +kernel, rfl, by decide +kernel, by decide +kernel⟩
theorem ok_too_new {f : Addr} {fd : FuncData} (F : FnP K "_law_too_new" s_too_new f fd) (Z : FreeS mg) :
    FnOk P w K mg base CX0 1 f fd ["_law_log_here", "_law_marks_here"] spTooNew := by
  refine F.ok sc_too_new (fun vs H Q E h => ?_) (fun cdv A outer s H vs Q E hr h => ?_)
  · obtain ⟨a, b, ds, ks, m, rfl, _⟩ := h
    rfl
  · obtain ⟨a, b, ds, ks, m, rfl, hL, hG, hb, pk, k⟩ := h
    obtain ⟨xs, ha, lx, hx⟩ := id hL
    have l60 := hG.len
    have sl : (3000 : Nat) ≤ sizeLine := by decide
    have hu : (A.deeper (envOfC "_law_too_new" (defScope s_too_new) s.heap.objs.size f cdv)).units + 1 < cLine := by
      have := hr.units
      omega
    have nd := sc_too_new.nd
    refine ⟨_, PSs.nox (pss_cons (ps_set (i := 2) nd rfl (Or.inl rfl) (pe_lst (pa_nil)))
      (pss_cons (ps_for PassesOwn.never rfl (pi_list (pv 0)) (pg_tup rfl (pgs_cons (pg_name (i := 3) nd rfl (Or.inr rfl)) (pgs_cons (pg_name (i := 4) nd rfl (Or.inl rfl)) (pgs_cons (pg_name (i := 5) nd rfl (Or.inl rfl)) (pgs_cons (pg_name (i := 6) nd rfl (Or.inl rfl)) (pgs_nil))))))
        (pss_one (ps_if (pt_cmpR op_lt (pe_dget hu (pv 1) (pv 4) (fun _ _ => rfl)) (pv 3) (nomark _)) (pss_one (ps_set (i := 2) nd rfl (Or.inl rfl) (pe_op op_cat (pv 2) (pe_lc (own := [("_law_late", 7)]) (g := gName 7) (tt := tTest (tOp (rI0 fun i j => .bl (decide (j ≤ i))) (tDGet (tVar 1) (tVar 7)) (tVar 3))) (te := tTup (tCons (tVar 3) (tCons (tVar 7) (tNil)))) (by rfl) nd (pi_list (pv 5))
          (blkOk_by (own := [("_law_late", 7)]) (N := N_too_new) (sc := defScope s_too_new) (by decide +kernel)) (fun _ _ _ _ _ => pg_name (i := 7) nd rfl (Or.inl rfl)) (fun _ _ _ _ _ => pts_one (pt_cmpR op_ge (pe_dget hu (pv 1) (pv 7) (fun _ _ => rfl)) (pv 3) (nomark _)))
          (fun _ _ _ _ _ => pe_tup (pa_cons (pv 3) (pa_cons (pv 7) (pa_nil)))))))) (pss_nil))))
      (pss_one (ps_ret (pv 2))))), ?_⟩
    have dget : ∀ {G : Hp} {p : Nat}, Same H G → p ∈ pgs ds → DGet G b (.int (p : Int)) (some (.int (m p : Int))) := fun {G p} s1 hp => by
      have := DGet.k (k := ky p) (s1 _ _ hb)
      rw [dV_val (pk.mem_iff.mpr hp)] at this
      exact this
    have r20 : ∀ d ∈ ds, d.r.length ≤ 20 := fun d hd => (hG.ok d hd).len
    refine ⟨Nat.zero_le _, fun q hq => ?_⟩
    have s1 : Same H (upd H q (.lst [])) := Same.updf hq
    refine ⟨_, rfl, a, rfl, ⟨_, SqL.of (s1 _ _ ha)⟩, ?_⟩
    refine for_it (walk_list (K := K) (a := a) (xs := xs)) (fun i σ G => Same H G ∧ ∃ L ys v3 v4 v5 v6, G L = some (.lst ys) ∧ Paired (TwoAt G) (wr (ds.take i) m) ys ∧ H L = none ∧ σ = [some (.ref a), some (.ref b), some (.ref L), v3, v4, v5, v6, none]) ⟨s1, q, [], _, _, _, _, upd_same, .nil, hq, rfl⟩ (fun i σ G _ hh => SqL.of (hh.1 _ _ ha)) ?_ ?_
    · rintro i x σ G G' hi ⟨sG, L, ys, v3, v4, v5, v6, hys, py, nL, rfl⟩ ⟨rfl, hv⟩
      have li : i < ds.length := by omega
      have hd : ds[i]? = some ds[i] := List.getElem?_eq_getElem li
      have md : ds[i] ∈ ds := List.getElem_mem li
      obtain ⟨t, rd, tw, rfl, ht, hr1, _⟩ := (hx i x _ hv hd).same sG
      have ok := hG.ok _ md
      have mp : ∀ p ∈ ds[i].r, p ∈ pgs ds := fun p hp => pgs_mem.mpr ⟨ds[i], md, hp⟩
      refine ⟨t, [_, _, _, _], rfl, .inl (.inl ht), rfl, _, [_, _, _], rfl, _, [_, _], rfl, _, [_], rfl, _, [], rfl, rfl, ?_⟩
      refine ⟨_, rfl, _, rfl, b, _, rfl, dget sG (mp _ ok.own), _, rfl, _, _, rfl, rfl, _, rfl, ?_⟩
      rw [wr_take hd]
      by_cases c : m ds[i].p < ds[i].n
      · rw [decide_eq_true (show (m ds[i].p : Int) < (ds[i].n : Int) by omega), if_pos c]
        refine iteT ⟨_, rfl, _, rfl, rd, rfl, ⟨_, SqL.of hr1⟩, fun D hD => ?_⟩
        have l20 := r20 _ md
        have ln : (numsV ds[i].r).length = ds[i].r.length := List.length_map _
        have wl := wr_len (ds := ds.take i) (fun e he => r20 e (List.mem_of_mem_take he)) m
        rw [List.length_take] at wl
        have ly := paired_len py
        refine lc_rel (walk_list (K := K) (a := rd) (xs := numsV ds[i].r)) (fun j => decide (ds[i].n ≤ m (ds[i].r.getD j 0))) (fun j y G => TwoAt G (ds[i], ds[i].r.getD j 0) y) (fun j y G G' s1 h => h.same s1) (by omega) hD (fun G s2 => SqL.of (s2 _ _ hr1)) ?_ ?_
        · rintro j x G3 G4 Qy Qn hj s3 ⟨acc, hacc⟩ ⟨rfl, hv⟩ ky_ kn
          have lj : j < ds[i].r.length := by omega
          unfold numsV at hv
          rw [List.getElem?_map, List.getElem?_eq_getElem lj] at hv
          obtain rfl := Option.some.inj hv
          have eg : ds[i].r.getD j 0 = ds[i].r[j] := by simp [lj]
          rw [eg] at ky_ kn
          refine ⟨rfl, _, rfl, _, rfl, b, _, rfl, dget (sG.trans s3) (mp _ (List.getElem_mem _)), _, rfl, _, _, rfl, rfl, _, rfl, ?_⟩
          by_cases z : ds[i].n ≤ m ds[i].r[j]
          · rw [decide_eq_true (show (ds[i].n : Int) ≤ (m ds[i].r[j] : Int) by omega)]
            refine iteT ⟨_, rfl, _, rfl, (by show 2 ≤ sizeLine; omega), fun T hT => ky_ _ _ (decide_eq_true z) (Same.updf hT) ⟨T, rfl, ?_⟩⟩
            rw [off_at (ne_of_none hacc hT).symm, upd_same]
          · rw [decide_eq_false (show ¬ (ds[i].n : Int) ≤ (m ds[i].r[j] : Int) by omega)]
            exact iteF (kn _ (decide_eq_false z) (Same.refl _))
        · rintro G3 zs s3 hzs pz
          rw [ln] at pz
          have pz2 := paired_sel (l := ds[i].r) (c := fun p => decide (ds[i].n ≤ m p)) (R := fun p y => TwoAt (off G3 D) (ds[i], p) y) pz
          have lz := paired_len pz2
          have lf := List.length_filter_le (fun p => decide (ds[i].n ≤ m p)) ds[i].r
          refine ⟨L, D, ys, zs, rfl, rfl, s3 _ _ hys, hzs, by omega, fun L2 hL2 => ?_⟩
          have s4 := Same.updf (o := .lst (ys ++ zs)) hL2
          refine ⟨(sG.trans s3).trans s4, L2, _, _, _, _, _, upd_same, paired_app (paired_mono (fun w y h => h.same (s3.trans s4)) py) ?_, none_back (sG.trans s3) hL2, rfl⟩
          unfold wr1
          rw [List.take_length]
          exact paired_map (paired_mono (fun p y h => h.same ((off_le _ _).trans s4)) pz2)
      · rw [decide_eq_false (show ¬ (m ds[i].p : Int) < (ds[i].n : Int) by omega), if_neg c, List.append_nil]
        exact iteF ⟨sG, L, ys, _, _, _, _, hys, py, nL, rfl⟩
    · rintro σ G ⟨sG, L, ys, v3, v4, v5, v6, hys, py, nL, rfl⟩
      rw [lx, List.take_length] at py
      exact ⟨_, rfl, k L ys G sG nL hys py⟩
end
end K27
set_option Elab.async false
set_option linter.all false
set_option maxRecDepth 100000
set_option maxHeartbeats 8000000
namespace K27
open PySem PySem.Spec PyProof.Rows L2 KB
theorem sel_own (ds : List Dd) (p : Nat) : ((List.range ds.length).filterMap fun i => (ds[i]?).bind fun d => if d.p = p then some (V.int (d.n : Int)) else none) = numsV ((ds.filter fun d => decide (d.p = p)).map (·.n)) := by
  induction ds with
  | nil => rfl
  | cons x r ih =>
    rw [List.length_cons, List.range_succ_eq_map, List.filterMap_cons, List.filterMap_map, List.filter_cons]
    have e : ((fun i => ((x :: r)[i]?).bind fun d => if d.p = p then some (V.int (d.n : Int)) else none) ∘ Nat.succ) = fun i => (r[i]?).bind fun d => if d.p = p then some (V.int (d.n : Int)) else none := rfl
    rw [e, ih]
    by_cases h : x.p = p
    · simp [h, numsV]
    · simp [h, numsV]
/-- drawn marks -/
def spDrawnM : Sp := fun vs H Q _ => ∃ (pu a : Addr) (ds : List Dd) (N : Nat), vs = [.ref pu, .ref a] ∧ Purse H pu N ∧ N ≤ 2 ^ 38 ∧ LogAt (off H pu) a ds ∧ Lg ds ∧ ∀ q m H', But pu H H' → Purse H' pu (N + 30) → H q = none → MkAt H' q (pgs ds) m → Mk ds m → Q (.ref q) H'
section
variable {P : Program} {w : World} {K : PySem.W.Frag} {mg : Str → Option Value} {base : Heap}
abbrev s_drawn_marks : Stmt := top 60
abbrev N_drawn_marks : List Str := ["_law_purse_here", "_law_log_here", "_law_found", "_law_page", "_law_deed"]
theorem sc_drawn_marks : FnScope N_drawn_marks ["_law_purse_here", "_law_log_here"] (defScope s_drawn_marks) := ⟨rfl, rfl, rfl, by decide +kernel, rfl, by decide +kernel, by decide +kernel⟩
theorem ok_drawn_marks {f : Addr} {fd : FuncData} (F : FnP K "_law_drawn_marks" s_drawn_marks f fd) (Z : FreeS mg)
    {f_of_pages : Addr} {d_of_pages : FuncData} (g_of_pages : mg "_law_of_pages" = some (.ref f_of_pages)) (F_of_pages : FnP K "_law_of_pages" s_of_pages f_of_pages d_of_pages) (G_of_pages : FnOk P w K mg base CX0 1 f_of_pages d_of_pages ["_law_log_here"] spOfP)
    {f_one_of : Addr} {d_one_of : FuncData} (g_one_of : mg "_law_one_of" = some (.ref f_one_of)) (F_one_of : FnP K "_law_one_of" s_one_of f_one_of d_one_of) (G_one_of : FnOk P w K mg base CX0 3 f_one_of d_one_of ["_law_purse_here", "_law_some"] (spOne K)) :
    FnOk P w K mg base CX0 4 f fd ["_law_purse_here", "_law_log_here"] spDrawnM := by
  have b_of_pages : Binds K d_of_pages ["_law_log_here"] [] := F_of_pages.bindsN fun _ _ _ _ _ _ us hl => match us, hl with | [_], _ => rfl
  have b_one_of : Binds K d_one_of ["_law_purse_here", "_law_some"] [] := F_one_of.bindsN fun _ _ _ _ _ _ us hl => match us, hl with | [_, _], _ => rfl
  refine F.ok sc_drawn_marks (fun vs H Q E h => ?_) (fun cdv A outer s H vs Q E hr h => ?_)
  · obtain ⟨pu, a, ds, N, rfl, _⟩ := h
    rfl
  · obtain ⟨pu, a, ds, N, rfl, hP, hN, hL, hG, k⟩ := h
    obtain ⟨xs, ha', lx, hx⟩ := id hL
    have na : a ≠ pu := fun z => by
      unfold off at ha'
      rw [if_pos z] at ha'
      cases ha'
    have ha : H a = some (.lst xs) := off_le _ _ _ _ ha'
    have l60 := hG.len
    have pl := hG.pl
    have sl : (2000 : Nat) ≤ sizeLine := by decide
    have hu : (A.deeper (envOfC "_law_drawn_marks" (defScope s_drawn_marks) s.heap.objs.size f cdv)).units + 1 < cLine := by
      have := hr.units
      omega
    have nd := sc_drawn_marks.nd
    refine ⟨_, PSs.nox (pss_cons (ps_set (i := 2) nd rfl (Or.inl rfl) (pe_dnewK))
      (pss_cons (ps_for PassesOwn.never rfl (pi_list (pe_call G_of_pages (hr.mono (by decide)) rfl g_of_pages F_of_pages.kp b_of_pages .nil pass0 (pa_cons (pv 1) (pa_nil)))) (pg_name (i := 3) nd rfl (Or.inr rfl))
        (pss_one (ps_dput hu (pv 2) (pv 3) (pe_call G_one_of (hr.mono (by decide)) rfl g_one_of F_one_of.kp b_one_of .nil pass0 (pa_cons (pv 0) (pa_cons (pe_op op_cat (pe_lst (pa_cons (pe_int) (pa_nil))) (pe_lc (own := [("_law_deed", 4)]) (g := gName 4) (tt := tTest (tOp rEq (tOp (rIxT K) (tVar 4) (tC (.int 1))) (tVar 3))) (te := tOp (rIxT K) (tVar 4) (tC (.int 0))) (by rfl) nd (pi_list (pv 1))
          (blkOk_by (own := [("_law_deed", 4)]) (N := N_drawn_marks) (sc := defScope s_drawn_marks) (by decide +kernel)) (fun _ _ _ _ _ => pg_name (i := 4) nd rfl (Or.inl rfl)) (fun _ _ _ _ _ => pts_one (pt_cmpR op_eq (pe_ix ix_tup (pv 4) (pe_int) (fun _ _ => rfl)) (pv 3) (nomark _)))
          (fun _ _ _ _ _ => pe_ix ix_tup (pv 4) (pe_int) (fun _ _ => rfl)))) (pa_nil)))) rfl)))
      (pss_one (ps_ret (pv 2))))), ?_⟩
    refine fun q hq => ?_
    have nq : q ≠ pu := fresh_ne hP hq
    have s1 := Same.updf (o := .dK []) hq
    refine ⟨_, rfl, a, ds, rfl, (hL.same (off_le _ _)).same s1, hG, fun pq G1 s2 npq hpq => ⟨pq, rfl, ⟨_, SqL.of hpq⟩, ?_⟩⟩
    have s12 := s1.trans s2
    have P1 := hP.same s12
    have npu : pq ≠ pu := fresh_ne (hP.same s1) npq
    have nqp : pq ≠ q := (ne_of_none (upd_same (H := H) (a := q)) npq).symm
    have ln : (numsV (pgs ds)).length = (pgs ds).length := List.length_map _
    refine for_it (walk_list (K := K) (a := pq) (xs := numsV (pgs ds))) (fun i σ G => But pu H G ∧ (∃ M, Purse G pu M ∧ M ≤ N + i) ∧ G pq = some (.lst (numsV (pgs ds))) ∧ ∃ m v3, G q = some (.dK (mV ((pgs ds).take i) m)) ∧ (∀ p ∈ (pgs ds).take i, m p ∈ nbp ds p) ∧ σ = [some (.ref pu), some (.ref a), some (.ref q), v3, none])
      ⟨But.of s12, ⟨_, P1, Nat.le_refl _⟩, hpq, fun _ => 0, _, s2 _ _ upd_same, (fun p m => by simp at m), rfl⟩ (fun i σ G _ hh => SqL.of hh.2.2.1) ?_ ?_
    · rintro i x σ G G' hi ⟨bG, ⟨M, PM, lM⟩, hp, m, v3, hm, mk, rfl⟩ ⟨rfl, hv⟩
      have li : i < (pgs ds).length := by omega
      unfold numsV at hv
      rw [List.getElem?_map, List.getElem?_eq_getElem li] at hv
      obtain rfl := Option.some.inj hv
      have haG := bG _ _ na ha
      have hLG : LogAt G' a ds := (hL.same (but_off bG)).same (off_le _ _)
      obtain ⟨xs2, ha2, lx2, hx2⟩ := id hLG
      rw [haG] at ha2
      cases ha2
      refine ⟨_, rfl, (by show 1 ≤ sizeLine; omega), fun A1 hA1 => ?_⟩
      have s3 := Same.updf (o := .lst [V.int 0]) hA1
      refine ⟨_, rfl, a, rfl, ⟨_, SqL.of (s3 _ _ haG)⟩, fun D hD => ?_⟩
      have hxs : ∀ (i : Nat) (x : V) (d : Dd), xs[i]? = some x → ds[i]? = some d → DeedAt G' x d := hx2
      refine lc_sel (n := xs.length) (walk_list (K := K) (a := a) (xs := xs)) (fun j => (ds[j]?).bind fun d => if d.p = (pgs ds)[i] then some (V.int (d.n : Int)) else none) (by omega) hD (fun H2 s4 => SqL.of (s4 _ _ (s3 _ _ haG))) ?_ ?_
      · rintro j y H5 H6 Qy Qn hj s5 ⟨rfl, hy⟩ ky_ kn
        have lj : j < ds.length := by omega
        have hd : ds[j]? = some ds[j] := List.getElem?_eq_getElem lj
        obtain ⟨t, rd, tw, rfl, ht, hr1, _⟩ := (hxs j _ _ hy hd).same (s3.trans s5)
        refine ⟨rfl, _, rfl, t, _, 1, _, rfl, rfl, SqT.of ht, rfl, _, rfl, rfl, _, rfl, ?_⟩
        rw [hd, Option.bind_some] at ky_ kn
        by_cases c : ds[j].p = (pgs ds)[i]
        · rw [if_pos c] at ky_
          rw [decide_eq_true (show V.int (ds[j].p : Int) = V.int ((pgs ds)[i] : Int) by rw [c])]
          exact iteT ⟨_, rfl, t, _, 0, _, rfl, rfl, SqT.of ht, rfl, ky_ _ _ (Same.refl _) rfl⟩
        · rw [if_neg c] at kn
          rw [decide_eq_false (show ¬ V.int (ds[j].p : Int) = V.int ((pgs ds)[i] : Int) from fun z => c (by have := V.int.inj z; omega))]
          exact iteF (kn _ (Same.refl _) rfl)
      · intro H5 s5 hR
        rw [lx, sel_own] at hR
        have lnb := nbp_len ds (pgs ds)[i]
        unfold nbp at lnb
        rw [List.length_cons] at lnb
        have lz : (numsV ((ds.filter fun d => decide (d.p = (pgs ds)[i])).map (·.n))).length ≤ 61 := by
          unfold numsV
          rw [List.length_map]
          omega
        refine ⟨A1, D, [.int 0], _, rfl, rfl, s5 _ _ upd_same, hR, (by show 1 + _ ≤ sizeLine; omega), fun A2 hA2 => ?_⟩
        have s6 := Same.updf (o := .lst ([V.int 0] ++ numsV ((ds.filter fun d => decide (d.p = (pgs ds)[i])).map (·.n)))) hA2
        have s36 := (s3.trans s5).trans s6
        have P6 := PM.same s36
        have nA2 : A2 ≠ pu := fresh_ne (PM.same (s3.trans s5)) hA2
        refine ⟨pu, A2, numsV (nbp ds (pgs ds)[i]), M, rfl, nA2, SqL.of upd_same, by unfold numsV nbp; simp, by unfold numsV; rw [List.length_map]; have := nbp_len ds (pgs ds)[i]; omega, P6, by omega, fun y H7 hy b7 P7 => ?_⟩
        obtain ⟨v, mv, rfl⟩ := List.mem_map.mp hy
        have bAll : But pu G' H7 := (But.of s36).trans b7
        have hm7 := bAll _ _ nq hm
        refine ⟨_, rfl, _, rfl, q, _, rfl, DPut.k (k := ky (pgs ds)[i]) hm7 (by rw [dV_len, List.length_take]; omega), ?_⟩
        refine ⟨fun b o n e => ?_, ⟨_, P7.same' (upd_ne nq.symm), by omega⟩, by rw [upd_ne nqp]; exact bAll _ _ npu hp, putN m (pgs ds)[i] v, _, ?_, fun p hp => ?_, rfl⟩
        · rw [upd_ne (ne_of_none e hq)]
          exact bAll _ _ n (bG _ _ n e)
        · rw [upd_same, dV_new (tk_notin li), tk_snoc li]
          refine congrArg (fun z => some (HO.dK z)) (dV_congr fun p _ => ?_)
          unfold put putN
          split <;> rfl
        · unfold putN
          split
          · next e =>
            rw [e]
            exact mv
          · next e =>
            rw [tk_snoc li] at hp
            rcases List.mem_append.mp hp with hp | hp
            · exact mk p hp
            · exact absurd (List.mem_singleton.mp hp) e
    · rintro σ G ⟨bG, ⟨M, PM, lM⟩, hp, m, v3, hm, mk, rfl⟩
      rw [ln, List.take_length] at hm mk
      exact ⟨_, rfl, k q m G bG (PM.mono (by omega)) hq hm mk⟩
end
end K27
set_option Elab.async false
set_option linter.all false
set_option maxRecDepth 100000
set_option maxHeartbeats 4000000
/-! A new object that is gone over at once: it is held from then on. -/
namespace L2
open PySem PySem.Spec PyProof.Rows
def tLk (t : TE) : TE := fun σ H Q => t σ H fun x H1 => ∃ d u, x = .ref d ∧ H1 d = some u ∧ Mut (some u) ∧ ∀ od, Q x (upd H1 d (.frz od u))
theorem pe_lk {X : Cx} {e : Expr} {t : TE} (h : PE X e t) : PE X e (tLk t) := by
  refine ⟨fun pins s σ H Q I hw => ?_⟩
  refine thn (h.run pins s σ H _ I hw) fun v s1 ⟨x, H1, I1, r, q⟩ => ?_
  obtain ⟨d, u, ex, hd, mu, q⟩ := q
  subst ex
  obtain ⟨od, I2⟩ := I1.lock hd mu
  exact ⟨_, _, I2, r, q od⟩
end L2
set_option Elab.async false
set_option linter.all false
set_option maxRecDepth 100000
set_option maxHeartbeats 4000000
/-! xs == [] and xs != [], whatever xs holds. -/
namespace L2
open PySem PySem.Spec PyProof.Rows
section
variable {X : Cx}
def rEmp (K : PySem.W.Frag) (neg : Bool) : R2 := fun x y H Q => ∃ (a b : Addr) (xs : List V), x = .ref a ∧ y = .ref b ∧ SqL K H a xs ∧ SqL K H b [] ∧ Q (.bl (xs.isEmpty != neg)) H
theorem op_eqE (hu : X.A.units < cLine) : OpR X (compareOp .Eq) (rEmp X.K false) := by
  intro pins s σ H x y v u Q I rx ry h
  obtain ⟨a, b, xs, rfl, rfl, ha, hb, q⟩ := h
  obtain rfl : v = Value.ref a := rx
  obtain rfl : u = Value.ref b := ry
  obtain ⟨its, rv, ⟨oa, na, hoa, hca, _, hda⟩, _⟩ := I.list ha
  obtain ⟨its2, rv2, ⟨ob, nb, hob, hcb, _, hdb⟩, _⟩ := I.list hb
  cases rv2
  have hA : s.heap.IsList a its.toArray := ⟨oa, hoa, hca, na, hda⟩
  have hB : s.heap.IsList b #[] := ⟨ob, hob, hcb, nb, hdb⟩
  have z : ∀ c : Bool, (c != false) = c := by decide
  rw [z] at q
  cases rv with
  | nil => exact SeqAt.RcAt.lists (e := fun _ => true) hA hB rfl hu (fun j h1 h2 => absurd h2 (Nat.not_lt_zero _)) X.prog X.w _ _ ⟨.bl _, H, I, rfl, q⟩
  | cons r t => exact SeqAt.RcAt.lists_lengths hA hB (by simp) hu X.prog X.w _ _ ⟨.bl _, H, I, rfl, q⟩
theorem op_neE (hu : X.A.units < cLine) : OpR X (compareOp .NotEq) (rEmp X.K true) := by
  intro pins s σ H x y v u Q I rx ry h
  obtain ⟨a, b, xs, rfl, rfl, ha, hb, q⟩ := h
  obtain rfl : v = Value.ref a := rx
  obtain rfl : u = Value.ref b := ry
  obtain ⟨its, rv, ⟨oa, na, hoa, hca, _, hda⟩, _⟩ := I.list ha
  obtain ⟨its2, rv2, ⟨ob, nb, hob, hcb, _, hdb⟩, _⟩ := I.list hb
  cases rv2
  have hA : s.heap.IsList a its.toArray := ⟨oa, hoa, hca, na, hda⟩
  have hB : s.heap.IsList b #[] := ⟨ob, hob, hcb, nb, hdb⟩
  have z : ∀ c : Bool, (c != true) = !c := by decide
  rw [z] at q
  cases rv with
  | nil => exact SeqAt.RcNeAt.lists (e := fun _ => true) hA hB rfl hu (fun j h1 h2 => absurd h2 (Nat.not_lt_zero _)) X.prog X.w _ _ ⟨.bl _, H, I, rfl, q⟩
  | cons r t => exact SeqAt.RcNeAt.lists_lengths hA hB (by simp) hu X.prog X.w _ _ ⟨.bl _, H, I, rfl, q⟩
end
end L2
set_option Elab.async false
set_option linter.all false
set_option maxRecDepth 100000
set_option maxHeartbeats 4000000
/-! sorted(xs) of tracked data of one shape: tuples, rows, texts. -/
namespace KB
open PySem PySem.Spec PyProof.Rows L2
theorem eachOf {xs : List V} {us : List Value} (h : Vals xs us) : PySem.W.EachIs (fun (u : Value) (x : V) => RelV x u) us xs := by
  induction h with
  | nil => exact .nil
  | cons r _ ih => exact .cons r ih
theorem valsOf {xs : List V} {us : List Value} (h : PySem.W.EachIs (fun (u : Value) (x : V) => RelV x u) us xs) : Vals xs us := by
  induction h with
  | nil => exact .nil
  | cons r _ ih => exact .cons r ih
theorem eachMem {α β : Type} {R S : α → β → Prop} {as : List α} {bs : List β} (h : PySem.W.EachIs R as bs) (k : ∀ a b, b ∈ bs → R a b → S a b) : PySem.W.EachIs S as bs := by
  induction h with
  | nil => exact .nil
  | cons r _ ih => exact .cons (k _ _ List.mem_cons_self r) (ih fun a b m => k a b (List.mem_cons_of_mem _ m))
def rSortedD (K : PySem.W.Frag) : List V → Hp → VK → Prop := fun vs H Q => ∃ (a : Addr) (xs : List V) (k : V → PyData), vs = [.ref a] ∧ SqL K H a xs ∧ (∀ x ∈ xs, Dp K H x (k x)) ∧ PySem.W.AllAlike (xs.map k) ∧ PySem.W.Sortable (xs.map k) ∧ (∀ x ∈ xs, (k x).depth ≤ 40) ∧
  ∀ p, H p = none → Q (.ref p) (upd H p (.lst (xs.mergeSort (PySem.W.dataLe false k))))
theorem cr_sortedD {X : Cx} (hu : X.A.units + 64 < cLine) : CallR X (.builtin "sorted") (rSortedD X.K) := by
  intro pins s σ H vs us Q I r h
  obtain ⟨a, xs, k, rfl, hs, hk, ha, hb, hd, q⟩ := h
  obtain rfl := Vals.ref1 r
  obtain ⟨its, rv, hl, hz⟩ := I.list hs
  have e1 := eachOf rv
  refine PySem.W.sorted_data (vs := its) (bs := xs) (enc := k) (R := fun u x => RelV x u) hl.isList e1 (eachMem e1 fun u x m r => Dp.reads I (k x) x u (hk x m) r) ha hb hz (fun x m => ?_) fun out len eo => ?_
  · have := hd x m
    omega
  · obtain ⟨ep, he⟩ := PyProof.Rows.sortedAll_at s.heap its out.toArray
    have z : (xs.mergeSort (PySem.W.dataLe false k)).length ≤ sizeLine := by
      rw [List.length_mergeSort]
      exact hz
    exact ⟨.ref _, upd H (s.heap.objs.size + 1) (.lst (xs.mergeSort (PySem.W.dataLe false k))), I.laid (t' := s.toks) (fun _ _ => PyProof.Rows.sortedAll_old) (Nat.le_succ _) ⟨z, out, ep, valsOf eo, he⟩, rfl, q _ (I.hok.fresh (Nat.le_succ _))⟩
end KB
set_option Elab.async false
set_option linter.all false
set_option maxRecDepth 100000
set_option maxHeartbeats 8000000
namespace K27
open PySem PySem.Spec PyProof.Rows L2 KB LiI
/-- the newest number of a page -/
def nwN (ds : List Dd) (p : Nat) : Nat := (nbp ds p).getLastD 0
def spNewSt : Sp := fun vs H Q _ => ∃ (a : Addr) (ds : List Dd), vs = [.ref a] ∧ LogAt H a ds ∧ Lg ds ∧ ∀ q H', Same H H' → H q = none → MkAt H' q (pgs ds) (nwN ds) → Q (.ref q) H'
def spAreR : Sp := fun vs H Q _ => ∃ (a b : Addr) (ds : List Dd) (ks : List Nat) (m : Nat → Nat), vs = [.ref a, .ref b] ∧ LogAt H a ds ∧ Lg ds ∧ MkAt H b ks m ∧ ks.Perm (pgs ds) ∧ Mk ds m ∧ ∀ H', Same H H' → Q (.bl (wr ds m).isEmpty) H'
def spNeedR : Sp := fun vs H Q _ => ∃ (a b : Addr) (ds : List Dd) (ks : List Nat) (m : Nat → Nat), vs = [.ref a, .ref b] ∧ LogAt H a ds ∧ Lg ds ∧ MkAt H b ks m ∧ ks.Perm (pgs ds) ∧ Mk ds m ∧ Rt ds m ∧ ∀ H', Same H H' → Q .non H'
def spNeedC : Sp := fun vs H Q _ => ∃ n : Nat, vs = [.int (n : Int)] ∧ Q .non H
theorem atI_last {xs : List V} {x : V} (h : xs.getLast? = some x) : atI xs (-1) = some x := by
  unfold atI ixN
  have l : xs ≠ [] := fun e => by
    rw [e] at h
    cases h
  have lp : 0 < xs.length := List.length_pos_iff.mpr l
  rw [List.getLast?_eq_getElem?] at h
  rw [if_neg (by decide), if_pos (by omega)]
  have e : (-1 + (xs.length : Int)).toNat = xs.length - 1 := by omega
  rw [e]
  exact h
section
variable {P : Program} {w : World} {K : PySem.W.Frag} {mg : Str → Option Value} {base : Heap}
abbrev s_newest_stamps : Stmt := top 22
abbrev N_newest_stamps : List Str := ["deeds", "page", "numbers"]
theorem sc_newest_stamps : FnScope N_newest_stamps ["deeds"] (defScope s_newest_stamps) := ⟨rfl, rfl, rfl, by decide +kernel, rfl, by decide +kernel, by decide +kernel⟩
theorem ok_newest_stamps {f : Addr} {fd : FuncData} (F : FnP K "newest_stamps" s_newest_stamps f fd) (Z : FreeS mg)
    {f_numbers_by_pages : Addr} {d_numbers_by_pages : FuncData} (g_numbers_by_pages : mg "numbers_by_pages" = some (.ref f_numbers_by_pages)) (F_numbers_by_pages : FnP K "numbers_by_pages" s_numbers_by_pages f_numbers_by_pages d_numbers_by_pages) (G_numbers_by_pages : FnOk P w K mg base CX0 2 f_numbers_by_pages d_numbers_by_pages ["deeds"] spNums) :
    FnOk P w K mg base CX0 3 f fd ["deeds"] spNewSt := by
  have b_numbers_by_pages : Binds K d_numbers_by_pages ["deeds"] [] := F_numbers_by_pages.bindsN fun _ _ _ _ _ _ us hl => match us, hl with | [_], _ => rfl
  refine F.ok sc_newest_stamps (fun vs H Q E h => ?_) (fun cdv A outer s H vs Q E hr h => ?_)
  · obtain ⟨a, ds, rfl, _⟩ := h
    rfl
  · obtain ⟨a, ds, rfl, hL, hG, k⟩ := h
    have pl := hG.pl
    have sl : (2000 : Nat) ≤ sizeLine := by decide
    have nd := sc_newest_stamps.nd
    refine ⟨_, PSs.nox (pss_one (ps_ret (pe_dc (own := [("page", 1), ("numbers", 2)]) (g := gTup K 2 (gCons (gName 1) (gCons (gName 2) (gNil)))) (tt := tYes) (tk := tVar 1) (tv := tOp (rIxL K) (tVar 2) (tUn (rU fun i => .int (-i)) (tC (.int 1)))) rfl nd (pi_items (pe_lk (pe_call G_numbers_by_pages (hr.mono (by decide)) rfl g_numbers_by_pages F_numbers_by_pages.kp b_numbers_by_pages .nil pass0 (pa_cons (pv 0) (pa_nil))))) (blkOk_by (own := [("page", 1), ("numbers", 2)]) (N := N_newest_stamps) (sc := defScope s_newest_stamps) (by decide +kernel)) (fun _ _ _ _ _ => pg_tup rfl (pgs_cons (pg_name (i := 1) nd rfl (Or.inl rfl)) (pgs_cons (pg_name (i := 2) nd rfl (Or.inl rfl)) (pgs_nil)))) (fun _ _ _ _ _ => pts_nil) (fun _ _ _ _ _ => pv 1) (fun _ _ _ _ _ => pe_ix ix_list (pv 2) (pe_un un_neg (pe_int)) (fun _ _ => rfl))))), ?_⟩
    refine ⟨_, rfl, a, ds, rfl, hL, hG, fun q G at_ s1 nq hN nat => ?_⟩
    refine ⟨q, _, rfl, hN.d, trivial, fun od => ⟨q, od, _, rfl, upd_same, fun D hD => ?_⟩⟩
    have fq : upd G q (.frz od (.dK (dV (pgs ds) fun p => V.ref (at_ p)))) q = some (.frz od (.dK (dV (pgs ds) fun p => V.ref (at_ p)))) := upd_same
    have fl : ∀ p ∈ pgs ds, upd G q (.frz od (.dK (dV (pgs ds) fun p => V.ref (at_ p)))) (at_ p) = some (.lst (numsV (nbp ds p))) := fun p hp => by
      rw [upd_ne (hN.ne hp)]
      exact hN.l p hp
    have fH : Same H (upd G q (.frz od (.dK (dV (pgs ds) fun p => V.ref (at_ p))))) := fun c o e => by
      rw [upd_ne (ne_of_none e nq)]
      exact s1 _ _ e
    generalize upd G q (.frz od (.dK (dV (pgs ds) fun p => V.ref (at_ p)))) = F at *
    have lk : (dV (pgs ds) fun p => V.ref (at_ p)).length = (pgs ds).length := dV_len _ _
    refine dc_walk (walk_items (d := q) (o := od) (kvs := dV (pgs ds) fun p => V.ref (at_ p))) (fun i G => Same F G ∧ G D = some (.dK (mV ((pgs ds).take i) (nwN ds)))) ⟨Same.updf hD, upd_same⟩ (fun i G _ hh => hh.1 _ _ fq) ?_ ?_
    · rintro i x G2 G3 hi ⟨sG, gd⟩ ⟨T, y1, y2, rfl, nT, rfl, e1, e2⟩
      have li : i < (pgs ds).length := by omega
      have ei : (dV (pgs ds) fun p => V.ref (at_ p))[i]? = some (ky (pgs ds)[i], .ref (at_ (pgs ds)[i])) := by
        unfold dV
        rw [List.getElem?_map, List.getElem?_eq_getElem li]
        rfl
      dsimp only at e1 e2
      rw [ei] at e1 e2
      obtain rfl := Option.some.inj e1
      obtain rfl := Option.some.inj e2
      have mp := List.getElem_mem li
      have sT := Same.updf (o := .tup [V.int ((pgs ds)[i] : Int), V.ref (at_ (pgs ds)[i])]) nT
      have nTD : T ≠ D := (ne_of_none gd nT).symm
      have hl := sT _ _ (sG _ _ (fl _ mp))
      refine ⟨T, [_, _], rfl, .inl (.inl upd_same), rfl, _, [_], rfl, _, [], rfl, rfl, rfl, _, rfl, _, rfl, 1, rfl, at_ (pgs ds)[i], numsV (nbp ds (pgs ds)[i]), -1, .int (nwN ds (pgs ds)[i] : Int), rfl, rfl, SqL.of hl, atI_last ?_, ?_⟩
      · unfold numsV nwN nbp
        rw [List.getLast?_map]
        simp [List.getLast?_cons]
      · refine ⟨_, ky (pgs ds)[i], rfl, sT _ _ gd, by rw [dV_len, List.length_take]; omega, fun c o e => ?_, ?_⟩
        · rw [upd_ne (ne_of_none e hD)]
          exact sT _ _ (sG _ _ e)
        · rw [upd_same, dV_new (tk_notin li), tk_snoc li]
          refine congrArg (fun z => some (HO.dK z)) (dV_congr fun p _ => ?_)
          unfold put
          split
          · next e => rw [e]
          · rfl
    · rintro G2 ⟨sG, gd⟩
      rw [lk, List.take_length] at gd
      exact k D G2 (fH.trans sG) (none_back fH hD) gd
abbrev s_are_right : Stmt := top 26
abbrev N_are_right : List Str := ["deeds", "stamps"]
theorem sc_are_right : FnScope N_are_right ["deeds", "stamps"] (defScope s_are_right) := ⟨rfl, rfl, rfl, by decide +kernel, rfl, by decide +kernel, by decide +kernel⟩
theorem ok_are_right {f : Addr} {fd : FuncData} (F : FnP K "are_right" s_are_right f fd) (Z : FreeS mg)
    {f_need_stamps : Addr} {d_need_stamps : FuncData} (g_need_stamps : mg "need_stamps" = some (.ref f_need_stamps)) (F_need_stamps : FnP K "need_stamps" s_need_stamps f_need_stamps d_need_stamps) (G_need_stamps : FnOk P w K mg base CX0 8 f_need_stamps d_need_stamps ["deeds", "stamps"] spNeedS)
    {f_wrong_reads : Addr} {d_wrong_reads : FuncData} (g_wrong_reads : mg "wrong_reads" = some (.ref f_wrong_reads)) (F_wrong_reads : FnP K "wrong_reads" s_wrong_reads f_wrong_reads d_wrong_reads) (G_wrong_reads : FnOk P w K mg base CX0 1 f_wrong_reads d_wrong_reads ["deeds", "stamps"] spWrong) :
    FnOk P w K mg base CX0 9 f fd ["deeds", "stamps"] spAreR := by
  have b_need_stamps : Binds K d_need_stamps ["deeds", "stamps"] [] := F_need_stamps.bindsN fun _ _ _ _ _ _ us hl => match us, hl with | [_, _], _ => rfl
  have b_wrong_reads : Binds K d_wrong_reads ["deeds", "stamps"] [] := F_wrong_reads.bindsN fun _ _ _ _ _ _ us hl => match us, hl with | [_, _], _ => rfl
  refine F.ok sc_are_right (fun vs H Q E h => ?_) (fun cdv A outer s H vs Q E hr h => ?_)
  · obtain ⟨a, b, ds, ks, m, rfl, _⟩ := h
    rfl
  · obtain ⟨a, b, ds, ks, m, rfl, hL, hG, hb, pk, mk, k⟩ := h
    have hu0 : _ < cLine := Nat.lt_of_le_of_lt (Nat.le_add_right _ _) (Nat.lt_of_le_of_lt (Nat.add_le_add_right (Nat.le_add_right _ _) _) hr.un)
    have nd := sc_are_right.nd
    refine ⟨_, PSs.nox (pss_cons (ps_expr (pe_call G_need_stamps (hr.mono (by decide)) rfl g_need_stamps F_need_stamps.kp b_need_stamps .nil pass0 (pa_cons (pv 0) (pa_cons (pv 1) (pa_nil)))))
      (pss_one (ps_ret (pe_cmpR (op_eqE hu0) (pe_call G_wrong_reads (hr.mono (by decide)) rfl g_wrong_reads F_wrong_reads.kp b_wrong_reads .nil pass0 (pa_cons (pv 0) (pa_cons (pv 1) (pa_nil)))) (pe_lst (pa_nil)) (nomark _))))), ?_⟩
    refine ⟨_, rfl, _, rfl, a, b, ds, ks, m, rfl, hL, hG, hb, pk, mk, fun G s1 => ?_⟩
    refine ⟨_, rfl, _, rfl, a, b, ds, ks, m, rfl, hL.same s1, hG, s1 _ _ hb, pk, fun q G2 ys s2 nq hq py => ⟨Nat.zero_le _, fun E hE => ?_⟩⟩
    have s3 := Same.updf (o := .lst []) hE
    refine ⟨q, E, ys, rfl, rfl, SqL.of (s3 _ _ hq), SqL.of upd_same, ?_⟩
    have e : (ys.isEmpty != false) = (wr ds m).isEmpty := by
      have l := py.1
      cases ys with
      | nil =>
        rw [List.length_eq_zero_iff.mp l.symm]
        rfl
      | cons y ys =>
        cases hw : wr ds m with
        | nil =>
          rw [hw] at l
          cases l
        | cons w ws => rfl
    rw [e]
    exact k _ ((s1.trans s2).trans s3)
abbrev s_need_right_stamps : Stmt := top 28
abbrev N_need_right_stamps : List Str := ["deeds", "stamps"]
theorem sc_need_right_stamps : FnScope N_need_right_stamps ["deeds", "stamps"] (defScope s_need_right_stamps) := ⟨rfl, rfl, rfl, by decide +kernel, rfl, by decide +kernel, by decide +kernel⟩
theorem ok_need_right_stamps {f : Addr} {fd : FuncData} (F : FnP K "need_right_stamps" s_need_right_stamps f fd) (Z : FreeS mg)
    {f_are_right : Addr} {d_are_right : FuncData} (g_are_right : mg "are_right" = some (.ref f_are_right)) (F_are_right : FnP K "are_right" s_are_right f_are_right d_are_right) (G_are_right : FnOk P w K mg base CX0 9 f_are_right d_are_right ["deeds", "stamps"] spAreR) :
    FnOk P w K mg base CX0 10 f fd ["deeds", "stamps"] spNeedR := by
  have b_are_right : Binds K d_are_right ["deeds", "stamps"] [] := F_are_right.bindsN fun _ _ _ _ _ _ us hl => match us, hl with | [_, _], _ => rfl
  refine F.ok sc_need_right_stamps (fun vs H Q E h => ?_) (fun cdv A outer s H vs Q E hr h => ?_)
  · obtain ⟨a, b, ds, ks, m, rfl, _⟩ := h
    rfl
  · obtain ⟨a, b, ds, ks, m, rfl, hL, hG, hb, pk, mk, rt, k⟩ := h
    have nd := sc_need_right_stamps.nd
    refine ⟨_, PSs.nox (pss_one (ps_if (pt_not (pt_val (pe_call G_are_right (hr.mono (by decide)) rfl g_are_right F_are_right.kp b_are_right .nil pass0 (pa_cons (pv 0) (pa_cons (pv 1) (pa_nil)))))) (pss_one (ps_dead)) (pss_nil))), ?_⟩
    refine ⟨_, rfl, _, rfl, a, b, ds, ks, m, rfl, hL, hG, hb, pk, mk, fun G s1 => ⟨_, rfl, ?_⟩⟩
    rw [show wr ds m = [] from rt]
    exact iteF (k G s1)
end
end K27
set_option Elab.async false
set_option linter.all false
set_option maxRecDepth 100000
set_option maxHeartbeats 4000000
/-! sorted(xs), xs new tuples of as many ints each. -/
namespace KB
open PySem PySem.Spec PyProof.Rows L2
theorem zip_paired {α β : Type} {F : α → β → Prop} : ∀ {xs : List α} {ys : List β}, Paired F xs ys → (∀ p ∈ xs.zip ys, F p.1 p.2) ∧ (xs.zip ys).map Prod.fst = xs ∧ (xs.zip ys).map Prod.snd = ys
  | _, _, .nil => ⟨fun p h => (nomatch h), rfl, rfl⟩
  | _, _, .cons r t => by
    obtain ⟨h1, h2, h3⟩ := zip_paired t
    refine ⟨fun p h => ?_, ?_, ?_⟩
    · rw [List.zip_cons_cons] at h
      rcases List.mem_cons.mp h with rfl | h
      · exact r
      · exact h1 p h
    · rw [List.zip_cons_cons, List.map_cons, h2]
    · rw [List.zip_cons_cons, List.map_cons, h3]
theorem paired_zip {α β : Type} {F : α → β → Prop} : ∀ {ps : List (α × β)}, (∀ p ∈ ps, F p.1 p.2) → Paired F (ps.map Prod.fst) (ps.map Prod.snd)
  | [], _ => .nil
  | p :: ps, h => .cons (h p List.mem_cons_self) (paired_zip fun q hq => h q (List.mem_cons_of_mem _ hq))
theorem paired_sort {α β : Type} {F : α → β → Prop} {le : β → β → Bool} {le' : α → α → Bool} (h : ∀ a x b y, F a x → F b y → le' a b = le x y) {xs : List α} {ys : List β} (p : Paired F xs ys) : Paired F (xs.mergeSort le') (ys.mergeSort le) := by
  obtain ⟨h1, h2, h3⟩ := zip_paired p
  have e1 : ((xs.zip ys).mergeSort fun p q => le p.2 q.2).map Prod.fst = xs.mergeSort le' := by
    rw [List.map_mergeSort (s := le') (fun a ha b hb => (h _ _ _ _ (h1 a ha) (h1 b hb)).symm), h2]
  have e2 : ((xs.zip ys).mergeSort fun p q => le p.2 q.2).map Prod.snd = ys.mergeSort le := by
    rw [List.map_mergeSort (s := le) (fun a _ b _ => rfl), h3]
  rw [← e1, ← e2]
  exact paired_zip fun q hq => h1 q ((List.mergeSort_perm _ _).mem_iff.mp hq)
theorem paired_get2 {α β : Type} {F : α → β → Prop} : ∀ {xs : List α} {ys : List β}, Paired F xs ys → ∀ {i : Nat} {y : β}, ys[i]? = some y → ∃ x, xs[i]? = some x ∧ F x y
  | _, _, .nil, i, x, h => by cases h
  | _, _, .cons r t, 0, x, h => by
    have e := Option.some.inj h
    subst e
    exact ⟨_, rfl, r⟩
  | _, _, .cons r t, i + 1, x, h => paired_get2 t h
theorem paired_get1 {α β : Type} {F : α → β → Prop} : ∀ {xs : List α} {ys : List β}, Paired F xs ys → ∀ {i : Nat} {x : α}, xs[i]? = some x → ∃ y, ys[i]? = some y ∧ F x y
  | _, _, .nil, i, x, h => by cases h
  | _, _, .cons r t, 0, x, h => by
    have e := Option.some.inj h
    subst e
    exact ⟨_, rfl, r⟩
  | _, _, .cons r t, i + 1, x, h => paired_get1 t h
theorem paired_rev {α β : Type} {F : α → β → Prop} : ∀ {xs : List α} {ys : List β}, Paired F xs ys → Paired F xs.reverse ys.reverse
  | _, _, .nil => .nil
  | _, _, .cons r t => by
    rw [List.reverse_cons, List.reverse_cons]
    exact paired_snoc (paired_rev t) r
theorem paired_mapG {α β γ : Type} {F : γ → β → Prop} {f : α → γ} : ∀ {xs : List α} {ys : List β}, Paired (fun x y => F (f x) y) xs ys → Paired F (xs.map f) ys
  | _, _, .nil => .nil
  | _, _, .cons r t => .cons r (paired_mapG t)
theorem sel_getG {α : Type} (z : α) (l : List α) (c : α → Bool) : (((List.range l.length).filter fun i => c (l.getD i z)).map fun i => l.getD i z) = l.filter c := by
  have e : l = (List.range l.length).map fun i => l.getD i z := by
    refine List.ext_getElem (by simp) fun i h1 h2 => ?_
    simp [h1]
  conv => rhs; rw [e, List.filter_map]
  rfl
theorem paired_selG {α : Type} {z : α} {l : List α} {c : α → Bool} {R : α → V → Prop} {ys : List V} (h : Paired (fun i y => R (l.getD i z) y) ((List.range l.length).filter fun i => c (l.getD i z)) ys) : Paired R (l.filter c) ys := by
  have := paired_mapG h
  rw [sel_getG] at this
  exact this
def intsD (t : List Int) : PyData := .tuple (t.map PyData.int)
def sortT (ts : List (List Int)) : List (List Int) := ts.mergeSort fun a b => PySem.W.dataLe false intsD a b
theorem sortT_perm (ts : List (List Int)) : (sortT ts).Perm ts := List.mergeSort_perm _ _
/-- y is a tuple of these ints -/
def IntsAt (H : Hp) (t : List Int) (y : V) : Prop := ∃ T, y = .ref T ∧ H T = some (.tup (t.map V.int))
theorem IntsAt.same {H H' : Hp} (k : Same H H') {t : List Int} {y : V} : IntsAt H t y → IntsAt H' t y := fun ⟨T, e, h⟩ => ⟨T, e, k _ _ h⟩
def encI (H : Hp) (y : V) : PyData := match y with
  | .ref T => (match H T with
    | some (.tup xs) => .tuple (xs.map fun v => match v with | .int i => PyData.int i | _ => .none)
    | _ => .none)
  | _ => .none
theorem encI_at {H : Hp} {t : List Int} {y : V} (h : IntsAt H t y) : encI H y = intsD t := by
  obtain ⟨T, rfl, h⟩ := h
  simp only [encI, intsD, h, List.map_map]
  rfl
theorem dpAll_ints {K : PySem.W.Frag} {H : Hp} : ∀ t : List Int, DpAll K H (t.map V.int) (t.map PyData.int)
  | [] => .nil
  | i :: t => .cons (.int i) (dpAll_ints t)
theorem alikeAll_ints : ∀ a b : List Int, PySem.W.alikeAll (a.map PyData.int) (b.map PyData.int) = true
  | [], _ => by simp [PySem.W.alikeAll]
  | _ :: _, [] => by simp [PySem.W.alikeAll]
  | i :: a, j :: b => by
    rw [List.map_cons, List.map_cons]
    simp only [PySem.W.alikeAll, PySem.W.alike, alikeAll_ints a b, Bool.and_self]
theorem depth_ints : ∀ t : List Int, PyData.depthAll (t.map PyData.int) = 0
  | [] => by simp [PyData.depthAll]
  | i :: t => by
    rw [List.map_cons]
    simp only [PyData.depthAll, PyData.depth, depth_ints t]
    rfl
def rSortT (K : PySem.W.Frag) : List V → Hp → VK → Prop := fun vs H Q => ∃ (a : Addr) (xs : List V) (ts : List (List Int)), vs = [.ref a] ∧ SqL K H a xs ∧ Paired (IntsAt H) ts xs ∧ (∀ t ∈ ts, t ≠ []) ∧
  ∀ p ys, H p = none → Paired (IntsAt H) (sortT ts) ys → Q (.ref p) (upd H p (.lst ys))
theorem cr_sortedT {X : Cx} (hu : X.A.units + 64 < cLine) : CallR X (.builtin "sorted") (rSortT X.K) := by
  intro pins s σ H vs us Q I r h
  obtain ⟨a, xs, ts, rfl, hs, py, hne, q⟩ := h
  have get : ∀ x ∈ xs, ∃ t ∈ ts, IntsAt H t x := fun x mx => by
    obtain ⟨h1, h2, h3⟩ := zip_paired py
    rw [← h3] at mx
    obtain ⟨p, hp, rfl⟩ := List.mem_map.mp mx
    refine ⟨p.1, ?_, h1 p hp⟩
    rw [← h2]
    exact List.mem_map.mpr ⟨p, hp, rfl⟩
  refine cr_sortedD hu pins s σ H _ us Q I r ⟨a, xs, encI H, rfl, hs, fun x mx => ?_, fun d hd d' hd' => ?_, .inl fun d hd => ?_, fun x mx => ?_, fun p hp => ?_⟩
  · obtain ⟨t, _, h⟩ := get x mx
    rw [encI_at h]
    obtain ⟨T, rfl, hT⟩ := h
    exact .tup (SqT.of hT) (dpAll_ints t)
  · obtain ⟨x, mx, rfl⟩ := List.mem_map.mp hd
    obtain ⟨y, my, rfl⟩ := List.mem_map.mp hd'
    obtain ⟨t, _, h⟩ := get x mx
    obtain ⟨t', _, h'⟩ := get y my
    rw [encI_at h, encI_at h']
    show PySem.W.alike (.tuple _) (.tuple _) = true
    simp only [PySem.W.alike, alikeAll_ints]
  · obtain ⟨x, mx, rfl⟩ := List.mem_map.mp hd
    obtain ⟨t, mt, h⟩ := get x mx
    rw [encI_at h]
    cases t with
    | nil => exact absurd rfl (hne _ mt)
    | cons i t => exact ⟨_, _, rfl⟩
  · obtain ⟨t, _, h⟩ := get x mx
    rw [encI_at h]
    unfold intsD
    simp only [PyData.depth, depth_ints]
    decide
  · refine q p _ hp (paired_sort (fun a x b y h1 h2 => ?_) py)
    unfold PySem.W.dataLe PySem.W.sortLe
    dsimp only
    rw [encI_at h1, encI_at h2]
def rListOf (K : PySem.W.Frag) : List V → Hp → VK → Prop := fun xs H Q => ∃ p ys, xs = [V.ref p] ∧ (SqL K H p ys ∨ SqT K H p ys) ∧ ∀ l, H l = none → Q (.ref l) (upd H l (.lst ys))
theorem call_list_ofR {X : Cx} : CallR X (.type "list") (rListOf X.K) := call_list_of
end KB
set_option Elab.async false
set_option linter.all false
set_option maxRecDepth 100000
set_option maxHeartbeats 8000000
namespace K27
open PySem PySem.Spec PyProof.Rows L2 KB LiI
/-- what of one deed waits, of its first j pages -/
def wt1 (nw : Nat → Nat) (m : Nat → Nat) (d : Dd) (r : Nat) : Bool := decide (r ≠ d.p ∧ m r < d.n ∧ d.n ≤ nw r)
def wtD (nw : Nat → Nat) (m : Nat → Nat) (d : Dd) : List (List Int) := if m d.p < d.n then (d.r.filter (wt1 nw m d)).map fun r : Nat => [(r : Int), (d.p : Int), (d.n : Int)] else []
def wtG (nw : Nat → Nat) (ds : List Dd) (m : Nat → Nat) : List (List Int) := ds.flatMap (wtD nw m)
def wtR (ds : List Dd) (m : Nat → Nat) : List (List Int) := wtG (nwN ds) ds m
def spAllW : Sp := fun vs H Q _ => ∃ (a b : Addr) (ds : List Dd) (ks : List Nat) (m : Nat → Nat), vs = [.ref a, .ref b] ∧ LogAt H a ds ∧ Lg ds ∧ MkAt H b ks m ∧ ks.Perm (pgs ds) ∧
  ∀ q ys H', Same H H' → H q = none → H' q = some (.lst ys) → Paired (IntsAt H') (sortT (wtR ds m)) ys → Q (.ref q) H'
theorem wtG_take {nw : Nat → Nat} {ds : List Dd} {m : Nat → Nat} {i : Nat} {d : Dd} (h : ds[i]? = some d) : wtG nw (ds.take (i + 1)) m = wtG nw (ds.take i) m ++ wtD nw m d := by
  unfold wtG
  rw [List.take_succ, h, List.flatMap_append]
  simp
theorem wtG_len {nw : Nat → Nat} {ds : List Dd} (h : ∀ d ∈ ds, d.r.length ≤ 20) (m : Nat → Nat) : (wtG nw ds m).length ≤ 20 * ds.length := by
  induction ds with
  | nil => simp [wtG]
  | cons d ds ih =>
    have h1 := ih fun e he => h e (List.mem_cons_of_mem _ he)
    have h2 := h d List.mem_cons_self
    have h3 := List.length_filter_le (wt1 nw m d) d.r
    unfold wtG at h1 ⊢
    rw [List.flatMap_cons, List.length_append, List.length_cons]
    unfold wtD at *
    split
    · rw [List.length_map]
      omega
    · rw [List.length_nil]
      omega
theorem wt_ne {nw : Nat → Nat} {ds : List Dd} {m : Nat → Nat} : ∀ t ∈ wtG nw ds m, t ≠ [] := fun t h => by
  obtain ⟨d, _, h⟩ := List.mem_flatMap.mp h
  unfold wtD at h
  split at h
  · obtain ⟨r, _, rfl⟩ := List.mem_map.mp h
    simp
  · cases h
theorem sel_bool (c : Nat → Bool) (l : List Nat) : ((List.range l.length).filterMap fun i => (l[i]?).bind fun x => if c x = true then some (V.int (x : Int)) else none) = numsV (l.filter c) := by
  induction l with
  | nil => rfl
  | cons x l ih =>
    rw [List.length_cons, List.range_succ_eq_map, List.filterMap_cons, List.filterMap_map, List.filter_cons]
    have e : ((fun i => ((x :: l)[i]?).bind fun x => if c x = true then some (V.int (x : Int)) else none) ∘ Nat.succ) = fun i => (l[i]?).bind fun x => if c x = true then some (V.int (x : Int)) else none := rfl
    rw [e, ih]
    by_cases h : c x = true
    · simp [h, numsV]
    · simp [h, numsV]
section
variable {P : Program} {w : World} {K : PySem.W.Frag} {mg : Str → Option Value} {base : Heap}
abbrev s_all_waits : Stmt := top 29
abbrev N_all_waits : List Str := ["deeds", "stamps", "newest", "found", "number", "page", "reads", "words", "others", "read"]
theorem sc_all_waits : FnScope N_all_waits ["deeds", "stamps"] (defScope s_all_waits) := ⟨rfl, rfl, rfl, by decide +kernel, rfl, by decide +kernel, by decide +kernel⟩
theorem ok_all_waits {f : Addr} {fd : FuncData} (F : FnP K "all_waits" s_all_waits f fd) (Z : FreeS mg)
    {f_newest_stamps : Addr} {d_newest_stamps : FuncData} (g_newest_stamps : mg "newest_stamps" = some (.ref f_newest_stamps)) (F_newest_stamps : FnP K "newest_stamps" s_newest_stamps f_newest_stamps d_newest_stamps) (G_newest_stamps : FnOk P w K mg base CX0 3 f_newest_stamps d_newest_stamps ["deeds"] spNewSt) :
    FnOk P w K mg base CX0 4 f fd ["deeds", "stamps"] spAllW := by
  have b_newest_stamps : Binds K d_newest_stamps ["deeds"] [] := F_newest_stamps.bindsN fun _ _ _ _ _ _ us hl => match us, hl with | [_], _ => rfl
  refine F.ok sc_all_waits (fun vs H Q E h => ?_) (fun cdv A outer s H vs Q E hr h => ?_)
  · obtain ⟨a, b, ds, ks, m, rfl, _⟩ := h
    rfl
  · obtain ⟨a, b, ds, ks, m, rfl, hL, hG, hb, pk, k⟩ := h
    obtain ⟨xs, ha, lx, hx⟩ := id hL
    have l60 := hG.len
    have sl : (3000 : Nat) ≤ sizeLine := by decide
    have hu65 : _ + 65 < cLine := Nat.lt_of_le_of_lt (Nat.add_le_add_left (by decide : 65 ≤ 200) _) (Nat.lt_of_le_of_lt (Nat.add_le_add_right (Nat.le_add_right _ _) _) hr.un)
    have hu := Nat.lt_of_le_of_lt (Nat.add_le_add_left (by decide : 1 ≤ 65) _) hu65
    have hu64 := Nat.lt_of_le_of_lt (Nat.add_le_add_left (by decide : 64 ≤ 65) _) hu65
    have nd := sc_all_waits.nd
    refine ⟨_, PSs.nox (pss_cons (ps_set (i := 2) nd rfl (Or.inr rfl) (pe_call G_newest_stamps (hr.mono (by decide)) rfl g_newest_stamps F_newest_stamps.kp b_newest_stamps .nil pass0 (pa_cons (pv 0) (pa_nil))))
      (pss_cons (ps_set (i := 3) nd rfl (Or.inl rfl) (pe_lst (pa_nil)))
      (pss_cons (ps_for PassesOwn.never rfl (pi_list (pv 0)) (pg_tup rfl (pgs_cons (pg_name (i := 4) nd rfl (Or.inr rfl)) (pgs_cons (pg_name (i := 5) nd rfl (Or.inr rfl)) (pgs_cons (pg_name (i := 6) nd rfl (Or.inl rfl)) (pgs_cons (pg_name (i := 7) nd rfl (Or.inl rfl)) (pgs_nil))))))
        (pss_one (ps_if (pt_cmpR op_lt (pe_dget hu (pv 1) (pv 5) (fun _ _ => rfl)) (pv 4) (nomark _)) (pss_cons (ps_setLc (i := 8) (own := [("read", 9)]) (g := gName 9) (tt := tAnd (tTest (tOp rNe (tVar 9) (tVar 5))) (tTest (tChain (rI0 fun i j => .bl (decide (i < j))) (rI0 fun i j => .bl (decide (i ≤ j))) (tDGet (tVar 1) (tVar 9)) (tVar 4) (tDGet (tVar 2) (tVar 9))))) (te := tVar 9) (by rfl) nd rfl rfl rfl (pi_list (pv 6))
          (blkOk_by (own := [("read", 9)]) (N := N_all_waits) (sc := defScope s_all_waits) (by decide +kernel)) (fun _ _ _ _ _ => pg_name (i := 9) nd rfl (Or.inl rfl)) (fun _ _ _ _ _ => pts_one (PW.pt (pw_and (pt_cmpR op_ne (pv 9) (pv 5) (nomark _)) (pw_and1 (pt_chain op_lt op_le (pe_dget hu (pv 1) (pv 9) (fun _ _ => rfl)) (pv 4) (pe_dget hu (pv 2) (pv 9) (fun _ _ => rfl)))))))
          (fun _ _ _ _ _ => pv 9))
      (pss_one (ps_expr (pe_bm PySem.F.plainAttrs_list PySem.F.slot_list_extend PySem.F.type_list_extend mt_extend (pv 3) (pa_cons (pe_lc (own := [("read", 9)]) (g := gName 9) (tt := tYes) (te := tTup (tCons (tVar 9) (tCons (tVar 5) (tCons (tVar 4) (tNil))))) (by rfl) nd (pi_list (pv 8))
          (blkOk_by (own := [("read", 9)]) (N := N_all_waits) (sc := defScope s_all_waits) (by decide +kernel)) (fun _ _ _ _ _ => pg_name (i := 9) nd rfl (Or.inl rfl)) (fun _ _ _ _ _ => pts_nil)
          (fun _ _ _ _ _ => pe_tup (pa_cons (pv 9) (pa_cons (pv 5) (pa_cons (pv 4) (pa_nil)))))) (pa_nil)))))) (pss_nil))))
      (pss_one (ps_ret (pe_callB ((cr_sortedT hu64)) (by rfl) Z.sorted (by decide +kernel) (pa_cons (pv 3) (pa_nil)))))))), ?_⟩
    have r20 : ∀ d ∈ ds, d.r.length ≤ 20 := fun d hd => (hG.ok d hd).len
    refine ⟨_, rfl, a, ds, rfl, hL, hG, fun nq G1 s1 nnq hnw => ⟨Nat.zero_le _, fun L hL0 => ?_⟩⟩
    have s2 := Same.updf (o := .lst []) hL0
    have s12 := s1.trans s2
    have dg : ∀ {G : Hp} {q : Addr} {ks : List Nat} {f : Nat → Nat} {p : Nat}, G q = some (.dK (mV ks f)) → p ∈ ks → DGet G q (.int (p : Int)) (some (.int (f p : Int))) := fun {G q ks f p} h hp => by
      have := DGet.k (k := ky p) h
      rw [mV_val hp] at this
      exact this
    refine ⟨_, rfl, a, rfl, ⟨_, SqL.of (s12 _ _ ha)⟩, ?_⟩
    have hnw2 := s2 _ _ hnw
    have nL : H L = none := none_back s1 hL0
    have nLq : nq ≠ L := ne_of_none hnw hL0
    refine for_it (walk_list (K := K) (a := a) (xs := xs)) (fun i σ G => Same H G ∧ G nq = some (.dK (mV (pgs ds) (nwN ds))) ∧ ∃ ys v4 v5 v6 v7 v8, G L = some (.lst ys) ∧ Paired (IntsAt (off G L)) (wtG (nwN ds) (ds.take i) m) ys ∧ σ = [some (.ref a), some (.ref b), some (.ref nq), some (.ref L), v4, v5, v6, v7, v8, none])
      ⟨s12, hnw2, [], _, _, _, _, _, upd_same, .nil, rfl⟩ (fun i σ G _ hh => SqL.of (hh.1 _ _ ha)) ?_ ?_
    · rintro i x σ G G' hi ⟨sG, hn, ys, v4, v5, v6, v7, v8, hys, py, rfl⟩ ⟨rfl, hv⟩
      have li : i < ds.length := by omega
      have hd : ds[i]? = some ds[i] := List.getElem?_eq_getElem li
      have md : ds[i] ∈ ds := List.getElem_mem li
      obtain ⟨t, rd, tw, rfl, ht, hr1, _⟩ := (hx i x _ hv hd).same sG
      have ok := hG.ok _ md
      have mp : ∀ p ∈ ds[i].r, p ∈ pgs ds := fun p hp => pgs_mem.mpr ⟨ds[i], md, hp⟩
      have mk : ∀ p ∈ ds[i].r, p ∈ ks := fun p hp => pk.mem_iff.mpr (mp p hp)
      have l20 := r20 _ md
      have ln : (numsV ds[i].r).length = ds[i].r.length := List.length_map _
      have wl := wtG_len (nw := nwN ds) (ds := ds.take i) (fun e he => r20 e (List.mem_of_mem_take he)) m
      rw [List.length_take] at wl
      have ly := paired_len py
      refine ⟨t, [_, _, _, _], rfl, .inl (.inl ht), rfl, _, [_, _, _], rfl, _, [_, _], rfl, _, [_], rfl, _, [], rfl, rfl, ?_⟩
      refine ⟨_, rfl, _, rfl, b, _, rfl, dg (sG _ _ hb) (mk _ ok.own), _, rfl, _, _, rfl, rfl, _, rfl, ?_⟩
      rw [wtG_take hd]
      unfold wtD
      by_cases c : m ds[i].p < ds[i].n
      · rw [decide_eq_true (show (m ds[i].p : Int) < (ds[i].n : Int) by omega), if_pos c]
        refine iteT ⟨_, rfl, rd, rfl, ⟨_, SqL.of hr1⟩, fun D hD => ?_⟩
        refine lc_sel (n := (numsV ds[i].r).length) (walk_list (K := K) (a := rd) (xs := numsV ds[i].r)) (fun j => (ds[i].r[j]?).bind fun x => if wt1 (nwN ds) m ds[i] x = true then some (V.int (x : Int)) else none) (by omega) hD (fun H2 s3 => SqL.of (s3 _ _ hr1)) ?_ ?_
        · rintro j v H5 H6 Qy Qn hj s5 ⟨rfl, hy⟩ ky_ kn
          have lj : j < ds[i].r.length := by omega
          unfold numsV at hy
          rw [List.getElem?_map, List.getElem?_eq_getElem lj] at hy
          obtain rfl := Option.some.inj hy
          have mj := List.getElem_mem lj
          rw [List.getElem?_eq_getElem lj, Option.bind_some] at ky_ kn
          refine ⟨rfl, _, rfl, _, rfl, rfl, _, rfl, ?_⟩
          by_cases e1 : ds[i].r[j] = ds[i].p
          · have z : wt1 (nwN ds) m ds[i] ds[i].r[j] = false := decide_eq_false fun h => h.1 e1
            rw [z] at kn
            rw [show (!decide (V.int (ds[i].r[j] : Int) = V.int (ds[i].p : Int))) = false by rw [e1]; simp]
            exact iteF (iteF (kn _ (Same.refl _) rfl))
          · rw [show (!decide (V.int (ds[i].r[j] : Int) = V.int (ds[i].p : Int))) = true by simp; omega]
            refine iteT ⟨_, rfl, _, rfl, b, _, rfl, dg (s5 _ _ (sG _ _ hb)) (mk _ mj), _, rfl, _, _, rfl, rfl, _, rfl, ?_⟩
            by_cases e2 : m ds[i].r[j] < ds[i].n
            · rw [decide_eq_true (show (m ds[i].r[j] : Int) < (ds[i].n : Int) by omega)]
              refine iteT ⟨_, rfl, _, rfl, nq, _, rfl, dg (s5 _ _ hn) (mp _ mj), _, _, rfl, rfl, _, rfl, ?_⟩
              by_cases e3 : ds[i].n ≤ nwN ds ds[i].r[j]
              · rw [decide_eq_true (show (ds[i].n : Int) ≤ (nwN ds ds[i].r[j] : Int) by omega)]
                have z : wt1 (nwN ds) m ds[i] ds[i].r[j] = true := decide_eq_true ⟨e1, e2, e3⟩
                rw [z] at ky_
                exact iteT ⟨_, rfl, ky_ _ _ (Same.refl _) rfl⟩
              · rw [decide_eq_false (show ¬ (ds[i].n : Int) ≤ (nwN ds ds[i].r[j] : Int) by omega)]
                have z : wt1 (nwN ds) m ds[i] ds[i].r[j] = false := decide_eq_false fun h => e3 h.2.2
                rw [z] at kn
                exact iteF (kn _ (Same.refl _) rfl)
            · rw [decide_eq_false (show ¬ (m ds[i].r[j] : Int) < (ds[i].n : Int) by omega)]
              have z : wt1 (nwN ds) m ds[i] ds[i].r[j] = false := decide_eq_false fun h => e2 h.2.1
              rw [z] at kn
              exact iteF ⟨_, rfl, iteF (kn _ (Same.refl _) rfl)⟩
        · intro H5 s5 hR
          rw [ln, sel_bool] at hR
          have lf := List.length_filter_le (wt1 (nwN ds) m ds[i]) ds[i].r
          have lfv : (numsV (ds[i].r.filter (wt1 (nwN ds) m ds[i]))).length = (ds[i].r.filter (wt1 (nwN ds) m ds[i])).length := List.length_map _
          refine ⟨_, rfl, .inl ⟨rfl, _, SqL.of (s5 _ _ hys)⟩, _, rfl, D, rfl, ⟨_, SqL.of hR⟩, fun D2 hD2 => ?_⟩
          refine lc_rel (walk_list (K := K) (a := D) (xs := numsV (ds[i].r.filter (wt1 (nwN ds) m ds[i])))) (fun _ => true) (fun j y G => IntsAt G [(((ds[i].r.filter (wt1 (nwN ds) m ds[i])).getD j 0 : Nat) : Int), (ds[i].p : Int), (ds[i].n : Int)] y) (fun j y G G' s1 h => h.same s1) (by omega) hD2 (fun G s6 => SqL.of (s6 _ _ hR)) ?_ ?_
          · rintro j x G3 G4 Qy Qn hj s6 ⟨acc, hacc⟩ ⟨rfl, hv2⟩ ky_ kn
            have lj : j < (ds[i].r.filter (wt1 (nwN ds) m ds[i])).length := by omega
            unfold numsV at hv2
            rw [List.getElem?_map, List.getElem?_eq_getElem lj] at hv2
            obtain rfl := Option.some.inj hv2
            refine ⟨rfl, _, rfl, _, rfl, _, rfl, (by show 3 ≤ sizeLine; omega), fun T hT => ky_ _ _ rfl (Same.updf hT) ⟨T, rfl, ?_⟩⟩
            rw [off_at (ne_of_none hacc hT).symm, upd_same, List.getD_eq_getElem?_getD, List.getElem?_eq_getElem lj]
            rfl
          · rintro G3 zs s6 hzs pz
            rw [lfv, filter_true] at pz
            have lz := paired_len pz
            rw [List.length_range] at lz
            have s56 := s5.trans s6
            have hL6 := s56 _ _ hys
            refine ⟨L, D2, ys, zs, rfl, rfl, hL6, hzs, by omega, ?_⟩
            have nD2L : D2 ≠ L := (ne_of_none (s5 _ _ hys) hD2).symm
            refine ⟨fun c o e => ?_, ?_, ys ++ zs, _, _, _, _, _, upd_same, ?_, rfl⟩
            · rw [upd_ne (ne_of_none e nL)]
              exact s56 _ _ (sG _ _ e)
            · rw [upd_ne nLq]
              exact s56 _ _ hn
            · rw [off_upd]
              refine paired_app (paired_mono (fun t y h => h.same (off_same L s56)) py) ?_
              have em : ((ds[i].r.filter (wt1 (nwN ds) m ds[i])).map fun r : Nat => [(r : Int), (ds[i].p : Int), (ds[i].n : Int)]) = (List.range (ds[i].r.filter (wt1 (nwN ds) m ds[i])).length).map fun j => [(((ds[i].r.filter (wt1 (nwN ds) m ds[i])).getD j 0 : Nat) : Int), (ds[i].p : Int), (ds[i].n : Int)] := by
                refine List.ext_getElem (by simp) fun j h1 h2 => ?_
                have hj : j < (ds[i].r.filter (wt1 (nwN ds) m ds[i])).length := by simpa using h1
                simp [hj]
              rw [em]
              refine paired_map (paired_mono (fun j y h => ?_) pz)
              obtain ⟨T, e, hT⟩ := h
              refine ⟨T, e, ?_⟩
              rw [off_at (fun z => by
                rw [z, off_at nD2L.symm, hL6] at hT
                cases hT)]
              exact off_le _ _ _ _ hT
      · rw [decide_eq_false (show ¬ (m ds[i].p : Int) < (ds[i].n : Int) by omega), if_neg c, List.append_nil]
        exact iteF ⟨sG, hn, ys, _, _, _, _, _, hys, py, rfl⟩
    · rintro σ G ⟨sG, hn, ys, v4, v5, v6, v7, v8, hys, py, rfl⟩
      rw [lx, List.take_length] at py
      refine ⟨_, rfl, L, ys, _, rfl, SqL.of hys, paired_mono (fun t y h => h.same (off_le _ _)) py, wt_ne, fun p zs hp pz => ?_⟩
      have s3 := Same.updf (o := .lst zs) hp
      exact k p zs _ (sG.trans s3) (none_back sG hp) upd_same (paired_mono (fun t y h => h.same s3) pz)
end
end K27
set_option Elab.async false
set_option linter.all false
set_option maxRecDepth 100000
set_option maxHeartbeats 8000000
namespace K27
open PySem PySem.Spec PyProof.Rows L2 KB LiI
/-- pages that are not at their newest -/
def offL (ds : List Dd) (m : Nat → Nat) : List Nat := (pgs ds).filter fun p => !decide (m p = nwN ds p)
def spWaits : Sp := fun vs H Q _ => ∃ (a b : Addr) (ds : List Dd) (ks : List Nat) (m : Nat → Nat), vs = [.ref a, .ref b] ∧ LogAt H a ds ∧ Lg ds ∧ MkAt H b ks m ∧ ks.Perm (pgs ds) ∧ Mk ds m ∧ Rt ds m ∧
  ∀ q ys H', Same H H' → H q = none → H' q = some (.lst ys) → Paired (IntsAt H') (sortT (wtR ds m)) ys → Q (.ref q) H'
def spOffP : Sp := fun vs H Q _ => ∃ (a b : Addr) (ds : List Dd) (ks : List Nat) (m : Nat → Nat), vs = [.ref a, .ref b] ∧ LogAt H a ds ∧ Lg ds ∧ MkAt H b ks m ∧ ks.Perm (pgs ds) ∧
  ∀ q H', Same H H' → H q = none → H' q = some (.lst (numsV (offL ds m))) → Q (.ref q) H'
/-- whether a page waits -/
def waitsB (ds : List Dd) (m : Nat → Nat) (p : Nat) : Bool := (wtR ds m).any fun t => decide (t.head? = some (p : Int))
def frL (ds : List Dd) (m : Nat → Nat) : List Nat := (offL ds m).filter fun p => !waitsB ds m p
def spFreeP : Sp := fun vs H Q _ => ∃ (a b : Addr) (ds : List Dd) (ks : List Nat) (m : Nat → Nat), vs = [.ref a, .ref b] ∧ LogAt H a ds ∧ Lg ds ∧ MkAt H b ks m ∧ ks.Perm (pgs ds) ∧ Mk ds m ∧ Rt ds m ∧
  ∀ q H', Same H H' → H q = none → H' q = some (.lst (numsV (frL ds m))) → Q (.ref q) H'
/-- lists of pages for the pages ps -/
structure LstsAt (G : Hp) (q : Addr) (ps : List Nat) (L : Nat → List Nat) (at_ : Nat → Addr) : Prop where
  d : G q = some (.dK (dV ps fun p => .ref (at_ p)))
  l : ∀ p ∈ ps, G (at_ p) = some (.lst (numsV (L p)))
  inj : ∀ p ∈ ps, ∀ p' ∈ ps, at_ p = at_ p' → p = p'
theorem LstsAt.ne {G : Hp} {q : Addr} {ps : List Nat} {L : Nat → List Nat} {at_ : Nat → Addr} (h : LstsAt G q ps L at_) {p : Nat} (hp : p ∈ ps) : at_ p ≠ q := fun z => by
  have := h.l p hp
  rw [z, h.d] at this
  cases this
def stepW (L : Nat → List Nat) (t : List Int) : Nat → List Nat := fun p => match t with
  | [r, o, _] => if (p : Int) = r then (if o.toNat ∈ L p then L p else L p ++ [o.toNat]) else L p
  | _ => L p
def wfL (ts : List (List Int)) : Nat → List Nat := ts.foldl stepW fun _ => []
theorem wfL_snoc (ts : List (List Int)) (t : List Int) : wfL (ts ++ [t]) = stepW (wfL ts) t := by
  unfold wfL
  rw [List.foldl_append]
  rfl
theorem stepW_len (L : Nat → List Nat) (t : List Int) (p : Nat) : (stepW L t p).length ≤ (L p).length + 1 := by
  unfold stepW
  split
  · split
    · split
      · omega
      · simp
    · omega
  · omega
theorem wfL_len (p : Nat) : ∀ (ts : List (List Int)), (wfL ts p).length ≤ ts.length := by
  intro ts
  induction h : ts.length generalizing ts with
  | zero =>
    rw [List.length_eq_zero_iff.mp h]
    simp [wfL]
  | succ n ih =>
    have e : ts ≠ [] := fun z => by
      rw [z] at h
      cases h
    rw [← List.dropLast_concat_getLast e, wfL_snoc]
    have h1 := ih ts.dropLast (by rw [List.length_dropLast]; omega)
    have := stepW_len (wfL ts.dropLast) (ts.getLast e) p
    omega
theorem wfL_nil {ts : List (List Int)} (h3 : ∀ t ∈ ts, t.length = 3) (p : Nat) : (wfL ts p).isEmpty = !ts.any fun t => decide (t.head? = some (p : Int)) := by
  induction h : ts.length generalizing ts with
  | zero =>
    rw [List.length_eq_zero_iff.mp h]
    rfl
  | succ n ih0 =>
    have e : ts ≠ [] := fun z => by
      rw [z] at h
      cases h
    have ih := ih0 (ts := ts.dropLast) (fun t ht => h3 t (List.dropLast_subset _ ht)) (by rw [List.length_dropLast]; omega)
    have lt := h3 _ (List.getLast_mem e)
    rw [← List.dropLast_concat_getLast e, wfL_snoc, List.any_append]
    generalize ts.getLast e = t at *
    generalize ts.dropLast = ts at *
    match t, lt with
    | [r, o, n], _ =>
      show (if (p : Int) = r then (if o.toNat ∈ wfL ts p then wfL ts p else wfL ts p ++ [o.toNat]) else wfL ts p).isEmpty = !((ts.any _) || [[r, o, n]].any _)
      by_cases e : (p : Int) = r
      · rw [if_pos e]
        have e1 : ([[r, o, n]].any fun t => decide (t.head? = some (p : Int))) = true := by simp [e]
        rw [e1, Bool.or_true]
        split
        · next h =>
          cases hw : wfL ts p with
          | nil =>
            rw [hw] at h
            cases h
          | cons x l => rfl
        · simp
      · rw [if_neg e]
        have e1 : ([[r, o, n]].any fun t => decide (t.head? = some (p : Int))) = false := by
          simp
          exact fun h => e h.symm
        rw [e1, Bool.or_false]
        exact ih
theorem wt_mem {nw : Nat → Nat} {ds : List Dd} {m : Nat → Nat} {t : List Int} : t ∈ wtG nw ds m ↔ ∃ d ∈ ds, m d.p < d.n ∧ ∃ r ∈ d.r, (r ≠ d.p ∧ m r < d.n ∧ d.n ≤ nw r) ∧ t = [(r : Int), (d.p : Int), (d.n : Int)] := by
  unfold wtG
  rw [List.mem_flatMap]
  constructor
  · rintro ⟨d, hd, h⟩
    unfold wtD at h
    split at h
    · next c =>
      obtain ⟨r, hr, rfl⟩ := List.mem_map.mp h
      obtain ⟨h1, h2⟩ := List.mem_filter.mp hr
      exact ⟨d, hd, c, r, h1, of_decide_eq_true h2, rfl⟩
    · cases h
  · rintro ⟨d, hd, c, r, hr, h, rfl⟩
    refine ⟨d, hd, ?_⟩
    unfold wtD
    rw [if_pos c]
    exact List.mem_map.mpr ⟨r, List.mem_filter.mpr ⟨hr, decide_eq_true h⟩, rfl⟩
theorem offL_mem {ds : List Dd} {m : Nat → Nat} {p : Nat} : p ∈ offL ds m ↔ p ∈ pgs ds ∧ m p ≠ nwN ds p := by
  unfold offL
  rw [List.mem_filter]
  simp
theorem offL_nd (ds : List Dd) (m : Nat → Nat) : (offL ds m).Nodup := (pgs_nd ds).filter _
theorem tkn {ps : List Nat} (nd : ps.Nodup) {i : Nat} (h : i < ps.length) : ps[i] ∉ ps.take i := fun mm => by
  obtain ⟨j, lj, e⟩ := List.getElem_of_mem mm
  rw [List.getElem_take] at e
  rw [List.length_take] at lj
  exact List.pairwise_iff_getElem.mp nd j i (by omega) h (by omega) e
theorem tks {ps : List Nat} {i : Nat} (h : i < ps.length) : ps.take (i + 1) = ps.take i ++ [ps[i]] := by
  rw [List.take_succ, List.getElem?_eq_getElem h]
  rfl
section
variable {P : Program} {w : World} {K : PySem.W.Frag} {mg : Str → Option Value} {base : Heap}
abbrev s_off_pages : Stmt := top 30
abbrev N_off_pages : List Str := ["deeds", "stamps", "page", "stamp"]
theorem sc_off_pages : FnScope N_off_pages ["deeds", "stamps"] (defScope s_off_pages) := ⟨rfl, rfl, rfl, by decide +kernel, rfl, by decide +kernel, by decide +kernel⟩
theorem ok_off_pages {f : Addr} {fd : FuncData} (F : FnP K "off_pages" s_off_pages f fd) (Z : FreeS mg)
    {f_newest_stamps : Addr} {d_newest_stamps : FuncData} (g_newest_stamps : mg "newest_stamps" = some (.ref f_newest_stamps)) (F_newest_stamps : FnP K "newest_stamps" s_newest_stamps f_newest_stamps d_newest_stamps) (G_newest_stamps : FnOk P w K mg base CX0 3 f_newest_stamps d_newest_stamps ["deeds"] spNewSt) :
    FnOk P w K mg base CX0 4 f fd ["deeds", "stamps"] spOffP := by
  have b_newest_stamps : Binds K d_newest_stamps ["deeds"] [] := F_newest_stamps.bindsN fun _ _ _ _ _ _ us hl => match us, hl with | [_], _ => rfl
  refine F.ok sc_off_pages (fun vs H Q E h => ?_) (fun cdv A outer s H vs Q E hr h => ?_)
  · obtain ⟨a, b, ds, ks, m, rfl, _⟩ := h
    rfl
  · obtain ⟨a, b, ds, ks, m, rfl, hL, hG, hb, pk, k⟩ := h
    have pl := hG.pl
    have sl : (3000 : Nat) ≤ sizeLine := by decide
    have hu65 : _ + 65 < cLine := Nat.lt_of_le_of_lt (Nat.add_le_add_left (by decide : 65 ≤ 200) _) (Nat.lt_of_le_of_lt (Nat.add_le_add_right (Nat.le_add_right _ _) _) hr.un)
    have hu := Nat.lt_of_le_of_lt (Nat.add_le_add_left (by decide : 1 ≤ 65) _) hu65
    have nd := sc_off_pages.nd
    refine ⟨_, PSs.nox (pss_one (ps_ret (pe_lc (own := [("page", 2), ("stamp", 3)]) (g := gTup K 2 (gCons (gName 2) (gCons (gName 3) (gNil)))) (tt := tTest (tOp rNe (tDGet (tVar 1) (tVar 2)) (tVar 3))) (te := tVar 2) (by rfl) nd (pi_items (pe_lk (pe_call G_newest_stamps (hr.mono (by decide)) rfl g_newest_stamps F_newest_stamps.kp b_newest_stamps .nil pass0 (pa_cons (pv 0) (pa_nil)))))
          (blkOk_by (own := [("page", 2), ("stamp", 3)]) (N := N_off_pages) (sc := defScope s_off_pages) (by decide +kernel)) (fun _ _ _ _ _ => pg_tup rfl (pgs_cons (pg_name (i := 2) nd rfl (Or.inl rfl)) (pgs_cons (pg_name (i := 3) nd rfl (Or.inl rfl)) (pgs_nil)))) (fun _ _ _ _ _ => pts_one (pt_cmpR op_ne (pe_dget hu (pv 1) (pv 2) (fun _ _ => rfl)) (pv 3) (nomark _)))
          (fun _ _ _ _ _ => pv 2)))), ?_⟩
    refine ⟨_, rfl, a, ds, rfl, hL, hG, fun q G s1 nq hq => ⟨q, _, rfl, hq, trivial, fun od => ⟨q, od, _, rfl, upd_same, fun D hD => ?_⟩⟩⟩
    have fq : upd G q (.frz od (.dK (mV (pgs ds) (nwN ds)))) q = some (.frz od (.dK (mV (pgs ds) (nwN ds)))) := upd_same
    have fH : Same H (upd G q (.frz od (.dK (mV (pgs ds) (nwN ds))))) := fun c o e => by
      rw [upd_ne (ne_of_none e nq)]
      exact s1 _ _ e
    generalize upd G q (.frz od (.dK (mV (pgs ds) (nwN ds)))) = F at *
    have lk : (mV (pgs ds) (nwN ds)).length = (pgs ds).length := dV_len _ _
    refine lc_sel (n := (mV (pgs ds) (nwN ds)).length) (walk_items (d := q) (o := od) (kvs := mV (pgs ds) (nwN ds))) (fun i => ((pgs ds)[i]?).bind fun p => if (!decide (m p = nwN ds p)) = true then some (V.int (p : Int)) else none) (by omega) hD (fun G s2 => s2 _ _ fq) ?_ ?_
    · rintro i x G2 G3 Qy Qn hi s2 ⟨T, y1, y2, rfl, nT, rfl, e1, e2⟩ ky_ kn
      have li : i < (pgs ds).length := by omega
      have ei : (mV (pgs ds) (nwN ds))[i]? = some (ky (pgs ds)[i], .int (nwN ds (pgs ds)[i] : Int)) := by
        unfold mV dV
        rw [List.getElem?_map, List.getElem?_eq_getElem li]
        rfl
      dsimp only at e1 e2
      rw [ei] at e1 e2
      obtain rfl := Option.some.inj e1
      obtain rfl := Option.some.inj e2
      rw [List.getElem?_eq_getElem li, Option.bind_some] at ky_ kn
      have mp := List.getElem_mem li
      have sT := Same.updf (o := .tup [V.int ((pgs ds)[i] : Int), V.int (nwN ds (pgs ds)[i] : Int)]) nT
      have db : DGet (upd G2 T (.tup [V.int ((pgs ds)[i] : Int), V.int (nwN ds (pgs ds)[i] : Int)])) b (.int ((pgs ds)[i] : Int)) (some (.int (m (pgs ds)[i] : Int))) := by
        have := DGet.k (k := ky (pgs ds)[i]) (sT _ _ (s2 _ _ (fH _ _ hb)))
        rw [mV_val (pk.mem_iff.mpr mp)] at this
        exact this
      refine ⟨T, [_, _], rfl, .inl (.inl upd_same), rfl, _, [_], rfl, _, [], rfl, rfl, rfl, _, rfl, _, rfl, b, _, rfl, db, _, rfl, rfl, _, rfl, ?_⟩
      have ed : decide (V.int (m (pgs ds)[i] : Int) = V.int (nwN ds (pgs ds)[i] : Int)) = decide (m (pgs ds)[i] = nwN ds (pgs ds)[i]) := by
        rw [Bool.eq_iff_iff]
        simp
        omega
      rw [ed]
      cases hc : !decide (m (pgs ds)[i] = nwN ds (pgs ds)[i]) with
      | true =>
        rw [hc] at ky_
        exact iteT ⟨_, rfl, ky_ _ _ sT rfl⟩
      | false =>
        rw [hc] at kn
        exact iteF (kn _ sT rfl)
    · intro G2 s2 hR
      rw [lk, sel_bool] at hR
      exact k D G2 (fH.trans s2) (none_back fH hD) hR
end
end K27
set_option Elab.async false
set_option linter.all false
set_option maxRecDepth 100000
set_option maxHeartbeats 8000000
namespace K27
open PySem PySem.Spec PyProof.Rows L2 KB LiI
def spWaitF : Sp := fun vs H Q _ => ∃ (a b : Addr) (ds : List Dd) (ks : List Nat) (m : Nat → Nat), vs = [.ref a, .ref b] ∧ LogAt H a ds ∧ Lg ds ∧ MkAt H b ks m ∧ ks.Perm (pgs ds) ∧
  ∀ q H' at_, Same H H' → H q = none → LstsAt H' q (offL ds m) (wfL (sortT (wtR ds m))) at_ → Q (.ref q) H'
theorem wt_three {ds : List Dd} {m : Nat → Nat} {t : List Int} (h : t ∈ sortT (wtR ds m)) : ∃ r o n : Nat, t = [(r : Int), (o : Int), (n : Int)] ∧ r ∈ offL ds m := by
  obtain ⟨d, hd, c, r, hr, ⟨h1, h2, h3⟩, rfl⟩ := wt_mem.mp ((sortT_perm _).mem_iff.mp h)
  exact ⟨r, d.p, d.n, rfl, offL_mem.mpr ⟨pgs_mem.mpr ⟨d, hd, hr⟩, by omega⟩⟩
theorem wt_len {ds : List Dd} (hG : Lg ds) (m : Nat → Nat) : (sortT (wtR ds m)).length ≤ 1200 := by
  rw [(sortT_perm _).length_eq]
  have h1 := wtG_len (nw := nwN ds) (fun d hd => (hG.ok d hd).len) m
  have h2 := hG.len
  unfold wtR
  omega
section
variable {P : Program} {w : World} {K : PySem.W.Frag} {mg : Str → Option Value} {base : Heap}
abbrev s_waited_for : Stmt := top 31
abbrev N_waited_for : List Str := ["deeds", "stamps", "page", "found", "other", "_"]
theorem sc_waited_for : FnScope N_waited_for ["deeds", "stamps"] (defScope s_waited_for) := ⟨rfl, rfl, rfl, by decide +kernel, rfl, by decide +kernel, by decide +kernel⟩
theorem ok_waited_for {f : Addr} {fd : FuncData} (F : FnP K "waited_for" s_waited_for f fd) (Z : FreeS mg)
    {f_all_waits : Addr} {d_all_waits : FuncData} (g_all_waits : mg "all_waits" = some (.ref f_all_waits)) (F_all_waits : FnP K "all_waits" s_all_waits f_all_waits d_all_waits) (G_all_waits : FnOk P w K mg base CX0 4 f_all_waits d_all_waits ["deeds", "stamps"] spAllW)
    {f_off_pages : Addr} {d_off_pages : FuncData} (g_off_pages : mg "off_pages" = some (.ref f_off_pages)) (F_off_pages : FnP K "off_pages" s_off_pages f_off_pages d_off_pages) (G_off_pages : FnOk P w K mg base CX0 4 f_off_pages d_off_pages ["deeds", "stamps"] spOffP) :
    FnOk P w K mg base CX0 5 f fd ["deeds", "stamps"] spWaitF := by
  have b_all_waits : Binds K d_all_waits ["deeds", "stamps"] [] := F_all_waits.bindsN fun _ _ _ _ _ _ us hl => match us, hl with | [_, _], _ => rfl
  have b_off_pages : Binds K d_off_pages ["deeds", "stamps"] [] := F_off_pages.bindsN fun _ _ _ _ _ _ us hl => match us, hl with | [_, _], _ => rfl
  refine F.ok sc_waited_for (fun vs H Q E h => ?_) (fun cdv A outer s H vs Q E hr h => ?_)
  · obtain ⟨a, b, ds, ks, m, rfl, _⟩ := h
    rfl
  · obtain ⟨a, b, ds, ks, m, rfl, hL, hG, hb, pk, k⟩ := h
    have pl := hG.pl
    have sl : (3000 : Nat) ≤ sizeLine := by decide
    have hu65 : _ + 65 < cLine := Nat.lt_of_le_of_lt (Nat.add_le_add_left (by decide : 65 ≤ 200) _) (Nat.lt_of_le_of_lt (Nat.add_le_add_right (Nat.le_add_right _ _) _) hr.un)
    have hu := Nat.lt_of_le_of_lt (Nat.add_le_add_left (by decide : 1 ≤ 65) _) hu65
    have nd := sc_waited_for.nd
    refine ⟨_, PSs.nox (pss_cons (ps_setDc (i := 3) (own := [("page", 2)]) (g := gName 2) (tt := tYes) (tk := tVar 2) (tv := tLst (tNil)) rfl nd rfl rfl rfl (pi_list (pe_call G_off_pages (hr.mono (by decide)) rfl g_off_pages F_off_pages.kp b_off_pages .nil pass0 (pa_cons (pv 0) (pa_cons (pv 1) (pa_nil))))) (blkOk_by (own := [("page", 2)]) (N := N_waited_for) (sc := defScope s_waited_for) (by decide +kernel)) (fun _ _ _ _ _ => pg_name (i := 2) nd rfl (Or.inl rfl)) (fun _ _ _ _ _ => pts_nil) (fun _ _ _ _ _ => pv 2) (fun _ _ _ _ _ => pe_lst (pa_nil)))
      (pss_cons (ps_for PassesOwn.never rfl (pi_list (pe_call G_all_waits (hr.mono (by decide)) rfl g_all_waits F_all_waits.kp b_all_waits .nil pass0 (pa_cons (pv 0) (pa_cons (pv 1) (pa_nil))))) (pg_tup rfl (pgs_cons (pg_name (i := 2) nd rfl (Or.inl rfl)) (pgs_cons (pg_name (i := 4) nd rfl (Or.inl rfl)) (pgs_cons (pg_name (i := 5) nd rfl (Or.inl rfl)) (pgs_nil)))))
        (pss_one (ps_if (pt_cmpR op_notIn_seq (pv 4) (pe_dget hu (pv 3) (pv 2) (fun _ _ => rfl)) (by rfl)) (pss_one (ps_expr (pe_bm PySem.F.plainAttrs_list PySem.F.slot_list_append PySem.F.type_list_append mt_append (pe_dget hu (pv 3) (pv 2) (fun _ _ => rfl)) (pa_cons (pv 4) (pa_nil))))) (pss_nil))))
      (pss_one (ps_ret (pv 3))))), ?_⟩
    have lo : (offL ds m).length ≤ 30 := Nat.le_trans (List.length_filter_le _ _) pl
    have ondp := offL_nd ds m
    refine ⟨_, rfl, _, rfl, a, b, ds, ks, m, rfl, hL, hG, hb, pk, fun pq H1 s1 npq hpq => ⟨pq, rfl, ⟨_, SqL.of hpq⟩, fun D hD => ?_⟩⟩
    have nD : D ≠ pq := (ne_of_none hpq hD).symm
    have ln : (numsV (offL ds m)).length = (offL ds m).length := List.length_map _
    refine dc_walk (walk_list (K := K) (a := pq) (xs := numsV (offL ds m))) (fun i G => Same H1 G ∧ ∃ at_ : Nat → Addr, LstsAt G D ((offL ds m).take i) (fun _ => []) at_ ∧ ∀ p ∈ (offL ds m).take i, H1 (at_ p) = none)
      ⟨Same.updf hD, fun _ => D, ⟨upd_same, fun p hp => by simp at hp, fun p hp => by simp at hp⟩, fun p hp => by simp at hp⟩ (fun i G _ hh => SqL.of (hh.1 _ _ hpq)) ?_ ?_
    · rintro i x G G' hi ⟨sG, at_, hN, nw⟩ ⟨rfl, hv⟩
      have li : i < (offL ds m).length := by omega
      unfold numsV at hv
      rw [List.getElem?_map, List.getElem?_eq_getElem li] at hv
      obtain rfl := Option.some.inj hv
      have np := tkn ondp li
      have nep : ∀ p ∈ (offL ds m).take i, ¬ p = (offL ds m)[i] := fun p hp z => np (by rw [← z]; exact hp)
      refine ⟨rfl, _, rfl, Nat.zero_le _, fun l hl => ?_⟩
      have nl : l ≠ D := (ne_of_none hN.d hl).symm
      have sl1 : Same G' (upd G' l (.lst [])) := Same.updf hl
      refine ⟨_, ky (offL ds m)[i], rfl, sl1 _ _ hN.d, by rw [dV_len, List.length_take]; omega, ?_⟩
      rw [dV_new np]
      have tk := tks li
      refine ⟨fun b o e => ?_, fun p => if p = (offL ds m)[i] then l else at_ p, ?_, ?_⟩
      · rw [upd_ne (ne_of_none e hD)]
        exact sl1 _ _ (sG _ _ e)
      · rw [tk]
        refine ⟨?_, fun p hp => ?_, fun p hp p' hp' e => ?_⟩
        · rw [upd_same]
          refine congrArg (fun z => some (HO.dK z)) (dV_congr fun p hp => ?_)
          unfold put
          split
          · rfl
          · rfl
        · rcases List.mem_append.mp hp with hp | hp
          · show (upd _ D _) (if p = (offL ds m)[i] then l else at_ p) = _
            rw [if_neg (nep p hp), upd_ne (hN.ne hp)]
            exact sl1 _ _ (hN.l p hp)
          · rw [List.mem_singleton] at hp
            show (upd _ D _) (if p = (offL ds m)[i] then l else at_ p) = _
            rw [if_pos hp, upd_ne nl, upd_same]
            rfl
        · have lo : ∀ z, z ∈ (offL ds m).take i → at_ z ≠ l := fun z hz q => by
            have := hN.l z hz
            rw [q, hl] at this
            cases this
          have e : (if p = (offL ds m)[i] then l else at_ p) = (if p' = (offL ds m)[i] then l else at_ p') := e
          rcases List.mem_append.mp hp with hp | hp <;> rcases List.mem_append.mp hp' with hp' | hp'
          · rw [if_neg (nep p hp), if_neg (nep p' hp')] at e
            exact hN.inj p hp p' hp' e
          · rw [List.mem_singleton] at hp'
            rw [if_neg (nep p hp), if_pos hp'] at e
            exact absurd e (lo p hp)
          · rw [List.mem_singleton] at hp
            rw [if_pos hp, if_neg (nep p' hp')] at e
            exact absurd e.symm (lo p' hp')
          · rw [List.mem_singleton] at hp hp'
            rw [hp, hp']
      · rw [tk]
        intro p hp
        rcases List.mem_append.mp hp with hp | hp
        · show H1 (if p = (offL ds m)[i] then l else at_ p) = none
          rw [if_neg (nep p hp)]
          exact nw p hp
        · rw [List.mem_singleton] at hp
          show H1 (if p = (offL ds m)[i] then l else at_ p) = none
          rw [if_pos hp]
          exact none_back sG hl
    · rintro G ⟨sG, at_, hN, nw⟩
      rw [ln, List.take_length] at hN nw
      have sHG := s1.trans sG
      have HD : H D = none := none_back s1 hD
      refine ⟨_, rfl, _, rfl, a, b, ds, ks, m, rfl, hL.same sHG, hG, sHG _ _ hb, pk, fun wq ys G2 s2 nwq hwq pw => ?_⟩
      refine ⟨wq, rfl, ⟨_, SqL.of hwq⟩, ?_⟩
      have lw := paired_len pw
      have l12 := wt_len hG m
      refine for_it (walk_list (K := K) (a := wq) (xs := ys)) (fun i σ G3 => Same H G3 ∧ (∀ c o, c ≠ D → (∀ p ∈ offL ds m, c ≠ at_ p) → G2 c = some o → G3 c = some o) ∧ LstsAt G3 D (offL ds m) (wfL ((sortT (wtR ds m)).take i)) at_ ∧ ∃ v3 v4 v5, σ = [some (.ref a), some (.ref b), v3, some (.ref D), v4, v5])
        ⟨sHG.trans s2, fun c o _ _ e => e, ⟨s2 _ _ hN.d, fun p hp => s2 _ _ (hN.l p hp), hN.inj⟩, _, _, _, rfl⟩ (fun i σ G3 _ hh => SqL.of (hh.2.1 _ _ (fun z => by
          rw [z, hN.d] at nwq
          cases nwq) (fun p hp z => by
          rw [z, hN.l p hp] at nwq
          cases nwq) hwq)) ?_ ?_
      · rintro i x σ G3 G4 hi ⟨s3, keep, h3, v3, v4, v5, rfl⟩ ⟨rfl, hv⟩
        obtain ⟨t, et, T, rfl, hT⟩ := paired_get2 pw hv
        obtain ⟨r, o, n, rfl, mr⟩ := wt_three (List.mem_of_getElem? et)
        have etk : (sortT (wtR ds m)).take (i + 1) = (sortT (wtR ds m)).take i ++ [[(r : Int), (o : Int), (n : Int)]] := by
          rw [List.take_succ, et]
          rfl
        have nTD : T ≠ D := fun z => by
          have := s2 _ _ hN.d
          rw [z, this] at hT
          cases hT
        have hT4 := keep T _ nTD (fun p hp z => by
          have := s2 _ _ (hN.l p hp)
          rw [z, this] at hT
          cases hT) hT
        have gl := h3.l r mr
        have nl := wfL_len r ((sortT (wtR ds m)).take i)
        rw [List.length_take] at nl
        have dg : DGet G4 D (.int (r : Int)) (some (.ref (at_ r))) := by
          have := DGet.k (k := ky r) h3.d
          rw [dV_val mr] at this
          exact this
        refine ⟨T, [_, _, _], rfl, .inl (.inl hT4), rfl, _, [_, _], rfl, _, [_], rfl, _, [], rfl, rfl, ?_⟩
        refine ⟨_, rfl, _, rfl, _, rfl, D, _, rfl, dg, at_ r, _, rfl, .inl (SqL.of gl), rfl, flat_nums2 _, _, rfl, ?_⟩
        rw [inV_nums2, etk]
        by_cases e : o ∈ wfL ((sortT (wtR ds m)).take i) r
        · rw [decide_eq_true e]
          refine iteF ⟨s3, keep, ⟨h3.d, fun p hp => ?_, h3.inj⟩, _, _, _, rfl⟩
          rw [h3.l p hp, wfL_snoc]
          have z : stepW (wfL ((sortT (wtR ds m)).take i)) [(r : Int), (o : Int), (n : Int)] p = wfL ((sortT (wtR ds m)).take i) p := by
            show (if (p : Int) = (r : Int) then (if (o : Int).toNat ∈ _ then _ else _) else _) = _
            split
            · next z =>
              have : p = r := by omega
              subst this
              rw [Int.toNat_natCast, if_pos e]
            · rfl
          rw [z]
        · rw [decide_eq_false e]
          refine iteT ⟨_, rfl, _, rfl, D, _, rfl, dg, .inl ⟨rfl, _, SqL.of gl⟩, _, rfl, _, _, _, rfl, rfl, gl, by unfold numsV; rw [List.length_map]; omega, ?_⟩
          have nH : H (at_ r) = none := none_back s1 (nw r mr)
          refine ⟨fun c o' e' => ?_, fun c o' n1 n2 e' => ?_, ⟨?_, fun p hp => ?_, h3.inj⟩, _, _, _, rfl⟩
          · rw [upd_ne (ne_of_none e' nH)]
            exact s3 _ _ e'
          · rw [upd_ne (n2 r mr)]
            exact keep c o' n1 n2 e'
          · rw [upd_ne (h3.ne mr).symm]
            exact h3.d
          · rw [wfL_snoc]
            have z : stepW (wfL ((sortT (wtR ds m)).take i)) [(r : Int), (o : Int), (n : Int)] p = if p = r then wfL ((sortT (wtR ds m)).take i) p ++ [o] else wfL ((sortT (wtR ds m)).take i) p := by
              show (if (p : Int) = (r : Int) then (if (o : Int).toNat ∈ _ then _ else _) else _) = _
              by_cases z : p = r
              · subst z
                rw [if_pos rfl, if_pos rfl, Int.toNat_natCast, if_neg e]
              · rw [if_neg z, if_neg (by omega)]
            rw [z]
            by_cases z : p = r
            · subst z
              rw [if_pos rfl, upd_same, numsV_snoc]
            · rw [if_neg z, upd_ne fun y => z (h3.inj _ hp _ mr y)]
              exact h3.l p hp
      · rintro σ G3 ⟨s3, keep, h3, v3, v4, v5, rfl⟩
        rw [lw.symm, List.take_length] at h3
        exact ⟨_, rfl, k D G3 at_ s3 HD h3⟩
end
end K27
set_option Elab.async false
set_option linter.all false
set_option maxRecDepth 100000
set_option maxHeartbeats 8000000
namespace K27
open PySem PySem.Spec PyProof.Rows L2 KB LiI
/-! Waits as a relation; layers. Nothing of the program. -/
/-- page p waits for page q -/
def W (ds : List Dd) (m : Nat → Nat) (p q : Nat) : Prop := ∃ d ∈ ds, d.p = q ∧ m q < d.n ∧ p ∈ d.r ∧ p ≠ q ∧ m p < d.n ∧ d.n ≤ nwN ds p
/-- what a page waits for -/
abbrev wq (ds : List Dd) (m : Nat → Nat) : Nat → List Nat := wfL (sortT (wtR ds m))
theorem wfL_mem {p q : Nat} : ∀ {ts : List (List Int)}, (∀ t ∈ ts, ∃ r o n : Nat, t = [(r : Int), (o : Int), (n : Int)]) → (q ∈ wfL ts p ↔ ∃ n : Nat, [(p : Int), (q : Int), (n : Int)] ∈ ts) := by
  intro ts
  induction h : ts.length generalizing ts with
  | zero =>
    intro _
    rw [List.length_eq_zero_iff.mp h]
    exact ⟨(fun h => nomatch h), (fun ⟨_, h⟩ => nomatch h)⟩
  | succ n ih0 =>
    intro h3
    have e : ts ≠ [] := fun z => by
      rw [z] at h
      cases h
    have ih := ih0 (ts := ts.dropLast) (by rw [List.length_dropLast]; omega) (fun t ht => h3 t (List.dropLast_subset _ ht))
    obtain ⟨r, o, k, et⟩ := h3 _ (List.getLast_mem e)
    rw [← List.dropLast_concat_getLast e, wfL_snoc, et]
    generalize ts.dropLast = ts at *
    show q ∈ (if (p : Int) = (r : Int) then (if (o : Int).toNat ∈ wfL ts p then wfL ts p else wfL ts p ++ [(o : Int).toNat]) else wfL ts p) ↔ _
    rw [Int.toNat_natCast]
    have key : (∃ n : Nat, [(p : Int), (q : Int), (n : Int)] ∈ ts ++ [[(r : Int), (o : Int), (k : Int)]]) ↔ (∃ n : Nat, [(p : Int), (q : Int), (n : Int)] ∈ ts) ∨ (p = r ∧ q = o) := by
      constructor
      · rintro ⟨n, h⟩
        rcases List.mem_append.mp h with h | h
        · exact .inl ⟨n, h⟩
        · have := List.mem_singleton.mp h
          simp at this
          exact .inr ⟨by omega, by omega⟩
      · rintro (⟨n, h⟩ | ⟨rfl, rfl⟩)
        · exact ⟨n, List.mem_append_left _ h⟩
        · exact ⟨k, List.mem_append_right _ List.mem_cons_self⟩
    rw [key, ← ih]
    by_cases e1 : p = r
    · subst e1
      rw [if_pos rfl]
      by_cases e2 : o ∈ wfL ts p
      · rw [if_pos e2]
        constructor
        · exact .inl
        · rintro (h | ⟨_, rfl⟩)
          · exact h
          · exact e2
      · rw [if_neg e2, List.mem_append, List.mem_singleton]
        constructor
        · rintro (h | h)
          · exact .inl h
          · exact .inr ⟨rfl, h⟩
        · rintro (h | ⟨_, h⟩)
          · exact .inl h
          · exact .inr h
    · rw [if_neg (fun z => e1 (by omega))]
      exact ⟨.inl, fun h => h.elim id fun h => absurd h.1 e1⟩
theorem wq_mem {ds : List Dd} {m : Nat → Nat} {p q : Nat} : q ∈ wq ds m p ↔ W ds m p q := by
  unfold wq
  rw [wfL_mem (fun t ht => by
    obtain ⟨r, o, n, e, _⟩ := wt_three ht
    exact ⟨r, o, n, e⟩)]
  constructor
  · rintro ⟨n, h⟩
    obtain ⟨d, hd, c, r, hr, ⟨h1, h2, h3⟩, e⟩ := wt_mem.mp ((sortT_perm _).mem_iff.mp h)
    simp at e
    obtain ⟨e1, e2, e3⟩ := e
    have e1 : p = r := by omega
    have e2 : q = d.p := by omega
    subst e1 e2
    exact ⟨d, hd, rfl, c, hr, h1, h2, h3⟩
  · rintro ⟨d, hd, rfl, c, hr, h1, h2, h3⟩
    exact ⟨d.n, (sortT_perm _).mem_iff.mpr (wt_mem.mpr ⟨d, hd, c, p, hr, ⟨h1, h2, h3⟩, rfl⟩)⟩
theorem waits_w {ds : List Dd} {m : Nat → Nat} {p : Nat} : waitsB ds m p = true ↔ ∃ q, W ds m p q := by
  unfold waitsB
  rw [List.any_eq_true]
  constructor
  · rintro ⟨t, ht, h⟩
    obtain ⟨d, hd, c, r, hr, ⟨h1, h2, h3⟩, rfl⟩ := wt_mem.mp ht
    have e : r = p := by
      have := of_decide_eq_true h
      simp at this
      omega
    subst e
    exact ⟨d.p, d, hd, rfl, c, hr, h1, h2, h3⟩
  · rintro ⟨q, d, hd, rfl, c, hr, h1, h2, h3⟩
    exact ⟨_, wt_mem.mpr ⟨d, hd, c, p, hr, ⟨h1, h2, h3⟩, rfl⟩, by simp⟩
/-- layers of pages, and what is left over -/
def layF (A : Nat → List Nat) : Nat → List Nat → List (List Nat) × List Nat
  | 0, l => ([], l)
  | k + 1, l => if (l.filter fun p => !(A p).any fun q => decide (q ∈ l)) = [] then ([], l)
    else ((l.filter fun p => !(A p).any fun q => decide (q ∈ l)) :: (layF A k (l.filter fun p => (A p).any fun q => decide (q ∈ l))).1, (layF A k (l.filter fun p => (A p).any fun q => decide (q ∈ l))).2)
/-- the pages that wait for none of l -/
def frF (A : Nat → List Nat) (l : List Nat) : List Nat := l.filter fun p => !(A p).any fun q => decide (q ∈ l)
def rsF (A : Nat → List Nat) (l : List Nat) : List Nat := l.filter fun p => (A p).any fun q => decide (q ∈ l)
theorem fl_len (c : Nat → Bool) (l : List Nat) : (l.filter fun p => !c p).length + (l.filter c).length = l.length := by
  induction l with
  | nil => rfl
  | cons x r ih =>
    rw [List.filter_cons, List.filter_cons, List.length_cons]
    cases h : c x with
    | true =>
      rw [if_pos rfl, if_neg (by simp), List.length_cons]
      omega
    | false =>
      rw [if_pos (show (!false) = true from rfl), if_neg Bool.false_ne_true, List.length_cons]
      omega
theorem fr_rs (A : Nat → List Nat) (l : List Nat) : (frF A l).length + (rsF A l).length = l.length := by
  exact fl_len _ l
theorem lay_succ (A : Nat → List Nat) (k : Nat) (l : List Nat) : layF A (k + 1) l = if frF A l = [] then ([], l) else (frF A l :: (layF A k (rsF A l)).1, (layF A k (rsF A l)).2) := rfl
/-- enough turns: what is left over has no free page -/
theorem lay_end (A : Nat → List Nat) : ∀ (k : Nat) (l : List Nat), l.length ≤ k → frF A (layF A k l).2 = []
  | 0, l, h => by
    rw [List.length_eq_zero_iff.mp (Nat.le_zero.mp h)]
    rfl
  | k + 1, l, h => by
    rw [lay_succ]
    by_cases e : frF A l = []
    · rw [if_pos e]
      exact e
    · rw [if_neg e]
      refine lay_end A k _ ?_
      have := fr_rs A l
      have : 0 < (frF A l).length := List.length_pos_iff.mpr e
      omega
theorem lay_sub (A : Nat → List Nat) : ∀ (k : Nat) (l : List Nat), (∀ p ∈ (layF A k l).2, p ∈ l)
  | 0, l => fun p h => h
  | k + 1, l => by
    rw [lay_succ]
    by_cases e : frF A l = []
    · rw [if_pos e]
      exact fun p h => h
    · rw [if_neg e]
      exact fun p h => (List.mem_filter.mp (lay_sub A k _ p h)).1
/-- with turns enough, more do not matter -/
theorem lay_more (A : Nat → List Nat) : ∀ (k j : Nat) (l : List Nat), l.length ≤ k → l.length ≤ j → layF A k l = layF A j l
  | 0, 0, l, _, _ => rfl
  | 0, j + 1, l, h, _ => by
    rw [List.length_eq_zero_iff.mp (Nat.le_zero.mp h)]
    rfl
  | k + 1, 0, l, _, h => by
    rw [List.length_eq_zero_iff.mp (Nat.le_zero.mp h)]
    rfl
  | k + 1, j + 1, l, h1, h2 => by
    rw [lay_succ, lay_succ]
    by_cases e : frF A l = []
    · rw [if_pos e, if_pos e]
    · have := fr_rs A l
      have : 0 < (frF A l).length := List.length_pos_iff.mpr e
      rw [if_neg e, if_neg e, lay_more A k j _ (by omega) (by omega)]
def lay (A : Nat → List Nat) (l : List Nat) : List (List Nat) × List Nat := layF A l.length l
/-- a lot of pages each of which waits for one of the lot -/
def Bad (R : Nat → Nat → Prop) (T : Nat → Prop) : Prop := (∃ p, T p) ∧ ∀ p, T p → ∃ q, T q ∧ R p q
theorem left_bad {A : Nat → List Nat} {l : List Nat} (h : (lay A l).2 ≠ []) : Bad (fun p q => q ∈ A p) (fun p => p ∈ (lay A l).2) := by
  refine ⟨⟨_, List.head_mem h⟩, fun p hp => ?_⟩
  have e := lay_end A l.length l (Nat.le_refl _)
  unfold lay at hp ⊢
  generalize (layF A l.length l).2 = L at *
  unfold frF at e
  have := List.filter_eq_nil_iff.mp e p hp
  rw [Bool.not_eq_true, Bool.not_eq_false'] at this
  obtain ⟨q, h1, h2⟩ := List.any_eq_true.mp this
  exact ⟨q, of_decide_eq_true h2, h1⟩
theorem bad_stays {A : Nat → List Nat} {T : Nat → Prop} (b : Bad (fun p q => q ∈ A p) T) : ∀ (k : Nat) (l : List Nat), (∀ p, T p → p ∈ l) → ∀ p, T p → p ∈ (layF A k l).2
  | 0, l, h => h
  | k + 1, l, h => by
    rw [lay_succ]
    by_cases e : frF A l = []
    · rw [if_pos e]
      exact h
    · rw [if_neg e]
      refine bad_stays b k _ fun p hp => List.mem_filter.mpr ⟨h p hp, ?_⟩
      obtain ⟨q, h1, h2⟩ := b.2 p hp
      exact List.any_eq_true.mpr ⟨q, h2, decide_eq_true (h q h1)⟩
theorem bad_left {A : Nat → List Nat} {l : List Nat} {T : Nat → Prop} (b : Bad (fun p q => q ∈ A p) T) (h : ∀ p, T p → p ∈ l) : (lay A l).2 ≠ [] := fun z => by
  obtain ⟨p, hp⟩ := b.1
  have := bad_stays b l.length l h p hp
  unfold lay at z
  rw [z] at this
  cases this
/-- layers depend on the lists only through what stands in them -/
theorem lay_congr {A B : Nat → List Nat} : ∀ (k : Nat) (l : List Nat), (∀ p ∈ l, ∀ q ∈ l, q ∈ A p ↔ q ∈ B p) → layF A k l = layF B k l
  | 0, l, _ => rfl
  | k + 1, l, h => by
    have e1 : ∀ p ∈ l, ((A p).any fun q => decide (q ∈ l)) = (B p).any fun q => decide (q ∈ l) := fun p hp => by
      rw [Bool.eq_iff_iff, List.any_eq_true, List.any_eq_true]
      constructor
      · rintro ⟨q, h1, h2⟩
        exact ⟨q, (h p hp q (of_decide_eq_true h2)).mp h1, h2⟩
      · rintro ⟨q, h1, h2⟩
        exact ⟨q, (h p hp q (of_decide_eq_true h2)).mpr h1, h2⟩
    have e2 : frF A l = frF B l := List.filter_congr fun p hp => by rw [e1 p hp]
    have e3 : rsF A l = rsF B l := List.filter_congr fun p hp => e1 p hp
    rw [lay_succ, lay_succ, e2, e3, lay_congr (A := A) (B := B) k (rsF B l) fun p hp q hq => h p (List.mem_filter.mp hp).1 q (List.mem_filter.mp hq).1]
/-- a row of steps -/
inductive Rc (R : Nat → Nat → Prop) : Nat → Nat → Prop where
  | refl (x : Nat) : Rc R x x
  | step {x y z : Nat} : R x y → Rc R y z → Rc R x z
theorem Rc.tail {R : Nat → Nat → Prop} {x y z : Nat} (h : Rc R x y) (r : R y z) : Rc R x z := by
  induction h with
  | refl x => exact .step r (.refl _)
  | step r' _ ih => exact .step r' (ih r)
theorem ring_path {R R' : Nat → Nat → Prop} {P : Nat} (sub : ∀ p q, p ≠ P → (R' p q ↔ R p q)) (noR : ∀ T, ¬ Bad R T) : (∃ T, Bad R' T) ↔ ∃ x, R' P x ∧ Rc R x P := by
  constructor
  · rintro ⟨T, ⟨p0, h0⟩, hT⟩
    refine Classical.byContradiction fun no => ?_
    have no' : ∀ x, R' P x → ¬ Rc R x P := fun x h r => no ⟨x, h, r⟩
    by_cases hP : T P
    · obtain ⟨x, hx, rx⟩ := hT P hP
      refine noR (fun y => T y ∧ ¬ Rc R y P) ⟨⟨x, hx, no' x rx⟩, fun y ⟨hy, ny⟩ => ?_⟩
      have yP : y ≠ P := fun z => ny (z ▸ .refl _)
      obtain ⟨z, hz, rz⟩ := hT y hy
      have r := (sub y z yP).mp rz
      exact ⟨z, ⟨hz, fun c => ny (.step r c)⟩, r⟩
    · refine noR T ⟨⟨p0, h0⟩, fun y hy => ?_⟩
      obtain ⟨z, hz, rz⟩ := hT y hy
      exact ⟨z, hz, (sub y z (fun e => hP (e ▸ hy))).mp rz⟩
  · rintro ⟨x, rx, px⟩
    refine ⟨fun y => Rc R y P, ⟨P, .refl _⟩, fun y hy => ?_⟩
    by_cases yP : y = P
    · subst yP
      exact ⟨x, px, rx⟩
    · cases hy with
      | refl => exact absurd rfl yP
      | step r c => exact ⟨_, c, (sub _ _ yP).mpr r⟩
/-- written lots that leave P out leave the ring -/
theorem ring_stays {R R' R'' : Nat → Nat → Prop} {P : Nat} {S : Nat → Prop} (sub : ∀ p q, p ≠ P → (R' p q ↔ R p q)) (noR : ∀ T, ¬ Bad R T) (nP : ¬ S P) (cl : ∀ p q, S p → R p q → S q) (R2 : ∀ p q, R' p q → ¬ S p → ¬ S q → R'' p q) (h : ∃ T, Bad R' T) : ∃ T, Bad R'' T := by
  obtain ⟨x, rx, px⟩ := (ring_path sub noR).mp h
  have out : ∀ y z, Rc R y z → z = P → ¬ S y := fun y z c => by
    induction c with
    | refl x => exact fun e => e ▸ nP
    | step r _ ih => exact fun e s => ih e (cl _ _ s r)
  have out : ∀ y, Rc R y P → ¬ S y := fun y c => out y P c rfl
  refine ⟨fun y => Rc R y P, ⟨P, .refl _⟩, fun y hy => ?_⟩
  by_cases yP : y = P
  · subst yP
    exact ⟨x, px, R2 _ _ rx (out _ hy) (out _ px)⟩
  · cases hy with
    | refl => exact absurd rfl yP
    | step r c => exact ⟨_, c, R2 _ _ ((sub _ _ yP).mpr r) (out _ (.step r c)) (out _ c)⟩
/-- nothing is left where the only new page has no page that waits for it -/
theorem ring_gone {R R'' : Nat → Nat → Prop} {P : Nat} (noR : ∀ T, ¬ Bad R T) (h1 : ∀ p q, p ≠ P → R'' p q → R p q) (h2 : ∀ p, ¬ R'' p P) : ∀ T, ¬ Bad R'' T := fun T ⟨⟨p0, h0⟩, hT⟩ => by
  obtain ⟨z0, hz0, r0⟩ := hT p0 h0
  refine noR (fun y => T y ∧ y ≠ P) ⟨⟨z0, hz0, fun e => h2 p0 (e ▸ r0)⟩, fun y ⟨hy, yP⟩ => ?_⟩
  obtain ⟨z, hz, rz⟩ := hT y hy
  exact ⟨z, ⟨hz, fun e => h2 y (e ▸ rz)⟩, h1 y z yP rz⟩
end K27
set_option Elab.async false
set_option linter.all false
set_option maxRecDepth 100000
set_option maxHeartbeats 8000000
namespace K27
open PySem PySem.Spec PyProof.Rows L2 KB LiI
/-- no number is above this -/
def Bd (ds : List Dd) : Prop := ∀ d ∈ ds, d.n ≤ 1000000000
def subs : List Nat → List (List Nat)
  | l => l.foldl (fun acc x => acc ++ acc.map (· ++ [x])) [[]]
def spLists : Sp := fun vs H Q _ => ∃ (a : Addr) (l : List Nat), vs = [.ref a] ∧ H a = some (.lst (numsV l)) ∧ l.length ≤ 6 ∧
  ∀ q ys H', Same H H' → H q = none → H' q = some (.lst ys) → (∀ y ∈ ys, ∃ (b : Addr) (s : List Nat), y = .ref b ∧ H' b = some (.lst (numsV s)) ∧ s.length ≤ 6 ∧ ∀ x ∈ s, x ∈ l) → ys.length ≤ 64 → Q (.ref q) H'
/-- right marks, drawn -/
def spRightM : Sp := fun vs H Q _ => ∃ (pu a : Addr) (ds : List Dd) (N : Nat), vs = [.ref pu, .ref a] ∧ Purse H pu N ∧ N ≤ 2 ^ 38 ∧ LogAt (off H pu) a ds ∧ Lg ds ∧ ds.length ≤ 10 ∧ ∀ q m H', But pu H H' → Purse H' pu (N + 30) → H q = none → MkAt H' q (pgs ds) m → Mk ds m → Rt ds m → Q (.ref q) H'
/-- marks with the pages of l written back -/
def wrtM (ds : List Dd) (m : Nat → Nat) (l : List Nat) (p : Nat) : Nat := if p ∈ l then nwN ds p else m p
def spWritten : Sp := fun vs H Q _ => ∃ (a b c : Addr) (ds : List Dd) (ks : List Nat) (m : Nat → Nat) (l : List Nat), vs = [.ref a, .ref b, .ref c] ∧ LogAt H a ds ∧ Lg ds ∧ Bd ds ∧ MkAt H b ks m ∧ ks.Perm (pgs ds) ∧ H c = some (.lst (numsV l)) ∧ l.length ≤ 40 ∧
  ∀ q H', Same H H' → H q = none → MkAt H' q ks (wrtM ds m l) → Q (.ref q) H'
/-- the pages of ks that are not at their newest -/
def offK (ks : List Nat) (ds : List Dd) (m : Nat → Nat) : List Nat := ks.filter fun p => !decide (m p = nwN ds p)
def spBehind : Sp := fun vs H Q _ => ∃ (a b : Addr) (ds : List Dd) (ks : List Nat) (m : Nat → Nat), vs = [.ref a, .ref b] ∧ LogAt H a ds ∧ Lg ds ∧ Bd ds ∧ MkAt H b ks m ∧ ks.Perm (pgs ds) ∧
  ∀ q H', Same H H' → H q = none → H' q = some (.lst (numsV (offK ks ds m))) → Q (.ref q) H'
theorem mk_nw {ds : List Dd} (h : Bd ds) (p : Nat) : mkAt ds 1000000000 p = nwN ds p := by
  unfold mkAt nwN nbp
  have e : (ds.filter fun d => decide (d.p = p ∧ (d.n : Int) ≤ 1000000000)) = ds.filter fun d => decide (d.p = p) := by
    refine List.filter_congr fun d hd => ?_
    have := h d hd
    rw [Bool.eq_iff_iff]
    simp
    omega
  rw [e]
  cases h2 : (ds.filter fun d => decide (d.p = p)).map (·.n) with
  | nil => rfl
  | cons x l => simp [List.getLastD_cons, List.getLast?_cons]
theorem mV_nw {ds : List Dd} (h : Bd ds) : mV (pgs ds) (mkAt ds 1000000000) = mV (pgs ds) (nwN ds) := dV_congr fun p _ => by rw [mk_nw h]
def spWaiting : Sp := fun vs H Q _ => ∃ (a b : Addr) (ds : List Dd) (ks : List Nat) (m : Nat → Nat), vs = [.ref a, .ref b] ∧ LogAt H a ds ∧ Lg ds ∧ Bd ds ∧ MkAt H b ks m ∧ ks.Perm (pgs ds) ∧
  ∀ q ys H', Same H H' → H q = none → H' q = some (.lst ys) → Paired (IntsAt H') (sortT (wtR ds m)) ys → Q (.ref q) H'
/-- the first j pages of a deed -/
def wtJ (nw : Nat → Nat) (m : Nat → Nat) (d : Dd) (j : Nat) : List (List Int) := if m d.p < d.n then ((d.r.take j).filter (wt1 nw m d)).map fun r : Nat => [(r : Int), (d.p : Int), (d.n : Int)] else []
theorem wtJ_snoc {nw : Nat → Nat} {m : Nat → Nat} {d : Dd} {j : Nat} (h : j < d.r.length) : wtJ nw m d (j + 1) = wtJ nw m d j ++ if m d.p < d.n ∧ wt1 nw m d d.r[j] = true then [[(d.r[j] : Int), (d.p : Int), (d.n : Int)]] else [] := by
  unfold wtJ
  rw [tks h, List.filter_append, List.map_append]
  by_cases c : m d.p < d.n
  · rw [if_pos c, if_pos c]
    by_cases z : wt1 nw m d d.r[j] = true
    · simp [z, c]
    · simp [z]
  · rw [if_neg c, if_neg c, if_neg fun h => c h.1]
    rfl
theorem wtJ_len (nw : Nat → Nat) (m : Nat → Nat) (d : Dd) (j : Nat) : (wtJ nw m d j).length ≤ d.r.length := by
  unfold wtJ
  split
  · rw [List.length_map]
    refine Nat.le_trans (List.length_filter_le _ _) ?_
    rw [List.length_take]
    omega
  · simp
section
variable {P : Program} {w : World} {K : PySem.W.Frag} {mg : Str → Option Value} {base : Heap}
abbrev s_lists : Stmt := top 52
abbrev N_lists : List Str := ["_law_things", "_law_found", "_law_thing", "_law_some"]
theorem sc_lists : FnScope N_lists ["_law_things"] (defScope s_lists) := ⟨rfl, rfl, rfl, by decide +kernel, rfl, by decide +kernel, by decide +kernel⟩
theorem ok_lists {f : Addr} {fd : FuncData} (F : FnP K "_law_lists" s_lists f fd) (Z : FreeS mg) :
    FnOk P w K mg base CX0 1 f fd ["_law_things"] spLists := by
  refine F.ok sc_lists (fun vs H Q E h => ?_) (fun cdv A outer s H vs Q E hr h => ?_)
  · obtain ⟨a, l, rfl, _⟩ := h
    rfl
  · obtain ⟨a, l, rfl, ha, l6, k⟩ := h
    have sl : (3000 : Nat) ≤ sizeLine := by decide
    have nd := sc_lists.nd
    refine ⟨_, PSs.nox (pss_cons (ps_set (i := 1) nd rfl (Or.inl rfl) (pe_lst (pa_cons (pe_lst (pa_nil)) (pa_nil))))
      (pss_cons (ps_for PassesOwn.never rfl (pi_list (pv 0)) (pg_name (i := 2) nd rfl (Or.inr rfl))
        (pss_one (ps_set (i := 1) nd rfl (Or.inl rfl) (pe_op op_cat (pv 1) (pe_lc (own := [("_law_some", 3)]) (g := gName 3) (tt := tYes) (te := tOp rCat (tVar 3) (tLst (tCons (tVar 2) (tNil)))) (by rfl) nd (pi_list (pv 1))
          (blkOk_by (own := [("_law_some", 3)]) (N := N_lists) (sc := defScope s_lists) (by decide +kernel)) (fun _ _ _ _ _ => pg_name (i := 3) nd rfl (Or.inl rfl)) (fun _ _ _ _ _ => pts_nil)
          (fun _ _ _ _ _ => pe_op op_cat (pv 3) (pe_lst (pa_cons (pv 2) (pa_nil)))))))))
      (pss_one (ps_ret (pv 1))))), ?_⟩
    refine ⟨Nat.zero_le _, fun E hE => ⟨(by show 1 ≤ sizeLine; omega), fun L0 hL0 => ?_⟩⟩
    have s0 := Same.updf (o := .lst []) hE
    have s1 := s0.trans (Same.updf (o := .lst [V.ref E]) hL0)
    have nE : E ≠ L0 := ne_of_none upd_same hL0
    have ln : (numsV l).length = l.length := List.length_map _
    refine ⟨_, rfl, a, rfl, ⟨_, SqL.of (s1 _ _ ha)⟩, ?_⟩
    refine for_it (walk_list (K := K) (a := a) (xs := numsV l)) (fun i σ G => Same H G ∧ ∃ L ys v2, G L = some (.lst ys) ∧ H L = none ∧ ys.length ≤ 2 ^ i ∧ (∀ y ∈ ys, ∃ (b : Addr) (s : List Nat), y = .ref b ∧ G b = some (.lst (numsV s)) ∧ s.length ≤ i ∧ ∀ x ∈ s, x ∈ l) ∧ σ = [some (.ref a), some (.ref L), v2, none])
      ⟨s1, L0, [.ref E], _, upd_same, none_back s0 hL0, by simp, fun y hy => ⟨E, [], List.mem_singleton.mp hy, by rw [upd_ne nE, upd_same]; rfl, Nat.le_refl _, fun x hx => nomatch hx⟩, rfl⟩ (fun i σ G _ hh => SqL.of (hh.1 _ _ ha)) ?_ ?_
    · rintro i x σ G G' hi ⟨sG, L, ys, v2, hys, nL, ly, py, rfl⟩ ⟨rfl, hv⟩
      have li : i < l.length := by omega
      unfold numsV at hv
      rw [List.getElem?_map, List.getElem?_eq_getElem li] at hv
      obtain rfl := Option.some.inj hv
      have p2 : 2 ^ i ≤ 2 ^ 5 := Nat.pow_le_pow_right (by decide) (by omega)
      have p3 : 2 ^ (i + 1) = 2 * 2 ^ i := by rw [Nat.pow_succ]; omega
      refine ⟨_, rfl, _, rfl, L, rfl, ⟨_, SqL.of hys⟩, fun D hD => ?_⟩
      refine lc_rel (walk_list (K := K) (a := L) (xs := ys)) (fun _ => true) (fun j y G => ∃ (b : Addr) (s : List Nat), y = .ref b ∧ G b = some (.lst (numsV s)) ∧ s.length ≤ i + 1 ∧ ∀ x ∈ s, x ∈ l) (fun j y G G' s1 ⟨b, s, e, h, r⟩ => ⟨b, s, e, s1 _ _ h, r⟩) (by omega) hD (fun G s2 => SqL.of (s2 _ _ hys)) ?_ ?_
      · rintro j y G3 G4 Qy Qn hj s3 ⟨acc, hacc⟩ ⟨rfl, hy⟩ ky_ kn
        obtain ⟨b, s, rfl, hb, ls, hs⟩ := py y (List.mem_of_getElem? hy)
        have hb4 := s3 _ _ hb
        refine ⟨rfl, _, rfl, _, rfl, (by show 1 ≤ sizeLine; omega), fun A1 hA1 => ?_⟩
        have s4 := Same.updf (o := .lst [V.int (l[i] : Int)]) hA1
        refine ⟨b, A1, numsV s, [.int (l[i] : Int)], rfl, rfl, s4 _ _ hb4, upd_same, (by unfold numsV; rw [List.length_map]; show _ + 1 ≤ sizeLine; omega), fun A2 hA2 => ?_⟩
        have s5 := Same.updf (o := .lst (numsV s ++ [V.int (l[i] : Int)])) hA2
        refine ky_ _ _ rfl (s4.trans s5) ⟨A2, s ++ [l[i]], rfl, ?_, by rw [List.length_append]; show _ + 1 ≤ _; omega, fun x hx => ?_⟩
        · rw [off_at (fun z => by
            rw [z] at hA2
            rw [s4 _ _ hacc] at hA2
            cases hA2), upd_same, numsV_snoc]
        · rcases List.mem_append.mp hx with hx | hx
          · exact hs x hx
          · rw [List.mem_singleton.mp hx]
            exact List.getElem_mem li
      · rintro G3 zs s3 hzs pz
        rw [filter_true] at pz
        have lz := paired_len pz
        rw [List.length_range] at lz
        refine ⟨L, D, ys, zs, rfl, rfl, s3 _ _ hys, hzs, by omega, fun L2 hL2 => ?_⟩
        have s4 := Same.updf (o := .lst (ys ++ zs)) hL2
        refine ⟨(sG.trans s3).trans s4, L2, ys ++ zs, _, upd_same, none_back (sG.trans s3) hL2, by rw [List.length_append]; omega, fun y hy => ?_, rfl⟩
        rcases List.mem_append.mp hy with hy | hy
        · obtain ⟨b, s, e, hb, ls, hs⟩ := py y hy
          exact ⟨b, s, e, (s3.trans s4) _ _ hb, by omega, hs⟩
        · obtain ⟨j, lj, rfl⟩ := List.getElem_of_mem hy
          obtain ⟨_, _, b, s, e, hb, r⟩ := paired_get2 pz (List.getElem?_eq_getElem lj)
          exact ⟨b, s, e, s4 _ _ (off_le _ _ _ _ hb), r⟩
    · rintro σ G ⟨sG, L, ys, v2, hys, nL, ly, py, rfl⟩
      have p2 : 2 ^ l.length ≤ 2 ^ 6 := Nat.pow_le_pow_right (by decide) l6
      exact ⟨_, rfl, k L ys G sG nL hys (fun y hy => by
        obtain ⟨b, s, e, hb, ls, hs⟩ := py y hy
        exact ⟨b, s, e, hb, by omega, hs⟩) (by rw [ln] at ly; omega)⟩
abbrev s_waiting : Stmt := top 62
abbrev N_waiting : List Str := ["_law_log_here", "_law_marks_here", "_law_newest", "_law_found", "_law_number", "_law_page", "_law_reads", "_law_words_here", "_law_late"]
theorem sc_waiting : FnScope N_waiting ["_law_log_here", "_law_marks_here"] (defScope s_waiting) := ⟨rfl, rfl, rfl, by decide +kernel, rfl, by decide +kernel, by decide +kernel⟩
theorem ok_waiting {f : Addr} {fd : FuncData} (F : FnP K "_law_waiting" s_waiting f fd) (Z : FreeS mg)
    {f_marks : Addr} {d_marks : FuncData} (g_marks : mg "_law_marks" = some (.ref f_marks)) (F_marks : FnP K "_law_marks" s_marks f_marks d_marks) (G_marks : FnOk P w K mg base CX0 3 f_marks d_marks ["_law_log_here"] spMarks) :
    FnOk P w K mg base CX0 4 f fd ["_law_log_here", "_law_marks_here"] spWaiting := by
  have b_marks : Binds K d_marks ["_law_log_here"] [] := F_marks.bindsN fun _ _ _ _ _ _ us hl => match us, hl with | [_], _ => rfl
  refine F.ok sc_waiting (fun vs H Q E h => ?_) (fun cdv A outer s H vs Q E hr h => ?_)
  · obtain ⟨a, b, ds, ks, m, rfl, _⟩ := h
    rfl
  · obtain ⟨a, b, ds, ks, m, rfl, hL, hG, bd, hb, pk, k⟩ := h
    have sl : (3000 : Nat) ≤ sizeLine := by decide
    have hu65 : _ + 65 < cLine := Nat.lt_of_le_of_lt (Nat.add_le_add_left (by decide : 65 ≤ 200) _) (Nat.lt_of_le_of_lt (Nat.add_le_add_right (Nat.le_add_right _ _) _) hr.un)
    have hu := Nat.lt_of_le_of_lt (Nat.add_le_add_left (by decide : 1 ≤ 65) _) hu65
    have hu64 := Nat.lt_of_le_of_lt (Nat.add_le_add_left (by decide : 64 ≤ 65) _) hu65
    have nd := sc_waiting.nd
    refine ⟨_, PSs.nox (pss_cons (ps_par (i := 2) (j := 3) rfl nd rfl rfl (by decide) rfl rfl (pa_cons (pe_call G_marks (hr.mono (by decide)) rfl g_marks F_marks.kp b_marks .nil pass0 (pa_cons (pv 0) (pa_nil))) (pa_cons (pe_lst (pa_nil)) (pa_nil))) rfl)
      (pss_cons (ps_for PassesOwn.never rfl (pi_list (pv 0)) (pg_tup rfl (pgs_cons (pg_name (i := 4) nd rfl (Or.inl rfl)) (pgs_cons (pg_name (i := 5) nd rfl (Or.inl rfl)) (pgs_cons (pg_name (i := 6) nd rfl (Or.inl rfl)) (pgs_cons (pg_name (i := 7) nd rfl (Or.inl rfl)) (pgs_nil))))))
        (pss_one (ps_for PassesOwn.never rfl (pi_list (pv 6)) (pg_name (i := 8) nd rfl (Or.inl rfl))
        (pss_one (ps_if (PW.pt (pw_and (pt_cmpR op_ne (pv 8) (pv 5) (nomark _)) (pw_and (pt_cmpR op_lt (pe_dget hu (pv 1) (pv 8) (fun _ _ => rfl)) (pv 4) (nomark _)) (pw_and (pt_cmpR op_le (pv 4) (pe_dget hu (pv 2) (pv 8) (fun _ _ => rfl)) (nomark _)) (pw_and1 (pt_cmpR op_lt (pe_dget hu (pv 1) (pv 5) (fun _ _ => rfl)) (pv 4) (nomark _))))))) (pss_one (ps_expr (pe_bm PySem.F.plainAttrs_list PySem.F.slot_list_append PySem.F.type_list_append mt_append (pv 3) (pa_cons (pe_tup (pa_cons (pv 8) (pa_cons (pv 5) (pa_cons (pv 4) (pa_nil))))) (pa_nil))))) (pss_nil))))))
      (pss_one (ps_ret (pe_callB ((cr_sortedT hu64)) (by rfl) Z.sorted (by decide +kernel) (pa_cons (pv 3) (pa_nil))))))), ?_⟩
    obtain ⟨xs, ha, lx, hx⟩ := id hL
    have l60 := hG.len
    have r20 : ∀ d ∈ ds, d.r.length ≤ 20 := fun d hd => (hG.ok d hd).len
    have dg : ∀ {G : Hp} {q : Addr} {ks : List Nat} {f : Nat → Nat} {p : Nat}, G q = some (.dK (mV ks f)) → p ∈ ks → DGet G q (.int (p : Int)) (some (.int (f p : Int))) := fun {G q ks f p} h hp => by
      have := DGet.k (k := ky p) h
      rw [mV_val hp] at this
      exact this
    refine ⟨_, rfl, a, ds, rfl, hL, hG, fun nq G1 s1 nnq hnw0 => ⟨Nat.zero_le _, fun L hL0 => ⟨_, _, rfl, ?_⟩⟩⟩
    have hnw : G1 nq = some (.dK (mV (pgs ds) (nwN ds))) := by
      rw [← mV_nw bd]
      exact hnw0
    have s2 := Same.updf (o := .lst []) hL0
    have s12 := s1.trans s2
    refine ⟨_, rfl, a, rfl, ⟨_, SqL.of (s12 _ _ ha)⟩, ?_⟩
    have hnw2 := s2 _ _ hnw
    have nL : H L = none := none_back s1 hL0
    have nLq : nq ≠ L := ne_of_none hnw hL0
    refine for_it (walk_list (K := K) (a := a) (xs := xs)) (fun i σ G => Same H G ∧ G nq = some (.dK (mV (pgs ds) (nwN ds))) ∧ ∃ ys v4 v5 v6 v7 v8, G L = some (.lst ys) ∧ Paired (IntsAt (off G L)) (wtG (nwN ds) (ds.take i) m) ys ∧ σ = [some (.ref a), some (.ref b), some (.ref nq), some (.ref L), v4, v5, v6, v7, v8])
      ⟨s12, hnw2, [], _, _, _, _, _, upd_same, .nil, rfl⟩ (fun i σ G _ hh => SqL.of (hh.1 _ _ ha)) ?_ ?_
    · rintro i x σ G G' hi ⟨sG, hn, ys, v4, v5, v6, v7, v8, hys, py, rfl⟩ ⟨rfl, hv⟩
      have li : i < ds.length := by omega
      have hd : ds[i]? = some ds[i] := List.getElem?_eq_getElem li
      have md : ds[i] ∈ ds := List.getElem_mem li
      obtain ⟨t, rd, tw, rfl, ht, hr1, _⟩ := (hx i x _ hv hd).same sG
      have ok := hG.ok _ md
      have mp : ∀ p ∈ ds[i].r, p ∈ pgs ds := fun p hp => pgs_mem.mpr ⟨ds[i], md, hp⟩
      have mk : ∀ p ∈ ds[i].r, p ∈ ks := fun p hp => pk.mem_iff.mpr (mp p hp)
      have l20 := r20 _ md
      have ln : (numsV ds[i].r).length = ds[i].r.length := List.length_map _
      have wl := wtG_len (nw := nwN ds) (ds := ds.take i) (fun e he => r20 e (List.mem_of_mem_take he)) m
      rw [List.length_take] at wl
      refine ⟨t, [_, _, _, _], rfl, .inl (.inl ht), rfl, _, [_, _, _], rfl, _, [_, _], rfl, _, [_], rfl, _, [], rfl, rfl, ?_⟩
      refine ⟨_, rfl, rd, rfl, ⟨_, SqL.of hr1⟩, ?_⟩
      have hrL : rd ≠ L → True := fun _ => trivial
      refine for_it (walk_list (K := K) (a := rd) (xs := numsV ds[i].r)) (fun j σ G3 => Same H G3 ∧ G3 nq = some (.dK (mV (pgs ds) (nwN ds))) ∧ G3 rd = some (.lst (numsV ds[i].r)) ∧ ∃ zs v8, G3 L = some (.lst zs) ∧ Paired (IntsAt (off G3 L)) (wtG (nwN ds) (ds.take i) m ++ wtJ (nwN ds) m ds[i] j) zs ∧ σ = [some (.ref a), some (.ref b), some (.ref nq), some (.ref L), some (.int (ds[i].n : Int)), some (.int (ds[i].p : Int)), some (.ref rd), some (.ref tw), v8])
        ⟨sG, hn, hr1, ys, _, hys, by unfold wtJ; simpa using py, rfl⟩ (fun j σ G3 _ hh => SqL.of hh.2.2.1) ?_ ?_
      · rintro j y σ G3 G4 hj ⟨s3, hn3, hr3, zs, v8', hzs, pz, rfl⟩ ⟨rfl, hy⟩
        have lj : j < ds[i].r.length := by omega
        unfold numsV at hy
        rw [List.getElem?_map, List.getElem?_eq_getElem lj] at hy
        obtain rfl := Option.some.inj hy
        have mj := List.getElem_mem lj
        have lz := paired_len pz
        have lJ := wtJ_len (nwN ds) m ds[i] j
        rw [List.length_append] at lz
        have stay : ∀ v8 : Option V, ¬ (m ds[i].p < ds[i].n ∧ wt1 (nwN ds) m ds[i] ds[i].r[j] = true) → Same H G4 ∧ G4 nq = some (.dK (mV (pgs ds) (nwN ds))) ∧ G4 rd = some (.lst (numsV ds[i].r)) ∧ ∃ zs v8', G4 L = some (.lst zs) ∧ Paired (IntsAt (off G4 L)) (wtG (nwN ds) (ds.take i) m ++ wtJ (nwN ds) m ds[i] (j + 1)) zs ∧ ([some (.ref a), some (.ref b), some (.ref nq), some (.ref L), some (.int (ds[i].n : Int)), some (.int (ds[i].p : Int)), some (.ref rd), some (.ref tw), v8] : L2.St) = [some (.ref a), some (.ref b), some (.ref nq), some (.ref L), some (.int (ds[i].n : Int)), some (.int (ds[i].p : Int)), some (.ref rd), some (.ref tw), v8'] := fun v8 c => by
          refine ⟨s3, hn3, hr3, zs, _, hzs, ?_, rfl⟩
          rw [wtJ_snoc lj, if_neg c, List.append_nil]
          exact pz
        refine ⟨_, rfl, _, rfl, rfl, _, rfl, ?_⟩
        by_cases e1 : ds[i].r[j] = ds[i].p
        · rw [show (!decide (V.int (ds[i].r[j] : Int) = V.int (ds[i].p : Int))) = false by rw [e1]; simp]
          exact iteF (iteF (stay _ fun h => (of_decide_eq_true h.2).1 e1))
        · rw [show (!decide (V.int (ds[i].r[j] : Int) = V.int (ds[i].p : Int))) = true by simp; omega]
          refine iteT ⟨_, rfl, _, rfl, b, _, rfl, dg (s3 _ _ hb) (mk _ mj), _, rfl, _, _, rfl, rfl, _, rfl, ?_⟩
          by_cases e2 : m ds[i].r[j] < ds[i].n
          · rw [decide_eq_true (show (m ds[i].r[j] : Int) < (ds[i].n : Int) by omega)]
            refine iteT ⟨_, rfl, _, rfl, _, rfl, nq, _, rfl, dg hn3 (mp _ mj), _, _, rfl, rfl, _, rfl, ?_⟩
            by_cases e3 : ds[i].n ≤ nwN ds ds[i].r[j]
            · rw [decide_eq_true (show (ds[i].n : Int) ≤ (nwN ds ds[i].r[j] : Int) by omega)]
              refine iteT ⟨_, rfl, _, rfl, b, _, rfl, dg (s3 _ _ hb) (mk _ ok.own), _, rfl, _, _, rfl, rfl, _, rfl, ?_⟩
              by_cases e4 : m ds[i].p < ds[i].n
              · rw [decide_eq_true (show (m ds[i].p : Int) < (ds[i].n : Int) by omega)]
                refine iteT ⟨_, rfl, .inl ⟨rfl, _, SqL.of hzs⟩, _, rfl, _, rfl, _, rfl, (by show 3 ≤ sizeLine; omega), fun T hT => ?_⟩
                have sT := Same.updf (o := .tup [V.int (ds[i].r[j] : Int), V.int (ds[i].p : Int), V.int (ds[i].n : Int)]) hT
                have nT : T ≠ L := (ne_of_none hzs hT).symm
                refine ⟨L, zs, .ref T, rfl, rfl, sT _ _ hzs, by omega, ?_⟩
                refine ⟨fun c o e => ?_, ?_, ?_, zs ++ [.ref T], _, upd_same, ?_, rfl⟩
                · rw [upd_ne (ne_of_none e nL)]
                  exact sT _ _ (s3 _ _ e)
                · rw [upd_ne nLq]
                  exact sT _ _ hn3
                · rw [upd_ne (fun z => ?_)]
                  · exact sT _ _ hr3
                  · rw [z, hzs] at hr3
                    have e5 : zs = numsV ds[i].r := HO.lst.inj (Option.some.inj hr3)
                    have m0 : V.int (ds[i].r[j] : Int) ∈ zs := by
                      rw [e5]
                      exact List.mem_map.mpr ⟨_, mj, rfl⟩
                    obtain ⟨k0, lk, e6⟩ := List.getElem_of_mem m0
                    obtain ⟨_, _, T', e7, _⟩ := paired_get2 pz (List.getElem?_eq_getElem lk)
                    rw [e6] at e7
                    cases e7
                · rw [off_upd, wtJ_snoc lj, if_pos ⟨e4, decide_eq_true ⟨e1, e2, e3⟩⟩, ← List.append_assoc]
                  refine paired_snoc (paired_mono (fun t y h => h.same (off_same L sT)) pz) ⟨T, rfl, ?_⟩
                  rw [off_at nT, upd_same]
                  rfl
              · rw [decide_eq_false (show ¬ (m ds[i].p : Int) < (ds[i].n : Int) by omega)]
                exact iteF (stay _ fun h => e4 h.1)
            · rw [decide_eq_false (show ¬ (ds[i].n : Int) ≤ (nwN ds ds[i].r[j] : Int) by omega)]
              exact iteF (iteF (stay _ fun h => e3 (of_decide_eq_true h.2).2.2))
          · rw [decide_eq_false (show ¬ (m ds[i].r[j] : Int) < (ds[i].n : Int) by omega)]
            exact iteF (iteF (stay _ fun h => e2 (of_decide_eq_true h.2).2.1))
      · rintro σ G3 ⟨s3, hn3, hr3, zs, v8', hzs, pz, rfl⟩
        refine ⟨s3, hn3, zs, _, _, _, _, _, hzs, ?_, rfl⟩
        rw [ln] at pz
        rw [wtG_take hd]
        have e : wtJ (nwN ds) m ds[i] ds[i].r.length = wtD (nwN ds) m ds[i] := by
          unfold wtJ wtD
          rw [List.take_length]
        rw [← e]
        exact pz
    · rintro σ G ⟨sG, hn, ys, v4, v5, v6, v7, v8, hys, py, rfl⟩
      rw [lx, List.take_length] at py
      refine ⟨_, rfl, L, ys, _, rfl, SqL.of hys, paired_mono (fun t y h => h.same (off_le _ _)) py, wt_ne, fun p zs hp pz => ?_⟩
      have s3 := Same.updf (o := .lst zs) hp
      exact k p zs _ (sG.trans s3) (none_back sG hp) upd_same (paired_mono (fun t y h => h.same s3) pz)
end
end K27
set_option Elab.async false
set_option linter.all false
set_option maxRecDepth 100000
set_option maxHeartbeats 8000000
namespace K27
open PySem PySem.Spec PyProof.Rows L2 KB LiI
theorem unlock_same {G H2 : Hp} {a : Addr} {u : HO} {od : Obj} (h : G a = some u) (s : Same (upd G a (.frz od u)) H2) : Same G (upd H2 a u) := fun c o e => by
  by_cases z : c = a
  · subst z
    rw [h] at e
    rw [upd_same]
    exact e
  · rw [upd_ne z]
    exact s _ _ (by rw [upd_ne z]; exact e)
theorem lt_last : ∀ {l : List Nat}, l.Pairwise (· < ·) → ∀ x ∈ l, x ≤ l.getLastD 0
  | [], _, x, h => nomatch h
  | [a], _, x, h => by
    rw [List.mem_singleton.mp h]
    exact Nat.le_refl _
  | a :: b :: l, hp, x, h => by
    obtain ⟨h1, h2⟩ := List.pairwise_cons.mp hp
    have ih := lt_last h2
    show x ≤ (b :: l).getLastD 0
    rcases List.mem_cons.mp h with rfl | h
    · have := h1 b List.mem_cons_self
      have := ih b List.mem_cons_self
      omega
    · exact ih x h
theorem nw_max {ds : List Dd} (hG : Lg ds) {d : Dd} (hd : d ∈ ds) : d.n ≤ nwN ds d.p := by
  have h : ((ds.filter fun e => decide (e.p = d.p)).map (·.n)).Pairwise (· < ·) := List.pairwise_map.mpr (hG.asc.filter _)
  have m : d.n ∈ (ds.filter fun e => decide (e.p = d.p)).map (·.n) := List.mem_map.mpr ⟨d, List.mem_filter.mpr ⟨hd, decide_eq_true rfl⟩, rfl⟩
  have := lt_last h _ m
  unfold nwN nbp
  cases h2 : (ds.filter fun e => decide (e.p = d.p)).map (·.n) with
  | nil =>
    rw [h2] at m
    cases m
  | cons x l =>
    rw [h2] at this
    exact this
theorem mk_le {ds : List Dd} (hG : Lg ds) {m : Nat → Nat} (h : Mk ds m) {p : Nat} (hp : p ∈ pgs ds) : m p ≤ nwN ds p := by
  have := h p hp
  unfold nbp at this
  rcases List.mem_cons.mp this with e | e
  · omega
  · obtain ⟨d, hd, e⟩ := List.mem_map.mp e
    obtain ⟨h1, h2⟩ := List.mem_filter.mp hd
    have h3 := nw_max hG h1
    have h4 : d.p = p := of_decide_eq_true h2
    rw [h4] at h3
    omega
theorem waits_iff {ds : List Dd} {m : Nat → Nat} {p : Nat} : waitsB ds m p = true ↔ ∃ d ∈ ds, m d.p < d.n ∧ p ∈ d.r ∧ p ≠ d.p ∧ m p < d.n ∧ d.n ≤ nwN ds p := by
  unfold waitsB
  rw [List.any_eq_true]
  constructor
  · rintro ⟨t, ht, h⟩
    obtain ⟨d, hd, c, r, hr, ⟨h1, h2, h3⟩, rfl⟩ := wt_mem.mp ht
    have e : r = p := by
      have := of_decide_eq_true h
      simp at this
      omega
    subst e
    exact ⟨d, hd, c, hr, h1, h2, h3⟩
  · rintro ⟨d, hd, c, hr, h1, h2, h3⟩
    exact ⟨_, wt_mem.mpr ⟨d, hd, c, p, hr, ⟨h1, h2, h3⟩, rfl⟩, by simp⟩
theorem lot_right {ds : List Dd} (hG : Lg ds) {m : Nat → Nat} (rt : Rt ds m) {l : List Nat} (h : ∀ p ∈ l, waitsB ds m p = false) : Rt ds (wrtM ds m l) := by
  refine rt_iff.mpr fun d hd c q hq => ?_
  unfold wrtM at c ⊢
  by_cases e : d.p ∈ l
  · rw [if_pos e] at c
    have := nw_max hG hd
    omega
  · rw [if_neg e] at c
    have h1 := rt_iff.mp rt d hd c q hq
    by_cases e2 : q ∈ l
    · rw [if_pos e2]
      rcases Nat.lt_or_ge (nwN ds q) d.n with z | z
      · exact z
      · have h2 := h q e2
        rw [waits_iff.mpr ⟨d, hd, c, hq, fun y => e (y ▸ e2), h1, z⟩] at h2
        cases h2
    · rw [if_neg e2]
      exact h1
theorem one_iff {ds : List Dd} (hG : Lg ds) {m : Nat → Nat} (rt : Rt ds m) (p : Nat) : (wr ds (wrtM ds m [p])).isEmpty = !waitsB ds m p := by
  cases h : waitsB ds m p with
  | false =>
    have := lot_right hG rt (l := [p]) fun q hq => by
      rw [List.mem_singleton.mp hq]
      exact h
    rw [show wr ds (wrtM ds m [p]) = [] from this]
    rfl
  | true =>
    obtain ⟨d, hd, c, hr, h1, h2, h3⟩ := waits_iff.mp h
    have : (d, p) ∈ wr ds (wrtM ds m [p]) := by
      refine wr_mem.mpr ⟨hd, ?_, hr, ?_⟩
      · unfold wrtM
        rw [if_neg fun y => h1 (List.mem_singleton.mp y).symm]
        exact c
      · unfold wrtM
        rw [if_pos List.mem_cons_self]
        exact h3
    cases hw : wr ds (wrtM ds m [p]) with
    | nil =>
      rw [hw] at this
      cases this
    | cons w ws => rfl
theorem wrt_mk {ds : List Dd} (hG : Lg ds) {m : Nat → Nat} (mk : Mk ds m) (l : List Nat) : Mk ds (wrtM ds m l) := fun p hp => by
  unfold wrtM
  split
  · unfold nwN
    rw [List.getLastD_eq_getLast?]
    cases h : (nbp ds p).getLast? with
    | none => exact List.mem_cons_self
    | some x => exact List.mem_of_getLast? h
  · exact mk p hp
theorem mkAt_le {ds : List Dd} {n : Int} (h : 0 ≤ n) (p : Nat) : (mkAt ds n p : Int) ≤ n := by
  unfold mkAt
  rw [List.getLastD_eq_getLast?]
  cases h2 : ((ds.filter fun d => decide (d.p = p ∧ (d.n : Int) ≤ n)).map (·.n)).getLast? with
  | none => exact h
  | some x =>
    obtain ⟨d, hd, rfl⟩ := List.mem_map.mp (List.mem_of_getLast? h2)
    exact (of_decide_eq_true (List.mem_filter.mp hd).2).2
/-- how many deeds are done by marks -/
def doneN (ds : List Dd) (m : Nat → Nat) : Nat := (ds.filter fun d => decide (d.n ≤ m d.p)).length
theorem done_lt {ds : List Dd} {m : Nat → Nat} (mk : Mk ds m) {d : Dd} {p : Nat} (h : (d, p) ∈ wr ds m) {v : Nat} (hv : v < d.n) : doneN ds (putN m p v) < doneN ds m := by
  obtain ⟨hd, c, hp, q⟩ := wr_mem.mp h
  have n0 : m p ≠ 0 := by omega
  have hm := mk p (read_pg hd hp)
  unfold nbp at hm
  rcases List.mem_cons.mp hm with e | e
  · omega
  · obtain ⟨d2, hd2, e⟩ := List.mem_map.mp e
    obtain ⟨h1, h2⟩ := List.mem_filter.mp hd2
    have h3 : d2.p = p := of_decide_eq_true h2
    have gen : ∀ es : List Dd, (es.filter fun d => decide (d.n ≤ putN m p v d.p)).length ≤ (es.filter fun d => decide (d.n ≤ m d.p)).length ∧ (d2 ∈ es → (es.filter fun d => decide (d.n ≤ putN m p v d.p)).length < (es.filter fun d => decide (d.n ≤ m d.p)).length) := by
      intro es
      induction es with
      | nil => exact ⟨Nat.le_refl _, fun h => nomatch h⟩
      | cons x es ih =>
        have lem : x.n ≤ putN m p v x.p → x.n ≤ m x.p := fun z => by
          unfold putN at z
          split at z
          · next y =>
            rw [y]
            omega
          · exact z
        rw [List.filter_cons, List.filter_cons]
        by_cases z : x.n ≤ putN m p v x.p
        · rw [if_pos (decide_eq_true z), if_pos (decide_eq_true (lem z)), List.length_cons, List.length_cons]
          refine ⟨by omega, fun hx => ?_⟩
          rcases List.mem_cons.mp hx with rfl | hx
          · unfold putN at z
            rw [if_pos h3] at z
            omega
          · have := ih.2 hx
            omega
        · rw [if_neg (by simpa using z)]
          by_cases y : x.n ≤ m x.p
          · rw [if_pos (decide_eq_true y), List.length_cons]
            exact ⟨by omega, fun _ => by omega⟩
          · rw [if_neg (by simpa using y)]
            refine ⟨ih.1, fun hx => ?_⟩
            rcases List.mem_cons.mp hx with rfl | hx
            · rw [h3] at y
              omega
            · exact ih.2 hx
    exact (gen ds).2 h1
section
variable {P : Program} {w : World} {K : PySem.W.Frag} {mg : Str → Option Value} {base : Heap}
abbrev s_right_marks : Stmt := top 61
abbrev N_right_marks : List Str := ["_law_purse_here", "_law_log_here", "_law_found", "_law_spin", "_law_bad", "_law_number", "_law_page"]
theorem sc_right_marks : FnScope N_right_marks ["_law_purse_here", "_law_log_here"] (defScope s_right_marks) := ⟨rfl, rfl, rfl, by decide +kernel, rfl, by decide +kernel, by decide +kernel⟩
theorem ok_right_marks {f : Addr} {fd : FuncData} (F : FnP K "_law_right_marks" s_right_marks f fd) (Z : FreeS mg)
    {f_drawn_marks : Addr} {d_drawn_marks : FuncData} (g_drawn_marks : mg "_law_drawn_marks" = some (.ref f_drawn_marks)) (F_drawn_marks : FnP K "_law_drawn_marks" s_drawn_marks f_drawn_marks d_drawn_marks) (G_drawn_marks : FnOk P w K mg base CX0 4 f_drawn_marks d_drawn_marks ["_law_purse_here", "_law_log_here"] spDrawnM)
    {f_too_new : Addr} {d_too_new : FuncData} (g_too_new : mg "_law_too_new" = some (.ref f_too_new)) (F_too_new : FnP K "_law_too_new" s_too_new f_too_new d_too_new) (G_too_new : FnOk P w K mg base CX0 1 f_too_new d_too_new ["_law_log_here", "_law_marks_here"] spTooNew)
    {f_marks_at : Addr} {d_marks_at : FuncData} (g_marks_at : mg "_law_marks_at" = some (.ref f_marks_at)) (F_marks_at : FnP K "_law_marks_at" s_marks_at f_marks_at d_marks_at) (G_marks_at : FnOk P w K mg base CX0 2 f_marks_at d_marks_at ["_law_log_here", "_law_number"] spMarksAt) :
    FnOk P w K mg base CX0 5 f fd ["_law_purse_here", "_law_log_here"] spRightM := by
  have b_drawn_marks : Binds K d_drawn_marks ["_law_purse_here", "_law_log_here"] [] := F_drawn_marks.bindsN fun _ _ _ _ _ _ us hl => match us, hl with | [_, _], _ => rfl
  have b_too_new : Binds K d_too_new ["_law_log_here", "_law_marks_here"] [] := F_too_new.bindsN fun _ _ _ _ _ _ us hl => match us, hl with | [_, _], _ => rfl
  have b_marks_at : Binds K d_marks_at ["_law_log_here", "_law_number"] [] := F_marks_at.bindsN fun _ _ _ _ _ _ us hl => match us, hl with | [_, _], _ => rfl
  refine F.ok sc_right_marks (fun vs H Q E h => ?_) (fun cdv A outer s H vs Q E hr h => ?_)
  · obtain ⟨pu, a, ds, N, rfl, _⟩ := h
    rfl
  · obtain ⟨pu, a, ds, N, rfl, hP, hN, hL, hG, l10, k⟩ := h
    have sl : (3000 : Nat) ≤ sizeLine := by decide
    have hu65 : _ + 65 < cLine := Nat.lt_of_le_of_lt (Nat.add_le_add_left (by decide : 65 ≤ 200) _) (Nat.lt_of_le_of_lt (Nat.add_le_add_right (Nat.le_add_right _ _) _) hr.un)
    have hu := Nat.lt_of_le_of_lt (Nat.add_le_add_left (by decide : 1 ≤ 65) _) hu65
    have hu0 := Nat.lt_of_succ_lt hu
    have nd := sc_right_marks.nd
    refine ⟨_, PSs.nox (pss_cons (ps_set (i := 2) nd rfl (Or.inl rfl) (pe_call G_drawn_marks (hr.mono (by decide)) rfl g_drawn_marks F_drawn_marks.kp b_drawn_marks .nil pass0 (pa_cons (pv 0) (pa_cons (pv 1) (pa_nil)))))
      (pss_cons (ps_for PassesOwn.never rfl (pi_range1 (by rfl) Z.range (pa_cons (pe_int) (pa_nil))) (pg_name (i := 3) nd rfl (Or.inl rfl))
        (pss_cons (ps_set (i := 4) nd rfl (Or.inl rfl) (pe_call G_too_new (hr.mono (by decide)) rfl g_too_new F_too_new.kp b_too_new .nil pass0 (pa_cons (pv 1) (pa_cons (pv 2) (pa_nil)))))
      (pss_one (ps_if (pt_cmpR (op_neE hu0) (pv 4) (pe_lst (pa_nil)) (nomark _)) (pss_cons (ps_asg (pe_ix ix_list (pv 4) (pe_int) (fun _ _ => rfl)) (pg_tup rfl (pgs_cons (pg_name (i := 5) nd rfl (Or.inl rfl)) (pgs_cons (pg_name (i := 6) nd rfl (Or.inl rfl)) (pgs_nil)))))
      (pss_one (ps_dput hu (pv 2) (pv 6) (pe_dget hu (pe_call G_marks_at (hr.mono (by decide)) rfl g_marks_at F_marks_at.kp b_marks_at .nil pass0 (pa_cons (pv 1) (pa_cons (pe_op op_sub (pv 5) (pe_int)) (pa_nil)))) (pv 6) (fun _ _ => rfl)) rfl))) (pss_nil)))))
      (pss_one (ps_ret (pv 2))))), ?_⟩
    obtain ⟨xs, ha', lx, hx⟩ := id hL
    have na : a ≠ pu := fun z => by
      unfold off at ha'
      rw [if_pos z] at ha'
      cases ha'
    have l60 := hG.len
    have pl := hG.pl
    refine ⟨_, rfl, _, rfl, pu, a, ds, N, rfl, hP, hN, hL, hG, fun q m G1 b1 P1 nq hq mk => ?_⟩
    have nqu : q ≠ pu := fresh_ne hP nq
    refine ⟨60, rfl, by decide, by decide, ?_⟩
    refine for_it (n := 60) (walk_range (lo := 0) (n := 60)) (fun i σ G => But pu H G ∧ Purse G pu (N + 30) ∧ ∃ m v3 v4 v5 v6, G q = some (.dK (mV (pgs ds) m)) ∧ Mk ds m ∧ (wr ds m = [] ∨ doneN ds m + i ≤ ds.length) ∧ σ = [some (.ref pu), some (.ref a), some (.ref q), v3, v4, v5, v6])
      ⟨b1, P1, m, _, _, _, _, hq, mk, .inr (List.length_filter_le _ _), rfl⟩ (fun i σ G _ _ => trivial) ?_ ?_
    · rintro i x σ G G' hi ⟨bG, PG, m, v3, v4, v5, v6, hm, mk, dn, rfl⟩ ⟨rfl, rfl⟩
      have hLG : LogAt G' a ds := (hL.same (but_off bG)).same (off_le _ _)
      refine ⟨_, rfl, _, rfl, a, q, ds, pgs ds, m, rfl, hLG, hG, hm, List.Perm.refl _, fun w ys G2 s2 nw hw py => ?_⟩
      refine ⟨_, rfl, Nat.zero_le _, fun E hE => ?_⟩
      have s3 := Same.updf (o := .lst []) hE
      have s23 := s2.trans s3
      refine ⟨w, E, ys, rfl, rfl, SqL.of (s3 _ _ hw), SqL.of upd_same, _, rfl, ?_⟩
      cases hwr : wr ds m with
      | nil =>
        rw [hwr] at py
        cases py
        exact iteF ⟨bG.trans (But.of s23), PG.same s23, m, _, _, _, _, s23 _ _ hm, mk, .inl hwr, rfl⟩
      | cons w0 ws =>
        obtain ⟨d, p⟩ := w0
        rw [hwr] at py
        cases py with
        | @cons _ y _ yr hy pr =>
        obtain ⟨T, rfl, hT⟩ := hy
        have mw : (d, p) ∈ wr ds m := by rw [hwr]; exact List.mem_cons_self
        obtain ⟨hd, c1, hp, c2⟩ := wr_mem.mp mw
        have mp := read_pg hd hp
        have n1 := (hG.ok d hd).n1
        refine iteT ⟨_, rfl, w, _, 0, .ref T, rfl, rfl, SqL.of (s3 _ _ hw), (by simp [atI, ixN]), ?_⟩
        refine ⟨T, [_, _], rfl, .inl (.inl (s3 _ _ hT)), rfl, _, [_], rfl, _, [], rfl, rfl, ?_⟩
        refine ⟨_, rfl, _, rfl, _, _, rfl, rfl, a, (d.n : Int) - 1, ds, rfl, hLG.same s23, hG, fun q2 G4 s4 nq2 hq2 => ?_⟩
        have s24 := s23.trans s4
        have dg : DGet G4 q2 (.int (p : Int)) (some (.int (mkAt ds ((d.n : Int) - 1) p : Int))) := by
          have := DGet.k (k := ky p) hq2
          rw [mV_val mp] at this
          exact this
        refine ⟨_, rfl, q2, _, rfl, dg, _, rfl, _, rfl, q, _, rfl, DPut.k (k := ky p) (s24 _ _ hm) (by rw [dV_len]; omega), ?_⟩
        rw [mV_put mp]
        have hv : mkAt ds ((d.n : Int) - 1) p < d.n := by
          have := mkAt_le (ds := ds) (n := (d.n : Int) - 1) (by omega) p
          omega
        have dl := done_lt mk mw hv
        refine ⟨fun c o n e => ?_, ((PG.same s24).same' (upd_ne nqu.symm)), putN m p (mkAt ds ((d.n : Int) - 1) p), _, _, _, _, upd_same, fun r hr => ?_, ?_, rfl⟩
        · rw [upd_ne (ne_of_none e nq)]
          exact s24 _ _ (bG _ _ n e)
        · unfold putN
          split
          · next e =>
            rw [e]
            exact mkAt_mk ds _ p mp
          · exact mk r hr
        · rcases dn with e | e
          · rw [hwr] at e
            cases e
          · exact .inr (by omega)
    · rintro σ G ⟨bG, PG, m, v3, v4, v5, v6, hm, mk, dn, rfl⟩
      have rt : Rt ds m := by
        rcases dn with e | e
        · exact e
        · omega
      exact ⟨_, rfl, k q m G bG PG nq hm mk rt⟩
abbrev s_written : Stmt := top 63
abbrev N_written : List Str := ["_law_log_here", "_law_marks_here", "_law_some", "_law_newest", "_law_page"]
theorem sc_written : FnScope N_written ["_law_log_here", "_law_marks_here", "_law_some"] (defScope s_written) := ⟨rfl, rfl, rfl, by decide +kernel, rfl, by decide +kernel, by decide +kernel⟩
theorem ok_written {f : Addr} {fd : FuncData} (F : FnP K "_law_written" s_written f fd) (Z : FreeS mg)
    {f_marks : Addr} {d_marks : FuncData} (g_marks : mg "_law_marks" = some (.ref f_marks)) (F_marks : FnP K "_law_marks" s_marks f_marks d_marks) (G_marks : FnOk P w K mg base CX0 3 f_marks d_marks ["_law_log_here"] spMarks) :
    FnOk P w K mg base CX0 4 f fd ["_law_log_here", "_law_marks_here", "_law_some"] spWritten := by
  have b_marks : Binds K d_marks ["_law_log_here"] [] := F_marks.bindsN fun _ _ _ _ _ _ us hl => match us, hl with | [_], _ => rfl
  refine F.ok sc_written (fun vs H Q E h => ?_) (fun cdv A outer s H vs Q E hr h => ?_)
  · obtain ⟨a, b, c, ds, ks, m, l, rfl, _⟩ := h
    rfl
  · obtain ⟨a, b, c, ds, ks, m, l, rfl, hL, hG, bd, hb, pk, hc, l40, k⟩ := h
    have sl : (3000 : Nat) ≤ sizeLine := by decide
    have hu65 : _ + 65 < cLine := Nat.lt_of_le_of_lt (Nat.add_le_add_left (by decide : 65 ≤ 200) _) (Nat.lt_of_le_of_lt (Nat.add_le_add_right (Nat.le_add_right _ _) _) hr.un)
    have hu := Nat.lt_of_le_of_lt (Nat.add_le_add_left (by decide : 1 ≤ 65) _) hu65
    have nd := sc_written.nd
    refine ⟨_, PSs.nox (pss_cons (ps_set (i := 3) nd rfl (Or.inr rfl) (pe_call G_marks (hr.mono (by decide)) rfl g_marks F_marks.kp b_marks .nil pass0 (pa_cons (pv 0) (pa_nil))))
      (pss_one (ps_ret (pe_callTy (call_dictPR rfl) (by rfl) Z.tdict (by decide +kernel) (pa_cons (pe_lock (pe_lc (own := [("_law_page", 4)]) (g := gName 4) (tt := tYes) (te := tTup (tCons (tVar 4) (tCons (tIf (tTest (tOp (rIn K false) (tVar 4) (tVar 2))) (tDGet (tVar 3) (tVar 4)) (tDGet (tVar 1) (tVar 4))) (tNil)))) (by rfl) nd (pi_keys (pv 1))
          (blkOk_by (own := [("_law_page", 4)]) (N := N_written) (sc := defScope s_written) (by decide +kernel)) (fun _ _ _ _ _ => pg_name (i := 4) nd rfl (Or.inl rfl)) (fun _ _ _ _ _ => pts_nil)
          (fun _ _ _ _ _ => pe_tup (pa_cons (pv 4) (pa_cons (pe_ifExp (pt_cmpR op_in_seq (pv 4) (pv 2) (by rfl)) (pe_dget hu (pv 3) (pv 4) (fun _ _ => rfl)) (pe_dget hu (pv 1) (pv 4) (fun _ _ => rfl))) (pa_nil)))))) (pa_nil)))))), ?_⟩
    have pl : ks.length ≤ 30 := by rw [pk.length_eq]; exact hG.pl
    have knd : ks.Nodup := pk.nodup_iff.mpr (pgs_nd ds)
    refine ⟨_, rfl, a, ds, rfl, hL, hG, fun nq G1 s1 nnq hn0 => ?_⟩
    have hn : G1 nq = some (.dK (mV (pgs ds) (nwN ds))) := by
      rw [← mV_nw bd]
      exact hn0
    have hb1 := s1 _ _ hb
    have hc1 := s1 _ _ hc
    have nqb : nq ≠ b := (ne_of_none hb nnq).symm
    have ncb : c ≠ b := fun z => by
      unfold MkAt at hb
      rw [z, hb] at hc
      cases hc
    refine ⟨b, _, hb1, trivial, fun od => ⟨_, rfl, b, od, rfl, .inl ⟨_, upd_same, fun D hD => ?_⟩⟩⟩
    have fb : upd G1 b (.frz od (.dK (mV ks m))) b = some (.frz od (.dK (mV ks m))) := upd_same
    have fn : upd G1 b (.frz od (.dK (mV ks m))) nq = some (.dK (mV (pgs ds) (nwN ds))) := (upd_ne nqb).trans hn
    have fc : upd G1 b (.frz od (.dK (mV ks m))) c = some (.lst (numsV l)) := (upd_ne ncb).trans hc1
    have hDG : G1 D = none := by
      rw [upd_ne (fun z => by
        rw [z, fb] at hD
        cases hD)] at hD
      exact hD
    have back : ∀ {G2 : Hp}, Same (upd G1 b (.frz od (.dK (mV ks m)))) G2 → Same G1 (upd G2 b (.dK (mV ks m))) := fun s => unlock_same hb1 s
    generalize upd G1 b (.frz od (.dK (mV ks m))) = F at *
    have lk : (mV ks m).length = ks.length := dV_len _ _
    refine lc_rel (n := (mV ks m).length) (walk_keys (d := b) (o := od) (kvs := mV ks m)) (fun _ => true) (fun i y G => ∃ T, y = .ref T ∧ G T = some (.tup [kV (ky (ks.getD i 0)), .int (wrtM ds m l (ks.getD i 0) : Int)])) (fun i y G G' s1 ⟨T, e, h⟩ => ⟨T, e, s1 _ _ h⟩) (by omega) hD (fun G s2 => s2 _ _ fb) ?_ ?_
    · rintro i x G3 G4 Qy Qn hi s3 ⟨acc, hacc⟩ ⟨rfl, k', v', ek, rfl⟩ ky_ kn
      have li : i < ks.length := by omega
      have ei : (mV ks m)[i]? = some (ky ks[i], .int (m ks[i] : Int)) := by
        unfold mV dV
        rw [List.getElem?_map, List.getElem?_eq_getElem li]
        rfl
      rw [ei] at ek
      cases ek
      have mp := List.getElem_mem li
      have dgn : DGet G4 nq (.int (ks[i] : Int)) (some (.int (nwN ds ks[i] : Int))) := .inl ⟨_, ky ks[i], .inl (s3 _ _ fn), rfl, (mV_val (pk.mem_iff.mp mp)).symm⟩
      have dgb : DGet G4 b (.int (ks[i] : Int)) (some (.int (m ks[i] : Int))) := .inl ⟨_, ky ks[i], .inr ⟨od, s3 _ _ fb⟩, rfl, (mV_val mp).symm⟩
      have fin : ∀ T, G4 T = none → Qy (.ref T) (upd G4 T (.tup [.int (ks[i] : Int), .int (wrtM ds m l ks[i] : Int)])) := fun T hT => by
        refine ky_ _ _ rfl (Same.updf hT) ⟨T, rfl, ?_⟩
        rw [off_at (ne_of_none hacc hT).symm, upd_same, List.getD_eq_getElem?_getD, List.getElem?_eq_getElem li]
        rfl
      refine ⟨rfl, _, rfl, _, rfl, _, rfl, c, numsV l, rfl, .inl (SqL.of (s3 _ _ fc)), rfl, flat_nums2 _, _, rfl, ?_⟩
      have e0 : inV (kV (ky ks[i])) (numsV l) = decide (ks[i] ∈ l) := inV_nums2 _ _
      rw [e0]
      by_cases e : ks[i] ∈ l
      · rw [decide_eq_true e]
        have w : wrtM ds m l ks[i] = nwN ds ks[i] := if_pos e
        rw [w] at fin
        exact iteT ⟨_, rfl, _, rfl, nq, _, rfl, dgn, (by show 2 ≤ sizeLine; omega), fun T hT => fin T hT⟩
      · rw [decide_eq_false e]
        have w : wrtM ds m l ks[i] = m ks[i] := if_neg e
        rw [w] at fin
        exact iteF ⟨_, rfl, _, rfl, b, _, rfl, dgb, (by show 2 ≤ sizeLine; omega), fun T hT => fin T hT⟩
    · rintro G3 zs s3 hzs pz
      rw [lk, filter_true] at pz
      have nDb : D ≠ b := fun z => by
        have := s3 _ _ fb
        rw [← z, hzs] at this
        cases this
      obtain ⟨ts, rfl, pt⟩ := pairs_addr (K := K) (f := fun i => (ky (ks.getD i 0), V.int (wrtM ds m l (ks.getD i 0) : Int))) (paired_mono (fun i y ⟨T, e, h⟩ => ⟨T, e, (upd_ne (fun z => by
        have h2 := off_le _ _ _ _ h
        rw [z, s3 _ _ fb] at h2
        cases h2)).trans (off_le _ _ _ _ h)⟩) pz)
      rw [range_map_get ks fun p => V.int (wrtM ds m l p : Int)] at pt
      refine ⟨s3 _ _ fb, D, ts, _, rfl, SqL.of ((upd_ne nDb).trans hzs), pt, fun q hq => ?_⟩
      rw [merge_dV0 knd]
      have sB := back s3
      exact k q _ ((s1.trans sB).trans (Same.updf hq)) (none_back (s1.trans sB) hq) upd_same
abbrev s_behind : Stmt := top 64
abbrev N_behind : List Str := ["_law_log_here", "_law_marks_here", "_law_newest", "_law_page"]
theorem sc_behind : FnScope N_behind ["_law_log_here", "_law_marks_here"] (defScope s_behind) := ⟨rfl, rfl, rfl, by decide +kernel, rfl, by decide +kernel, by decide +kernel⟩
theorem ok_behind {f : Addr} {fd : FuncData} (F : FnP K "_law_behind" s_behind f fd) (Z : FreeS mg)
    {f_marks : Addr} {d_marks : FuncData} (g_marks : mg "_law_marks" = some (.ref f_marks)) (F_marks : FnP K "_law_marks" s_marks f_marks d_marks) (G_marks : FnOk P w K mg base CX0 3 f_marks d_marks ["_law_log_here"] spMarks) :
    FnOk P w K mg base CX0 4 f fd ["_law_log_here", "_law_marks_here"] spBehind := by
  have b_marks : Binds K d_marks ["_law_log_here"] [] := F_marks.bindsN fun _ _ _ _ _ _ us hl => match us, hl with | [_], _ => rfl
  refine F.ok sc_behind (fun vs H Q E h => ?_) (fun cdv A outer s H vs Q E hr h => ?_)
  · obtain ⟨a, b, ds, ks, m, rfl, _⟩ := h
    rfl
  · obtain ⟨a, b, ds, ks, m, rfl, hL, hG, bd, hb, pk, k⟩ := h
    have pl : ks.length ≤ 30 := by rw [pk.length_eq]; exact hG.pl
    have knd : ks.Nodup := pk.nodup_iff.mpr (pgs_nd ds)
    have sl : (3000 : Nat) ≤ sizeLine := by decide
    have hu65 : _ + 65 < cLine := Nat.lt_of_le_of_lt (Nat.add_le_add_left (by decide : 65 ≤ 200) _) (Nat.lt_of_le_of_lt (Nat.add_le_add_right (Nat.le_add_right _ _) _) hr.un)
    have hu := Nat.lt_of_le_of_lt (Nat.add_le_add_left (by decide : 1 ≤ 65) _) hu65
    have nd := sc_behind.nd
    refine ⟨_, PSs.nox (pss_cons (ps_set (i := 2) nd rfl (Or.inr rfl) (pe_call G_marks (hr.mono (by decide)) rfl g_marks F_marks.kp b_marks .nil pass0 (pa_cons (pv 0) (pa_nil))))
      (pss_one (ps_ret (pe_lock (pe_lc (own := [("_law_page", 3)]) (g := gName 3) (tt := tTest (tOp rNe (tDGet (tVar 1) (tVar 3)) (tDGet (tVar 2) (tVar 3)))) (te := tVar 3) (by rfl) nd (pi_keys (pv 1))
          (blkOk_by (own := [("_law_page", 3)]) (N := N_behind) (sc := defScope s_behind) (by decide +kernel)) (fun _ _ _ _ _ => pg_name (i := 3) nd rfl (Or.inl rfl)) (fun _ _ _ _ _ => pts_one (pt_cmpR op_ne (pe_dget hu (pv 1) (pv 3) (fun _ _ => rfl)) (pe_dget hu (pv 2) (pv 3) (fun _ _ => rfl)) (nomark _)))
          (fun _ _ _ _ _ => pv 3)))))), ?_⟩
    refine ⟨_, rfl, a, ds, rfl, hL, hG, fun nq G1 s1 nnq hn0 => ?_⟩
    have hn : G1 nq = some (.dK (mV (pgs ds) (nwN ds))) := by
      rw [← mV_nw bd]
      exact hn0
    have hb1 := s1 _ _ hb
    have nqb : nq ≠ b := (ne_of_none hb nnq).symm
    refine ⟨b, _, hb1, trivial, fun od => ⟨_, rfl, b, od, rfl, .inl ⟨_, upd_same, fun D hD => ?_⟩⟩⟩
    have fb : upd G1 b (.frz od (.dK (mV ks m))) b = some (.frz od (.dK (mV ks m))) := upd_same
    have fn : upd G1 b (.frz od (.dK (mV ks m))) nq = some (.dK (mV (pgs ds) (nwN ds))) := (upd_ne nqb).trans hn
    have back : ∀ {G2 : Hp}, Same (upd G1 b (.frz od (.dK (mV ks m)))) G2 → Same G1 (upd G2 b (.dK (mV ks m))) := fun s => unlock_same hb1 s
    have hDG : G1 D = none := by
      rw [upd_ne (fun z => by
        rw [z, fb] at hD
        cases hD)] at hD
      exact hD
    generalize upd G1 b (.frz od (.dK (mV ks m))) = F at *
    have lk : (mV ks m).length = ks.length := dV_len _ _
    refine lc_sel (n := (mV ks m).length) (walk_keys (d := b) (o := od) (kvs := mV ks m)) (fun i => (ks[i]?).bind fun p => if (!decide (m p = nwN ds p)) = true then some (V.int (p : Int)) else none) (by omega) hD (fun G s2 => s2 _ _ fb) ?_ ?_
    · rintro i x G3 G4 Qy Qn hi s3 ⟨rfl, k', v', ek, rfl⟩ ky_ kn
      have li : i < ks.length := by omega
      have ei : (mV ks m)[i]? = some (ky ks[i], .int (m ks[i] : Int)) := by
        unfold mV dV
        rw [List.getElem?_map, List.getElem?_eq_getElem li]
        rfl
      rw [ei] at ek
      cases ek
      have mp := List.getElem_mem li
      rw [List.getElem?_eq_getElem li, Option.bind_some] at ky_ kn
      have dgn : DGet G4 nq (.int (ks[i] : Int)) (some (.int (nwN ds ks[i] : Int))) := .inl ⟨_, ky ks[i], .inl (s3 _ _ fn), rfl, (mV_val (pk.mem_iff.mp mp)).symm⟩
      have dgb : DGet G4 b (.int (ks[i] : Int)) (some (.int (m ks[i] : Int))) := .inl ⟨_, ky ks[i], .inr ⟨od, s3 _ _ fb⟩, rfl, (mV_val mp).symm⟩
      refine ⟨rfl, _, rfl, _, rfl, b, _, rfl, dgb, _, rfl, _, rfl, nq, _, rfl, dgn, rfl, _, rfl, ?_⟩
      have ed : decide (V.int (m ks[i] : Int) = V.int (nwN ds ks[i] : Int)) = decide (m ks[i] = nwN ds ks[i]) := by
        rw [Bool.eq_iff_iff]
        simp
        omega
      rw [ed]
      cases hc : !decide (m ks[i] = nwN ds ks[i]) with
      | true =>
        rw [hc] at ky_
        exact iteT ⟨_, rfl, ky_ _ _ (Same.refl _) rfl⟩
      | false =>
        rw [hc] at kn
        exact iteF (kn _ (Same.refl _) rfl)
    · intro G3 s3 hR
      rw [lk, sel_bool] at hR
      have nDb : D ≠ b := fun z => by
        have := s3 _ _ fb
        rw [← z, hR] at this
        cases this
      exact ⟨s3 _ _ fb, k D _ (s1.trans (back s3)) (none_back s1 hDG) ((upd_ne nDb).trans hR)⟩
end
end K27
set_option Elab.async false
set_option linter.all false
set_option maxRecDepth 100000
set_option maxHeartbeats 8000000
namespace K27
open PySem PySem.Spec PyProof.Rows L2 KB LiI
/-! logs as data -/
def numsD (l : List Nat) : List PyData := l.map fun i : Nat => PyData.int (i : Int)
def deedD (d : Dd) : PyData := .tuple [.int (d.n : Int), .int (d.p : Int), .list (numsD d.r), .tuple d.w]
def logD (ds : List Dd) : PyData := .list (ds.map deedD)
theorem tr_nums {H : Hp} {n : Nat} {a : Addr} {l : List Nat} (h : H a = some (.lst (numsV l))) (k : l.length ≤ 1000) : Tr H (n + 1) (.ref a) (.list (numsD l)) := by
  refine Tr.lst h (by unfold numsV numsD; rw [List.length_map, List.length_map]) (by unfold numsD; rw [List.length_map]; exact k) fun i u e h1 h2 => ?_
  unfold numsV at h1
  unfold numsD at h2
  rw [List.getElem?_map] at h1 h2
  obtain ⟨p, q1, rfl⟩ := Option.map_eq_some_iff.mp h1
  rw [q1] at h2
  cases h2
  exact Tr.flat (.int _)
theorem tr_nums_of {H : Hp} {n : Nat} {x : V} {l : List Nat} (h : Tr H n x (.list (numsD l))) : ∃ a, x = .ref a ∧ H a = some (.lst (numsV l)) := by
  cases n with
  | zero => exact (FlatD.noL h).elim
  | succ n =>
    rcases h with h | ⟨a, xs, ds, rfl, l1, l2, t, c⟩
    · exact (FlatD.noL h).elim
    · rcases t with ⟨ha, e⟩ | ⟨_, e⟩
      · cases e
        refine ⟨a, rfl, ?_⟩
        rw [ha]
        refine congrArg (fun z => some (HO.lst z)) (List.ext_getElem? fun i => ?_)
        have ll : (numsD l).length = l.length := List.length_map _
        have lv : (numsV l).length = l.length := List.length_map _
        by_cases hi : i < l.length
        · have e1 : xs[i]? = some (xs[i]'(by omega)) := List.getElem?_eq_getElem (by omega)
          have e2 : (numsD l)[i]? = some (.int (l[i] : Int)) := by
            unfold numsD
            rw [List.getElem?_map, List.getElem?_eq_getElem hi]
            rfl
          have e3 : (numsV l)[i]? = some (.int (l[i] : Int)) := by
            unfold numsV
            rw [List.getElem?_map, List.getElem?_eq_getElem hi]
            rfl
          have tt := c i _ _ e1 e2
          rw [e1, e3]
          cases n with
          | zero =>
            have tt' : FlatD _ _ := tt
            cases hx : xs[i]'(by omega) <;> rw [hx] at tt' <;> cases tt'
            rfl
          | succ n =>
            rcases tt with tt | ⟨_, _, _, _, _, _, t, _⟩
            · cases hx : xs[i]'(by omega) <;> rw [hx] at tt <;> cases tt
              rfl
            · rcases t with ⟨_, z⟩ | ⟨_, z⟩ <;> cases z
        · rw [List.getElem?_eq_none (by omega), List.getElem?_eq_none (by omega)]
      · cases e
theorem DeedAt.tr {H : Hp} {x : V} {d : Dd} (h : DeedAt H x d) (k : d.r.length ≤ 20) : Tr H 6 x (deedD d) := by
  obtain ⟨t, rd, tw, rfl, ht, hr, hw⟩ := h
  exact Tr.tup ht rfl (by simp) (tr_cons (Tr.flat (.int _)) (tr_cons (Tr.flat (.int _)) (tr_cons (tr_nums hr (by omega)) (tr_cons hw tr_nil))))
theorem LogAt.tr {H : Hp} {a : Addr} {ds : List Dd} (h : LogAt H a ds) (hG : Lg ds) : Tr H 7 (.ref a) (logD ds) := by
  obtain ⟨xs, ha, lx, hx⟩ := h
  have l60 := hG.len
  refine Tr.lst ha (by rw [List.length_map]; exact lx) (by rw [List.length_map]; omega) fun i u e h1 h2 => ?_
  rw [List.getElem?_map] at h2
  obtain ⟨d, q1, rfl⟩ := Option.map_eq_some_iff.mp h2
  exact (hx i u d h1 q1).tr (hG.ok d (List.mem_of_getElem? q1)).len
theorem flat_int {x : V} {n : Nat} {H : Hp} {i : Int} (h : Tr H n x (.int i)) : x = .int i := by
  cases n with
  | zero =>
    have h' : FlatD x _ := h
    cases h'
    rfl
  | succ n =>
    rcases h with h | ⟨_, _, _, _, _, _, t, _⟩
    · cases h
      rfl
    · rcases t with ⟨_, z⟩ | ⟨_, z⟩ <;> cases z
theorem deed_of_tr {H : Hp} {x : V} {d : Dd} (h : Tr H 6 x (deedD d)) : DeedAt H x d := by
  rcases h with h | ⟨t, xs, ds, rfl, l1, l2, tt, c⟩
  · cases h
  · rcases tt with ⟨_, e⟩ | ⟨ht, e⟩
    · cases e
    · cases e
      match xs, l1, ht, c with
      | [x0, x1, x2, x3], _, ht, c =>
        have e0 := flat_int (c 0 _ _ rfl rfl)
        have e1 := flat_int (c 1 _ _ rfl rfl)
        obtain ⟨rd, e2, hr⟩ := tr_nums_of (c 2 _ _ rfl rfl)
        have h3 := c 3 _ _ rfl rfl
        have e3 : ∃ tw, x3 = .ref tw := by
          rcases h3 with h3 | ⟨tw, _, _, e, _⟩
          · cases h3
          · exact ⟨tw, e⟩
        obtain ⟨tw, e3⟩ := e3
        subst e0 e1 e2 e3
        exact ⟨t, rd, tw, rfl, ht, hr, h3⟩
theorem log_of_tr {H : Hp} {x : V} {ds : List Dd} (h : Tr H 7 x (logD ds)) : ∃ a, x = .ref a ∧ LogAt H a ds := by
  rcases h with h | ⟨a, xs, es, rfl, l1, l2, tt, c⟩
  · cases h
  · rcases tt with ⟨ha, e⟩ | ⟨_, e⟩
    · cases e
      rw [List.length_map] at l1
      refine ⟨a, rfl, xs, ha, l1, fun i x d h1 h2 => deed_of_tr (c i x (deedD d) h1 ?_)⟩
      rw [List.getElem?_map, h2]
      rfl
    · cases e

/-- lists and tuples stay -/
def KeepLT (H H' : Hp) : Prop := ∀ c xs, (H c = some (.lst xs) → H' c = some (.lst xs)) ∧ (H c = some (.tup xs) → H' c = some (.tup xs))
theorem Tr.keep {H H' : Hp} (k : KeepLT H H') : ∀ {n : Nat} {x : V} {d : PyData}, Tr H n x d → Tr H' n x d
  | 0, _, _, h => h
  | n + 1, _, _, h => by
    rcases h with h | ⟨a, xs, ds, e1, e2, e3, e4, e5⟩
    · exact .inl h
    · exact .inr ⟨a, xs, ds, e1, e2, e3, e4.elim (fun z => .inl ⟨(k a xs).1 z.1, z.2⟩) (fun z => .inr ⟨(k a xs).2 z.1, z.2⟩), fun i u e h1 h2 => Tr.keep k (e5 i u e h1 h2)⟩
theorem LogAt.keep {H H' : Hp} {a : Addr} {ds : List Dd} (k : KeepLT H H') (h : LogAt H a ds) : LogAt H' a ds := by
  obtain ⟨xs, h1, h2, h3⟩ := h
  refine ⟨xs, (k _ _).1 h1, h2, fun i x d e1 e2 => ?_⟩
  obtain ⟨t, rd, tw, e, ht, hr, hw⟩ := h3 i x d e1 e2
  exact ⟨t, rd, tw, e, (k _ _).2 ht, (k _ _).1 hr, Tr.keep k hw⟩
theorem keep_frz {B : Hp} {b pu : Addr} {kvs : List (Key × V)} {o : HO} (hb : B b = some (.dK kvs)) : KeepLT (off B pu) (off (upd B b o) pu) := fun c xs => by
  have n1 : ∀ u, off B pu c = some u → c ≠ pu := fun u e z => by
    unfold off at e
    rw [if_pos z] at e
    cases e
  constructor
  · intro e
    have n := n1 _ e
    rw [off_at n] at e ⊢
    rw [upd_ne (fun z => by
      rw [z, hb] at e
      cases e)]
    exact e
  · intro e
    have n := n1 _ e
    rw [off_at n] at e ⊢
    rw [upd_ne (fun z => by
      rw [z, hb] at e
      cases e)]
    exact e
theorem rep_bool (c : Bool) (x : V) : -(2 ^ 63 : Int) ≤ (if c = true then 1 else 0 : Int) ∧ (if c = true then 1 else 0 : Int) < 2 ^ 63 ∧ ([x] : List V).length * (if c = true then 1 else 0 : Int).toNat ≤ sizeLine ∧ (List.replicate (if c = true then 1 else 0 : Int).toNat [x]).flatten = if c = true then [x] else [] := by
  have sl : (3000 : Nat) ≤ sizeLine := by decide
  cases c with
  | true => exact ⟨by decide, by decide, by show 1 * 1 ≤ sizeLine; omega, rfl⟩
  | false => exact ⟨by decide, by decide, by show 1 * 0 ≤ sizeLine; omega, rfl⟩
theorem paired_ifB {F : PyData → V → Prop} {c : Bool} {P : Prop} [Decidable P] (e : c = decide P) {d : PyData} {y : V} (h : F d y) : Paired F (if P then [d] else []) (if c = true then [y] else []) := by
  subst e
  by_cases p : P
  · rw [if_pos p, decide_eq_true p, if_pos rfl]
    exact .cons h .nil
  · rw [if_neg p, decide_eq_false p, if_neg Bool.false_ne_true]
    exact .nil
theorem len_ifB (c : Bool) (y : V) : (if c = true then [y] else []).length ≤ 1 := by
  cases c <;> simp
theorem td_le {H : Hp} {x : V} {d : PyData} {n : Nat} (h : TD H n x d) : ∀ k, TD H (n + k) x d
  | 0 => h
  | k + 1 => (td_le h k).up
theorem td_list {α : Type} {H : Hp} {n : Nat} {a : Addr} {ts : List α} {ys : List V} {f : α → PyData} (h : H a = some (.lst ys)) (p : Paired (fun t y => TD H n y (f t)) ts ys) (l : ts.length ≤ 1000) : TD H (n + 1) (.ref a) (.list (ts.map f)) := by
  refine TD.lst h (by rw [List.length_map]; exact (paired_len p).symm) (by rw [List.length_map]; exact l) fun i u e h1 h2 => ?_
  rw [List.getElem?_map] at h2
  obtain ⟨t, q, rfl⟩ := Option.map_eq_some_iff.mp h2
  obtain ⟨y, e1, e2⟩ := paired_get1 p q
  rw [h1] at e1
  cases e1
  exact e2
theorem ints_td {H : Hp} {t : List Int} {y : V} (h : IntsAt H t y) (l : t.length ≤ 9) : TD H 1 y (intsD t) := by
  obtain ⟨T, rfl, h⟩ := h
  refine TD.of (Tr.tup (n := 0) h (by rw [List.length_map, List.length_map]) (by rw [List.length_map]; omega) fun i u e h1 h2 => ?_)
  rw [List.getElem?_map] at h1 h2
  obtain ⟨j, q, rfl⟩ := Option.map_eq_some_iff.mp h1
  rw [q] at h2
  cases h2
  exact Tr.flat (.int _)
theorem nums_td {H : Hp} {a : Addr} {l : List Nat} (h : H a = some (.lst (numsV l))) (k : l.length ≤ 1000) : TD H 1 (.ref a) (.list (numsD l)) := TD.of (tr_nums h k)
def itD (ps : List Nat) (m : Nat → Nat) : PyData := .list (ps.map fun p : Nat => .tuple [.int (p : Int), .int (m p : Int)])
theorem it_td {H : Hp} {a : Addr} {ps : List Nat} {m : Nat → Nat} {ts : List Addr} (h : H a = some (.lst (ts.map V.ref))) (p : Paired (fun (t : Addr) (q : Key × V) => H t = some (.tup [kV q.1, q.2])) ts (mV ps m)) (l : ps.length ≤ 1000) : TD H 2 (.ref a) (itD ps m) := by
  unfold itD
  have lp := paired_len p
  rw [dV_len] at lp
  refine TD.lst h (by rw [List.length_map, List.length_map]; exact lp) (by rw [List.length_map]; exact l) fun i u e h1 h2 => ?_
  rw [List.getElem?_map] at h1 h2
  obtain ⟨t, q, rfl⟩ := Option.map_eq_some_iff.mp h1
  obtain ⟨r, q2, rfl⟩ := Option.map_eq_some_iff.mp h2
  obtain ⟨y, e1, e2⟩ := paired_get1 p q
  have e3 : (mV ps m)[i]? = some (ky r, .int (m r : Int)) := by
    unfold mV dV
    rw [List.getElem?_map, q2]
    rfl
  rw [e3] at e1
  cases e1
  exact TD.of (Tr.tup (n := 0) e2 rfl (by simp) (tr_cons (Tr.flat (.int _)) (tr_cons (Tr.flat (.int _)) tr_nil)))
theorem dp_list {α : Type} {K : PySem.W.Frag} {H : Hp} : ∀ {ts : List Nat}, DpAll K H (numsV ts) (numsD ts)
  | [] => .nil
  | t :: ts => .cons (.int _) (dp_list (α := α))
theorem lay_nums : ∀ l : List Nat, PyData.canLayAll0 (numsD l) = true ∧ PyData.depthAll (numsD l) = 0
  | [] => ⟨rfl, rfl⟩
  | x :: l => by
    obtain ⟨h1, h2⟩ := lay_nums l
    constructor
    · show PyData.canLayAll0 (.int (x : Int) :: numsD l) = true
      simp only [PyData.canLayAll0, PyData.canLay0, h1, Bool.and_self]
    · show PyData.depthAll (.int (x : Int) :: numsD l) = 0
      simp only [PyData.depthAll, PyData.depth, h2]
      rfl
theorem shaped_nums (l : List Nat) : SeqAt.shaped (.list (numsD l)) = true := by
  obtain ⟨h1, h2⟩ := lay_nums l
  unfold SeqAt.shaped
  rw [Bool.and_eq_true]
  constructor
  · simp only [PyData.canLay0]
    exact h1
  · refine decide_eq_true ?_
    simp only [PyData.depth, h2]
    decide
theorem eqv_nums : ∀ l : List Nat, PyData.eqvAll (numsD l) (numsD l) = true
  | [] => by simp [numsD, PyData.eqvAll]
  | x :: l => by
    show PyData.eqvAll (.int (x : Int) :: numsD l) (.int (x : Int) :: numsD l) = true
    simp only [PyData.eqvAll, PyData.eqv, eqv_nums l, Bool.and_true]
    simp
/-- the keys of a merge -/
theorem putK_keys {kvs : List (Key × V)} {k : Key} {v : V} (j : Key) : (∃ x, (j, x) ∈ putK kvs k v) ↔ (∃ x, (j, x) ∈ kvs) ∨ j = k := by
  unfold putK
  split
  · next h =>
    rw [List.any_eq_true] at h
    obtain ⟨q, hq, e⟩ := h
    have e : q.1 = k := of_decide_eq_true e
    constructor
    · rintro ⟨x, hx⟩
      obtain ⟨r, hr, e2⟩ := List.mem_map.mp hx
      split at e2
      · next z =>
        cases e2
        exact .inr z
      · cases e2
        exact .inl ⟨_, hr⟩
    · rintro (⟨x, hx⟩ | rfl)
      · by_cases z : j = k
        · exact ⟨v, List.mem_map.mpr ⟨(j, x), hx, by simp [z]⟩⟩
        · exact ⟨x, List.mem_map.mpr ⟨(j, x), hx, by simp [z]⟩⟩
      · exact ⟨v, List.mem_map.mpr ⟨q, hq, by simp [e]⟩⟩
  · constructor
    · rintro ⟨x, hx⟩
      rcases List.mem_append.mp hx with hx | hx
      · exact .inl ⟨x, hx⟩
      · rw [List.mem_singleton] at hx
        cases hx
        exact .inr rfl
    · rintro (⟨x, hx⟩ | rfl)
      · exact ⟨x, List.mem_append_left _ hx⟩
      · exact ⟨v, List.mem_append_right _ List.mem_cons_self⟩
theorem merge_keys (j : Key) : ∀ (more kvs : List (Key × V)), (∃ x, (j, x) ∈ mergeK kvs more) ↔ (∃ x, (j, x) ∈ kvs) ∨ ∃ x, (j, x) ∈ more
  | [], kvs => by simp [mergeK]
  | q :: more, kvs => by
    have e : mergeK kvs (q :: more) = mergeK (putK kvs q.1 q.2) more := rfl
    rw [e, merge_keys j more, putK_keys]
    constructor
    · rintro ((h | h) | ⟨x, hx⟩)
      · exact .inl h
      · exact .inr ⟨q.2, by rw [h]; exact List.mem_cons_self⟩
      · exact .inr ⟨x, List.mem_cons_of_mem _ hx⟩
    · rintro (h | ⟨x, hx⟩)
      · exact .inl (.inl h)
      · rcases List.mem_cons.mp hx with e2 | hx
        · exact .inl (.inr (by rw [← e2]))
        · exact .inr ⟨x, hx⟩
theorem val_some {kvs : List (Key × V)} {k : Key} : (valV kvs k).isSome = true ↔ ∃ x, (k, x) ∈ kvs := by
  unfold valV
  rw [Option.isSome_map, List.find?_isSome]
  constructor
  · rintro ⟨q, hq, e⟩
    have e : q.1 = k := by simpa using e
    exact ⟨q.2, by rw [← e]; exact hq⟩
  · rintro ⟨x, hx⟩
    exact ⟨_, hx, by simp⟩
end K27
set_option Elab.async false
set_option linter.all false
set_option maxRecDepth 100000
set_option maxHeartbeats 8000000
namespace K27
open PySem PySem.Spec PyProof.Rows L2 KB LiI
def frK (ks : List Nat) (ds : List Dd) (m : Nat → Nat) : List Nat := (offK ks ds m).filter fun p => !waitsB ds m p
def spMayGo : Sp := fun vs H Q _ => ∃ (a b : Addr) (ds : List Dd) (ks : List Nat) (m : Nat → Nat), vs = [.ref a, .ref b] ∧ LogAt H a ds ∧ Lg ds ∧ Bd ds ∧ MkAt H b ks m ∧ ks.Perm (pgs ds) ∧ Rt ds m ∧
  ∀ q H', Same H H' → H q = none → H' q = some (.lst (numsV (frK ks ds m))) → Q (.ref q) H'
section
variable {P : Program} {w : World} {K : PySem.W.Frag} {mg : Str → Option Value} {base : Heap}
abbrev s_may_go : Stmt := top 65
abbrev N_may_go : List Str := ["_law_log_here", "_law_marks_here", "_law_page"]
theorem sc_may_go : FnScope N_may_go ["_law_log_here", "_law_marks_here"] (defScope s_may_go) := ⟨rfl, rfl, rfl, by decide +kernel, rfl, by decide +kernel, by decide +kernel⟩
theorem ok_may_go {f : Addr} {fd : FuncData} (F : FnP K "_law_may_go" s_may_go f fd) (Z : FreeS mg)
    {f_behind : Addr} {d_behind : FuncData} (g_behind : mg "_law_behind" = some (.ref f_behind)) (F_behind : FnP K "_law_behind" s_behind f_behind d_behind) (G_behind : FnOk P w K mg base CX0 4 f_behind d_behind ["_law_log_here", "_law_marks_here"] spBehind)
    {f_too_new : Addr} {d_too_new : FuncData} (g_too_new : mg "_law_too_new" = some (.ref f_too_new)) (F_too_new : FnP K "_law_too_new" s_too_new f_too_new d_too_new) (G_too_new : FnOk P w K mg base CX0 1 f_too_new d_too_new ["_law_log_here", "_law_marks_here"] spTooNew)
    {f_written : Addr} {d_written : FuncData} (g_written : mg "_law_written" = some (.ref f_written)) (F_written : FnP K "_law_written" s_written f_written d_written) (G_written : FnOk P w K mg base CX0 4 f_written d_written ["_law_log_here", "_law_marks_here", "_law_some"] spWritten) :
    FnOk P w K mg base CX0 5 f fd ["_law_log_here", "_law_marks_here"] spMayGo := by
  have b_behind : Binds K d_behind ["_law_log_here", "_law_marks_here"] [] := F_behind.bindsN fun _ _ _ _ _ _ us hl => match us, hl with | [_, _], _ => rfl
  have b_too_new : Binds K d_too_new ["_law_log_here", "_law_marks_here"] [] := F_too_new.bindsN fun _ _ _ _ _ _ us hl => match us, hl with | [_, _], _ => rfl
  have b_written : Binds K d_written ["_law_log_here", "_law_marks_here", "_law_some"] [] := F_written.bindsN fun _ _ _ _ _ _ us hl => match us, hl with | [_, _, _], _ => rfl
  refine F.ok sc_may_go (fun vs H Q E h => ?_) (fun cdv A outer s H vs Q E hr h => ?_)
  · obtain ⟨a, b, ds, ks, m, rfl, _⟩ := h
    rfl
  · obtain ⟨a, b, ds, ks, m, rfl, hL, hG, bd, hb, pk, rt, k⟩ := h
    have pl : ks.length ≤ 30 := by rw [pk.length_eq]; exact hG.pl
    have sl : (3000 : Nat) ≤ sizeLine := by decide
    have hu0 : _ < cLine := Nat.lt_of_le_of_lt (Nat.le_add_right _ _) (Nat.lt_of_le_of_lt (Nat.add_le_add_right (Nat.le_add_right _ _) _) hr.un)
    have nd := sc_may_go.nd
    refine ⟨_, PSs.nox (pss_one (ps_ret (pe_lc (own := [("_law_page", 2)]) (g := gName 2) (tt := tTest (tOp (rEmp K false) (tCall spTooNew [] E0 (tCons (tVar 0) (tCons (tCall spWritten [] E0 (tCons (tVar 0) (tCons (tVar 1) (tCons (tLst (tCons (tVar 2) (tNil))) (tNil))))) (tNil)))) (tLst (tNil)))) (te := tVar 2) (by rfl) nd (pi_list (pe_call G_behind (hr.mono (by decide)) rfl g_behind F_behind.kp b_behind .nil pass0 (pa_cons (pv 0) (pa_cons (pv 1) (pa_nil)))))
          (blkOk_by (own := [("_law_page", 2)]) (N := N_may_go) (sc := defScope s_may_go) (by decide +kernel)) (fun _ _ _ _ _ => pg_name (i := 2) nd rfl (Or.inl rfl)) (fun _ _ _ _ _ => pts_one (pt_cmpR (op_eqE hu0) (pe_call G_too_new (hr.mono (by decide)) rfl g_too_new F_too_new.kp b_too_new .nil pass0 (pa_cons (pv 0) (pa_cons (pe_call G_written (hr.mono (by decide)) rfl g_written F_written.kp b_written .nil pass0 (pa_cons (pv 0) (pa_cons (pv 1) (pa_cons (pe_lst (pa_cons (pv 2) (pa_nil))) (pa_nil))))) (pa_nil)))) (pe_lst (pa_nil)) (nomark _)))
          (fun _ _ _ _ _ => pv 2)))), ?_⟩
    have lo : (offK ks ds m).length ≤ 30 := Nat.le_trans (List.length_filter_le _ _) pl
    have ln : (numsV (offK ks ds m)).length = (offK ks ds m).length := List.length_map _
    refine ⟨_, rfl, _, rfl, a, b, ds, ks, m, rfl, hL, hG, bd, hb, pk, fun q G s1 nq hq => ⟨q, rfl, ⟨_, SqL.of hq⟩, fun D hD => ?_⟩⟩
    refine lc_sel (n := (numsV (offK ks ds m)).length) (walk_list (K := K) (a := q) (xs := numsV (offK ks ds m))) (fun i => ((offK ks ds m)[i]?).bind fun p => if (!waitsB ds m p) = true then some (V.int (p : Int)) else none) (by omega) hD (fun G s2 => SqL.of (s2 _ _ hq)) ?_ ?_
    · rintro i x G3 G4 Qy Qn hi s3 ⟨rfl, hv⟩ ky_ kn
      have li : i < (offK ks ds m).length := by omega
      unfold numsV at hv
      rw [List.getElem?_map, List.getElem?_eq_getElem li] at hv
      obtain rfl := Option.some.inj hv
      rw [List.getElem?_eq_getElem li, Option.bind_some] at ky_ kn
      have s13 := s1.trans s3
      refine ⟨rfl, _, rfl, _, rfl, _, rfl, _, rfl, (by show 1 ≤ sizeLine; omega), fun A1 hA1 => ?_⟩
      have s4 := Same.updf (o := .lst [V.int ((offK ks ds m)[i] : Int)]) hA1
      have s14 := s13.trans s4
      refine ⟨a, b, A1, ds, ks, m, [(offK ks ds m)[i]], rfl, hL.same s14, hG, bd, s14 _ _ hb, pk, upd_same, by simp, fun q2 G5 s5 nq2 hq2 => ?_⟩
      refine ⟨a, q2, ds, ks, _, rfl, hL.same (s14.trans s5), hG, hq2, pk, fun q3 ys G6 s6 nq3 hq3 py => ⟨Nat.zero_le _, fun E hE => ?_⟩⟩
      have s7 := Same.updf (o := .lst []) hE
      refine ⟨q3, E, ys, rfl, rfl, SqL.of (s7 _ _ hq3), SqL.of upd_same, _, rfl, ?_⟩
      have e : (ys.isEmpty != false) = !waitsB ds m (offK ks ds m)[i] := by
        rw [← one_iff hG rt]
        have l := paired_len py
        cases ys with
        | nil =>
          rw [List.length_eq_zero_iff.mp l]
          rfl
        | cons y ys =>
          cases hw : wr ds (wrtM ds m [(offK ks ds m)[i]]) with
          | nil =>
            rw [hw] at l
            cases l
          | cons w ws => rfl
      rw [e]
      have sAll : Same G4 _ := s4.trans (s5.trans (s6.trans s7))
      cases hc : !waitsB ds m (offK ks ds m)[i] with
      | true =>
        rw [hc] at ky_
        exact iteT ⟨_, rfl, ky_ _ _ sAll rfl⟩
      | false =>
        rw [hc] at kn
        exact iteF (kn _ sAll rfl)
    · intro G3 s3 hR
      rw [ln, sel_bool] at hR
      exact k D G3 (s1.trans s3) (none_back s1 hD) hR
end
end K27
set_option Elab.async false
set_option linter.all false
set_option maxRecDepth 100000
set_option maxHeartbeats 8000000
namespace K27
open PySem PySem.Spec PyProof.Rows L2 KB LiI
/-- y is a list of numbers that was not there -/
def GrAt (H0 H : Hp) (g : List Nat) (y : V) : Prop := ∃ b, y = .ref b ∧ H0 b = none ∧ H b = some (.lst (numsV g))
theorem GrAt.same {H0 H H' : Hp} (s : Same H H') {g : List Nat} {y : V} : GrAt H0 H g y → GrAt H0 H' g y := fun ⟨b, e, n, h⟩ => ⟨b, e, n, s _ _ h⟩
theorem GrAt.back {H0 H1 H : Hp} (s : Same H0 H1) {g : List Nat} {y : V} : GrAt H1 H g y → GrAt H0 H g y := fun ⟨b, e, n, h⟩ => ⟨b, e, none_back s n, h⟩
def spLayers : Sp := fun vs H Q _ => ∃ (q : Addr) (ps : List Nat) (L : Nat → List Nat) (at_ : Nat → Addr), vs = [.ref q] ∧ LstsAt H q ps L at_ ∧ ps.Nodup ∧ ps.length ≤ 40 ∧ (∀ p ∈ ps, (L p).length ≤ 1300 ∧ ∀ x ∈ L p, x ∈ ps) ∧
  ∀ T A B ys H', Same H H' → H T = none → H A = none → H B = none → H' T = some (.tup [.ref A, .ref B]) → H' A = some (.lst ys) → Paired (GrAt H H') (lay L ps).1 ys → H' B = some (.lst (numsV (lay L ps).2)) → Q (.ref T) H'
def spNextW : Sp := fun vs H Q _ => ∃ (q a : Addr) (ps l : List Nat) (L : Nat → List Nat) (at_ : Nat → Addr) (p : Nat), vs = [.ref q, .ref a, .int (p : Int)] ∧ LstsAt H q ps L at_ ∧ p ∈ ps ∧ (L p).length ≤ 1300 ∧ H a = some (.lst (numsV l)) ∧ (∃ x ∈ L p, x ∈ l) ∧
  ∀ x H', Same H H' → x ∈ l → Q (.int (x : Nat)) H'
theorem lc_nums {K : PySem.W.Frag} {l : List Nat} {a : Addr} {g : TG} {tt : TT} {te : TE} {vs : List Nat} {σ : L2.St} {H1 : Hp} {D : Addr} {Qd : Hp → Prop} (c : Nat → Bool) (hn : l.length ≤ 100000) (ha : H1 a = some (.lst (numsV l))) (hD : H1 D = none)
    (hs : ∀ p H (Qy : V → Hp → Prop) (Qn : Hp → Prop), p ∈ l → Same H1 H → (∀ H4, Same H H4 → c p = true → Qy (.int (p : Int)) H4) → (∀ H4, Same H H4 → c p = false → Qn H4) →
      g (.int (p : Int)) (wipe σ vs) H fun σ2 H2 => wipe σ2 vs = wipe σ vs ∧ tt σ2 H2 fun b H3 => if b = true then te σ2 H3 Qy else Qn H3)
    (hd : ∀ H, Same H1 H → H D = some (.lst (numsV (l.filter c))) → Qd H) :
    ∃ W : Nat → Nat → Hp → Prop, (∃ m, W 0 m (upd H1 D (.lst []))) ∧ ∀ i m H, W i m H →
      ((Itl K a).stop i H ∧ Qd H) ∨ ((Itl K a).go i H ∧ ∃ Nx : Hp → Prop, (∀ H', Nx H' → ∃ m', m' < m ∧ W (i + 1) m' H') ∧ ∀ x H', (Itl K a).yld i H x H' → g x (wipe σ vs) H' fun σ2 H2 => wipe σ2 vs = wipe σ vs ∧ tt σ2 H2 fun b H3 =>
        if b = true then te σ2 H3 fun y H4 => ∃ acc, H4 D = some (.lst acc) ∧ acc.length < sizeLine ∧ Nx (upd H4 D (.lst (acc ++ [y]))) else Nx H3) := by
  have ln : (numsV l).length = l.length := List.length_map _
  refine lc_sel (n := (numsV l).length) (walk_list (K := K) (a := a) (xs := numsV l)) (fun j => (l[j]?).bind fun x => if c x = true then some (V.int (x : Int)) else none) (by omega) hD (fun H2 s3 => SqL.of (s3 _ _ ha)) ?_ ?_
  · rintro j v H5 H6 Qy Qn hj s5 ⟨rfl, hy⟩ ky_ kn
    have lj : j < l.length := by omega
    unfold numsV at hy
    rw [List.getElem?_map, List.getElem?_eq_getElem lj] at hy
    obtain rfl := Option.some.inj hy
    rw [List.getElem?_eq_getElem lj, Option.bind_some] at ky_ kn
    exact hs _ _ Qy Qn (List.getElem_mem lj) s5 (fun H4 s4 e => ky_ _ _ s4 (by rw [if_pos e])) (fun H4 s4 e => kn _ s4 (by rw [e]; rfl))
  · intro H5 s5 hR
    rw [ln, sel_bool] at hR
    exact hd H5 s5 hR
theorem lc_bools {K : PySem.W.Frag} {l : List Nat} {a : Addr} {g : TG} {tt : TT} {te : TE} {vs : List Nat} {σ : L2.St} {H1 : Hp} {D : Addr} {Qd : Hp → Prop} (c : Nat → Bool) (hn : l.length ≤ 100000) (ha : H1 a = some (.lst (numsV l))) (hD : H1 D = none)
    (hs : ∀ p H (Qy : V → Hp → Prop) (Qn : Hp → Prop), p ∈ l → Same H1 H → (∀ H4, Same H H4 → Qy (.bl (c p)) H4) →
      g (.int (p : Int)) (wipe σ vs) H fun σ2 H2 => wipe σ2 vs = wipe σ vs ∧ tt σ2 H2 fun b H3 => if b = true then te σ2 H3 Qy else Qn H3)
    (hd : ∀ H, Same H1 H → H D = some (.lst ((l.map c).map V.bl)) → Qd H) :
    ∃ W : Nat → Nat → Hp → Prop, (∃ m, W 0 m (upd H1 D (.lst []))) ∧ ∀ i m H, W i m H →
      ((Itl K a).stop i H ∧ Qd H) ∨ ((Itl K a).go i H ∧ ∃ Nx : Hp → Prop, (∀ H', Nx H' → ∃ m', m' < m ∧ W (i + 1) m' H') ∧ ∀ x H', (Itl K a).yld i H x H' → g x (wipe σ vs) H' fun σ2 H2 => wipe σ2 vs = wipe σ vs ∧ tt σ2 H2 fun b H3 =>
        if b = true then te σ2 H3 fun y H4 => ∃ acc, H4 D = some (.lst acc) ∧ acc.length < sizeLine ∧ Nx (upd H4 D (.lst (acc ++ [y]))) else Nx H3) := by
  have ln : (numsV l).length = l.length := List.length_map _
  refine lc_sel (n := (numsV l).length) (walk_list (K := K) (a := a) (xs := numsV l)) (fun j => (l[j]?).map fun x => V.bl (c x)) (by omega) hD (fun H2 s3 => SqL.of (s3 _ _ ha)) ?_ ?_
  · rintro j v H5 H6 Qy Qn hj s5 ⟨rfl, hy⟩ ky_ kn
    have lj : j < l.length := by omega
    unfold numsV at hy
    rw [List.getElem?_map, List.getElem?_eq_getElem lj] at hy
    obtain rfl := Option.some.inj hy
    rw [List.getElem?_eq_getElem lj, Option.map_some] at ky_
    exact hs _ _ Qy Qn (List.getElem_mem lj) s5 (fun H4 s4 => ky_ _ _ s4 rfl)
  · intro H5 s5 hR
    refine hd H5 s5 ?_
    rw [hR, ln]
    refine congrArg (fun z => some (HO.lst z)) ?_
    refine List.ext_getElem? fun j => ?_
    have key : ∀ m : Nat, (List.range m).filterMap (fun j => (l[j]?).map fun x => V.bl (c x)) = ((l.take m).map c).map V.bl := fun m => by
      induction m with
      | zero => rfl
      | succ m ih =>
        rw [List.range_succ, List.filterMap_append, ih, List.take_succ, List.map_append, List.map_append]
        cases h : l[m]? <;> simp [h]
    rw [key, List.take_length]
theorem dV_keys (ps : List Nat) (f : Nat → V) : ((dV ps f).map fun kv => kV kv.1) = numsV ps := by
  unfold dV numsV
  rw [List.map_map]
  rfl
theorem fr_first {A : Nat → List Nat} {l : List Nat} (h : ∀ p ∈ l, ∀ x ∈ A p, x ∈ l) : l.filter (fun p => (A p).isEmpty) = frF A l := by
  refine List.filter_congr fun p hp => ?_
  cases e : A p with
  | nil => rfl
  | cons x r =>
    have : x ∈ l := h p hp x (by rw [e]; exact List.mem_cons_self)
    simp [this]
theorem rs_next {A : Nat → List Nat} (l : List Nat) : l.filter (fun p => !decide (p ∈ frF A l)) = rsF A l := by
  refine List.filter_congr fun p hp => ?_
  rw [Bool.eq_iff_iff]
  simp [frF, hp]
theorem lay_stop {A : Nat → List Nat} {l : List Nat} (e : frF A l = []) : lay A l = ([], l) := by
  unfold lay
  cases h : l.length with
  | zero => rfl
  | succ k => rw [lay_succ, if_pos e]
theorem lay_step {A : Nat → List Nat} {l : List Nat} (e : frF A l ≠ []) : lay A l = (frF A l :: (lay A (rsF A l)).1, (lay A (rsF A l)).2) := by
  have h1 := fr_rs A l
  have h2 : 0 < (frF A l).length := List.length_pos_iff.mpr e
  unfold lay
  cases h : l.length with
  | zero => omega
  | succ k => rw [lay_succ, if_neg e, lay_more A k (rsF A l).length _ (by omega) (by omega)]
section
variable {P : Program} {w : World} {K : PySem.W.Frag} {mg : Str → Option Value} {base : Heap}
abbrev s_layers_of : Stmt := top 32
abbrev N_layers_of : List Str := ["ahead", "left", "layers", "free", "page", "other"]
theorem sc_layers_of : FnScope N_layers_of ["ahead"] (defScope s_layers_of) := ⟨rfl, rfl, rfl, by decide +kernel, rfl, by decide +kernel, by decide +kernel⟩
theorem ok_layers_of {f : Addr} {fd : FuncData} (F : FnP K "layers_of" s_layers_of f fd) (Z : FreeS mg) :
    FnOk P w K mg base CX0 2 f fd ["ahead"] spLayers := by
  refine F.ok sc_layers_of (fun vs H Q E h => ?_) (fun cdv A outer s H vs Q E hr h => ?_)
  · obtain ⟨q, ps, L, at_, rfl, _⟩ := h
    rfl
  · obtain ⟨q, ps, L, at_, rfl, hD, nd0, l40, sub, k⟩ := h
    have sl : (3000 : Nat) ≤ sizeLine := by decide
    have hu65 : _ + 65 < cLine := Nat.lt_of_le_of_lt (Nat.add_le_add_left (by decide : 65 ≤ 200) _) (Nat.lt_of_le_of_lt (Nat.add_le_add_right (Nat.le_add_right _ _) _) hr.un)
    have hu := Nat.lt_of_le_of_lt (Nat.add_le_add_left (by decide : 1 ≤ 65) _) hu65
    have nd := sc_layers_of.nd
    refine ⟨_, PSs.nox (pss_cons (ps_set (i := 1) nd rfl (Or.inr rfl) (pe_callTy (call_list_dK rfl) (by rfl) Z.tlist (by decide +kernel) (pa_cons (pv 0) (pa_nil))))
      (pss_cons (ps_set (i := 2) nd rfl (Or.inl rfl) (pe_lst (pa_nil)))
      (pss_cons (ps_set (i := 3) nd rfl (Or.inr rfl) (pe_lc (own := [("page", 4)]) (g := gName 4) (tt := tNot (fun σ H Q => tDGet (tVar 0) (tVar 4) σ H fun x H1 => ∃ k, TruV K x H1 k ∧ Q k H1)) (te := tVar 4) (by rfl) nd (pi_list (pv 1))
          (blkOk_by (own := [("page", 4)]) (N := N_layers_of) (sc := defScope s_layers_of) (by decide +kernel)) (fun _ _ _ _ _ => pg_name (i := 4) nd rfl (Or.inl rfl)) (fun _ _ _ _ _ => pts_one (pt_not (pt_truth (pe_dget hu (pv 0) (pv 4) (fun _ _ => rfl)) (fun _ => rfl))))
          (fun _ _ _ _ _ => pv 4)))
      (pss_cons (ps_while PassesOwn.never (pt_truth (pv 3) (fun _ => rfl)) (pss_cons (ps_expr (pe_bm PySem.F.plainAttrs_list PySem.F.slot_list_append PySem.F.type_list_append mt_append (pv 2) (pa_cons (pv 3) (pa_nil))))
      (pss_cons (ps_set (i := 1) nd rfl (Or.inr rfl) (pe_lc (own := [("page", 4)]) (g := gName 4) (tt := tTest (tOp (rIn K true) (tVar 4) (tVar 3))) (te := tVar 4) (by rfl) nd (pi_list (pv 1))
          (blkOk_by (own := [("page", 4)]) (N := N_layers_of) (sc := defScope s_layers_of) (by decide +kernel)) (fun _ _ _ _ _ => pg_name (i := 4) nd rfl (Or.inl rfl)) (fun _ _ _ _ _ => pts_one (pt_cmpR op_notIn_seq (pv 4) (pv 3) (by rfl)))
          (fun _ _ _ _ _ => pv 4)))
      (pss_one (ps_set (i := 3) nd rfl (Or.inr rfl) (pe_lc (own := [("page", 4)]) (g := gName 4) (tt := tNot (tTest (tCB (rAny K) (tCons (tLc (iList K (tDGet (tVar 0) (tVar 4))) (gName 5) tYes (tOp (rIn K false) (tVar 5) (tVar 1)) [5]) tNil)))) (te := tVar 4) (by rfl) nd (pi_list (pv 1))
          (blkOk_by (own := [("page", 4)]) (N := N_layers_of) (sc := defScope s_layers_of) (by decide +kernel)) (fun _ _ _ _ _ => pg_name (i := 4) nd rfl (Or.inl rfl)) (fun _ _ _ _ _ => pts_one (pt_not (pt_val (pe_callB (cr_any rfl) (by rfl) Z.any (by decide +kernel) (pa_cons (pe_lc (own := [("other", 5)]) (g := gName 5) (tt := tYes) (te := tOp (rIn K false) (tVar 5) (tVar 1)) (by rfl) nd (pi_list (pe_dget hu (pv 0) (pv 4) (fun _ _ => rfl)))
          (blkOk_by (own := [("other", 5)]) (N := N_layers_of) (sc := ({ kind := .function, names := [(".0", .local), ("page", .local), ("any", .globalImplicit), ("ahead", .cell), ("left", .cell)], isGenerator := false, isCoroutine := false } : Scope)) (by decide +kernel)) (fun _ _ _ _ _ => pg_name (i := 5) nd rfl (Or.inl rfl)) (fun _ _ _ _ _ => pts_nil)
          (fun _ _ _ _ _ => pe_cmpR op_in_seq (pv 5) (pv 1) (by rfl))) (pa_nil))))))
          (fun _ _ _ _ _ => pv 4)))))))
      (pss_one (ps_ret (pe_tup (pa_cons (pv 2) (pa_cons (pv 1) (pa_nil)))))))))), ?_⟩
    have dg : ∀ {G : Hp} {p : Nat}, Same H G → p ∈ ps → DGet G q (.int (p : Int)) (some (.ref (at_ p))) := fun {G p} sg hp => by
      have := DGet.k (k := ky p) (sg _ _ hD.d)
      rw [dV_val hp] at this
      exact this
    have ll : ∀ {G : Hp} {p : Nat}, Same H G → p ∈ ps → G (at_ p) = some (.lst (numsV (L p))) := fun {G p} sg hp => sg _ _ (hD.l p hp)
    refine ⟨_, rfl, q, _, rfl, hD.d, fun B0 nB0 => ?_⟩
    rw [dV_keys]
    have s1 := Same.updf (o := .lst (numsV ps)) nB0
    have hB0 : upd H B0 (.lst (numsV ps)) B0 = _ := upd_same
    generalize upd H B0 (.lst (numsV ps)) = G1 at *
    refine ⟨Nat.zero_le _, fun Ly nLy => ?_⟩
    have s2 := s1.trans (Same.updf (o := .lst []) nLy)
    have hB1 := (Same.updf (o := .lst []) nLy) _ _ hB0
    have HLy := none_back s1 nLy
    have nBL := ne_of_none hB0 nLy
    have hLy : upd G1 Ly (.lst []) Ly = _ := upd_same
    have oL : ∀ {G : Hp}, Same G1 G → Same H (off G Ly) := fun {G} sg b o e => by
      rw [off_at (ne_of_none e HLy)]
      exact sg _ _ (s1 _ _ e)
    generalize upd G1 Ly (.lst []) = G2 at *
    refine ⟨_, rfl, _, rfl, ⟨_, SqL.of hB1⟩, fun C0 nC0 => ?_⟩
    refine lc_nums (fun p => (L p).isEmpty) (by omega) hB1 nC0 ?_ ?_
    · intro p G Qy Qn mp sg ky_ kn
      have sG := s2.trans sg
      refine ⟨rfl, _, rfl, _, rfl, q, _, rfl, dg sG mp, _, .inl ⟨_, SqL.of (ll sG mp), rfl⟩, ?_⟩
      have e : (!(numsV (L p)).isEmpty) = !(L p).isEmpty := by
        unfold numsV
        cases L p <;> rfl
      rw [e]
      by_cases c : (L p).isEmpty = true
      · rw [c]
        exact iteT ⟨_, rfl, ky_ _ (Same.refl _) c⟩
      · rw [Bool.not_eq_true] at c
        rw [c]
        exact iteF (kn _ (Same.refl _) c)
    intro G3 s3 hC
    rw [fr_first (fun p hp => (sub p hp).2)] at hC
    have s13 := (Same.refl G2).trans s3
    have hLy3 := s3 _ _ hLy
    have oH : Same H (off G3 Ly) := fun b o e => by
      rw [off_at (ne_of_none e HLy)]
      exact s3 _ _ (s2 _ _ e)
    refine ⟨fun m σ G => ∃ (l : List Nat) (gs : List (List Nat)) (ys : List V) (B C : Addr) (v4 v5 : Option V), m = l.length ∧ σ = [some (.ref q), some (.ref B), some (.ref Ly), some (.ref C), v4, v5] ∧ Same H (off G Ly) ∧ G Ly = some (.lst ys) ∧ Paired (GrAt H (off G Ly)) gs ys ∧ G B = some (.lst (numsV l)) ∧ B ≠ Ly ∧ H B = none ∧ G C = some (.lst (numsV (frF L l))) ∧ C ≠ Ly ∧ H C = none ∧ (∀ p ∈ l, p ∈ ps) ∧ gs.length + l.length ≤ 40 ∧ lay L ps = (gs ++ (lay L l).1, (lay L l).2),
      ⟨_, ps, [], [], B0, C0, none, none, rfl, rfl, oH, hLy3, .nil, s3 _ _ hB1, nBL, nB0, hC, (ne_of_none hLy nC0).symm, none_back s2 nC0, fun p h => h, by simpa using l40, rfl⟩, ?_⟩
    rintro m σ G ⟨l, gs, ys, B, C, v4, v5, rfl, rfl, sG, hL', py, hB, nB1, nB, hCC, nCL, nC, lps, le, el⟩
    have sHG : Same H G := sG.trans (off_le _ _)
    refine ⟨_, rfl, !(numsV (frF L l)).isEmpty, .inl ⟨_, SqL.of hCC, rfl⟩, ?_⟩
    by_cases e : frF L l = []
    · rw [e]
      refine iteF ?_
      rw [lay_stop e] at el
      refine ⟨_, rfl, _, rfl, (by show 2 ≤ sizeLine; omega), fun T hT => ?_⟩
      have sT := Same.updf (o := .tup [.ref Ly, .ref B]) hT
      refine k T Ly B ys _ (sHG.trans sT) (none_back sHG hT) HLy nB upd_same (sT _ _ hL') ?_ ?_
      · rw [el]
        show Paired _ (gs ++ []) ys
        rw [List.append_nil]
        exact paired_mono (fun g y h => h.same ((off_le _ _).trans sT)) py
      · rw [el]
        exact sT _ _ hB
    · have ne : (!(numsV (frF L l)).isEmpty) = true := by
        cases h : frF L l with
        | nil => exact absurd h e
        | cons x r => rfl
      rw [ne]
      refine iteT ⟨_, fun σ' G' h => h, ?_⟩
      have ly := paired_len py
      refine ⟨_, rfl, .inl ⟨rfl, _, SqL.of hL'⟩, _, rfl, _, _, _, rfl, rfl, hL', by omega, ?_⟩
      have oA : off (upd G Ly (.lst (ys ++ [.ref C]))) Ly = off G Ly := off_upd _ _ _
      have hA : upd G Ly (.lst (ys ++ [.ref C])) Ly = _ := upd_same
      have hB2 : upd G Ly (.lst (ys ++ [.ref C])) B = _ := (upd_ne nB1).trans hB
      have hC2 : upd G Ly (.lst (ys ++ [.ref C])) C = _ := (upd_ne nCL).trans hCC
      generalize upd G Ly (.lst (ys ++ [.ref C])) = A1 at *
      have sA : Same H A1 := by
        rw [← oA] at sG
        exact sG.trans (off_le _ _)
      refine ⟨_, rfl, _, rfl, ⟨_, SqL.of hB2⟩, fun B' nB' => ?_⟩
      refine lc_nums (fun p => !decide (p ∈ frF L l)) (by omega) hB2 nB' ?_ ?_
      · intro p G' Qy Qn mp sg ky_ kn
        refine ⟨rfl, _, rfl, _, rfl, C, _, rfl, .inl (SqL.of (sg _ _ hC2)), rfl, flat_nums2 _, _, rfl, ?_⟩
        rw [inV_nums2]
        by_cases c : p ∈ frF L l
        · rw [decide_eq_true c] at ky_ kn ⊢
          exact iteF (kn _ (Same.refl _) rfl)
        · rw [decide_eq_false c] at ky_ kn ⊢
          exact iteT ⟨_, rfl, ky_ _ (Same.refl _) rfl⟩
      intro A2 s12 hB3
      rw [rs_next] at hB3
      have sA2 := sA.trans s12
      refine ⟨_, rfl, _, rfl, ⟨_, SqL.of hB3⟩, fun C' nC' => ?_⟩
      have lr := fr_rs L l
      have lf : 0 < (frF L l).length := List.length_pos_iff.mpr e
      refine lc_nums (fun p => !(L p).any fun x => decide (x ∈ rsF L l)) (by omega) hB3 nC' ?_ ?_
      · intro p G' Qy Qn mp sg ky_ kn
        have mps := lps p (List.mem_filter.mp mp).1
        have sG' := sA2.trans sg
        refine ⟨rfl, _, rfl, _, rfl, q, _, rfl, dg sG' mps, _, rfl, ⟨_, SqL.of (ll sG' mps)⟩, fun D nD => ?_⟩
        refine lc_bools (fun x => decide (x ∈ rsF L l)) (by have := (sub p mps).1; omega) (ll sG' mps) nD ?_ ?_
        · intro x G5 Qy5 Qn5 mx s5 k5
          refine ⟨rfl, _, rfl, _, rfl, B', _, rfl, .inl (SqL.of (s5 _ _ (sg _ _ hB3))), rfl, flat_nums2 _, ?_⟩
          have := k5 G5 (Same.refl _)
          rw [← inV_nums2] at this
          exact this
        · intro G5 s5 hD5
          refine ⟨D, _, rfl, SqL.of hD5, _, rfl, ?_⟩
          have ea : ((L p).map fun x => decide (x ∈ rsF L l)).any id = (L p).any fun x => decide (x ∈ rsF L l) := by
            rw [List.any_map]
            rfl
          rw [ea]
          cases c : (L p).any fun x => decide (x ∈ rsF L l) with
          | true =>
            rw [c] at kn
            exact iteF (kn _ s5 rfl)
          | false =>
            rw [c] at ky_
            exact iteT ⟨_, rfl, ky_ _ s5 rfl⟩
      intro A3 s23 hC3
      have s13 := s12.trans s23
      have HB' : H B' = none := none_back sA nB'
      have HC' : H C' = none := none_back sA2 nC'
      have so := off_same Ly s13
      rw [oA] at so
      refine ⟨(rsF L l).length, by omega, rsF L l, gs ++ [frF L l], ys ++ [.ref C], B', C', _, _, rfl, rfl, sG.trans so, s13 _ _ hA, ?_, s23 _ _ hB3, (ne_of_none hA nB').symm, HB', hC3, (ne_of_none (s12 _ _ hA) nC').symm, HC', fun p hp => lps p (List.mem_filter.mp hp).1, ?_, ?_⟩
      · refine paired_snoc (paired_mono (fun g y h => h.same so) py) ⟨C, rfl, nC, ?_⟩
        rw [off_at nCL]
        exact s13 _ _ hC2
      · rw [List.length_append, List.length_singleton]
        omega
      · rw [el, lay_step e]
        simp
end
end K27
set_option Elab.async false
set_option linter.all false
set_option maxRecDepth 100000
set_option maxHeartbeats 8000000
namespace K27
open PySem PySem.Spec PyProof.Rows L2 KB LiI
def spRingOf : Sp := fun vs H Q _ => ∃ (q : Addr) (ps : List Nat) (L : Nat → List Nat) (at_ : Nat → Addr), vs = [.ref q] ∧ LstsAt H q ps L at_ ∧ ps.Nodup ∧ ps.length ≤ 40 ∧ (∀ p ∈ ps, (L p).length ≤ 1300 ∧ ∀ x ∈ L p, x ∈ ps) ∧
  ∀ v H', Same H H' → ((lay L ps).2 = [] → v = .non) → ((lay L ps).2 ≠ [] → ∃ D, v = .ref D) → Q v H'
theorem at0 (x : Nat) (r : List Nat) : atI (numsV (x :: r)) 0 = some (.int (x : Int)) := atI_nat (j := 0) rfl
section
variable {P : Program} {w : World} {K : PySem.W.Frag} {mg : Str → Option Value} {base : Heap}
abbrev s_next_within : Stmt := top 34
abbrev N_next_within : List Str := ["ahead", "pages", "page", "other"]
theorem sc_next_within : FnScope N_next_within ["ahead", "pages", "page"] (defScope s_next_within) := ⟨rfl, rfl, rfl, by decide +kernel, rfl, by decide +kernel, by decide +kernel⟩
theorem ok_next_within {f : Addr} {fd : FuncData} (F : FnP K "next_within" s_next_within f fd) (Z : FreeS mg) :
    FnOk P w K mg base CX0 2 f fd ["ahead", "pages", "page"] spNextW := by
  refine F.ok sc_next_within (fun vs H Q E h => ?_) (fun cdv A outer s H vs Q E hr h => ?_)
  · obtain ⟨q, a, ps, l, L, at_, p, rfl, _⟩ := h
    rfl
  · obtain ⟨q, a, ps, l, L, at_, p, rfl, hD, mp, l13, ha, hx, k⟩ := h
    have sl : (3000 : Nat) ≤ sizeLine := by decide
    have hu65 : _ + 65 < cLine := Nat.lt_of_le_of_lt (Nat.add_le_add_left (by decide : 65 ≤ 200) _) (Nat.lt_of_le_of_lt (Nat.add_le_add_right (Nat.le_add_right _ _) _) hr.un)
    have hu := Nat.lt_of_le_of_lt (Nat.add_le_add_left (by decide : 1 ≤ 65) _) hu65
    have nd := sc_next_within.nd
    refine ⟨_, PSs.nox (pss_one (ps_ret (pe_ix ix_list (pe_lc (own := [("other", 3)]) (g := gName 3) (tt := tTest (tOp (rIn K false) (tVar 3) (tVar 1))) (te := tVar 3) (by rfl) nd (pi_list (pe_dget hu (pv 0) (pv 2) (fun _ _ => rfl)))
          (blkOk_by (own := [("other", 3)]) (N := N_next_within) (sc := defScope s_next_within) (by decide +kernel)) (fun _ _ _ _ _ => pg_name (i := 3) nd rfl (Or.inl rfl)) (fun _ _ _ _ _ => pts_one (pt_cmpR op_in_seq (pv 3) (pv 1) (by rfl)))
          (fun _ _ _ _ _ => pv 3)) (pe_int) (fun _ _ => rfl)))), ?_⟩
    have dg : DGet H q (.int (p : Int)) (some (.ref (at_ p))) := by
      have := DGet.k (k := ky p) hD.d
      rw [dV_val mp] at this
      exact this
    refine ⟨_, rfl, _, rfl, q, _, rfl, dg, _, rfl, ⟨_, SqL.of (hD.l p mp)⟩, fun D nD => ?_⟩
    refine lc_nums (fun x => decide (x ∈ l)) (by omega) (hD.l p mp) nD ?_ ?_
    · intro x G Qy Qn mx sg ky_ kn
      refine ⟨rfl, _, rfl, _, rfl, a, _, rfl, .inl (SqL.of (sg _ _ ha)), rfl, flat_nums2 _, _, rfl, ?_⟩
      rw [inV_nums2]
      by_cases c : x ∈ l
      · rw [decide_eq_true c] at ky_ kn ⊢
        exact iteT ⟨_, rfl, ky_ _ (Same.refl _) rfl⟩
      · rw [decide_eq_false c] at ky_ kn ⊢
        exact iteF (kn _ (Same.refl _) rfl)
    · intro G sG hG
      obtain ⟨x1, m1, m2⟩ := hx
      cases e : (L p).filter fun x => decide (x ∈ l) with
      | nil => exact absurd (decide_eq_true m2) (List.filter_eq_nil_iff.mp e x1 m1)
      | cons x0 r =>
        rw [e] at hG
        have m0 : x0 ∈ (L p).filter fun x => decide (x ∈ l) := by rw [e]; exact List.mem_cons_self
        exact ⟨D, _, 0, _, rfl, rfl, SqL.of hG, at0 _ _, k x0 G sG (of_decide_eq_true (List.mem_filter.mp m0).2)⟩
theorem LstsAt.same {G G' : Hp} (s : Same G G') {q : Addr} {ps : List Nat} {L : Nat → List Nat} {at_ : Nat → Addr} (h : LstsAt G q ps L at_) : LstsAt G' q ps L at_ := ⟨s _ _ h.d, fun p hp => s _ _ (h.l p hp), h.inj⟩
abbrev s_ring_of : Stmt := top 33
abbrev N_ring_of : List Str := ["ahead", "layers", "left", "row", "onward"]
theorem sc_ring_of : FnScope N_ring_of ["ahead"] (defScope s_ring_of) := ⟨rfl, rfl, rfl, by decide +kernel, rfl, by decide +kernel, by decide +kernel⟩
theorem ok_ring_of {f : Addr} {fd : FuncData} (F : FnP K "ring_of" s_ring_of f fd) (Z : FreeS mg)
    {f_layers_of : Addr} {d_layers_of : FuncData} (g_layers_of : mg "layers_of" = some (.ref f_layers_of)) (F_layers_of : FnP K "layers_of" s_layers_of f_layers_of d_layers_of) (G_layers_of : FnOk P w K mg base CX0 2 f_layers_of d_layers_of ["ahead"] spLayers)
    {f_next_within : Addr} {d_next_within : FuncData} (g_next_within : mg "next_within" = some (.ref f_next_within)) (F_next_within : FnP K "next_within" s_next_within f_next_within d_next_within) (G_next_within : FnOk P w K mg base CX0 2 f_next_within d_next_within ["ahead", "pages", "page"] spNextW) :
    FnOk P w K mg base CX0 3 f fd ["ahead"] spRingOf := by
  have b_layers_of : Binds K d_layers_of ["ahead"] [] := F_layers_of.bindsN fun _ _ _ _ _ _ us hl => match us, hl with | [_], _ => rfl
  have b_next_within : Binds K d_next_within ["ahead", "pages", "page"] [] := F_next_within.bindsN fun _ _ _ _ _ _ us hl => match us, hl with | [_, _, _], _ => rfl
  refine F.ok sc_ring_of (fun vs H Q E h => ?_) (fun cdv A outer s H vs Q E hr h => ?_)
  · obtain ⟨q, ps, L, at_, rfl, _⟩ := h
    rfl
  · obtain ⟨q, ps, L, at_, rfl, hD, nd0, l40, sub, k⟩ := h
    have sl : (3000 : Nat) ≤ sizeLine := by decide
    have nd := sc_ring_of.nd
    refine ⟨_, PSs.nox (pss_cons (ps_asg (pe_call G_layers_of (hr.mono (by decide)) rfl g_layers_of F_layers_of.kp b_layers_of .nil pass0 (pa_cons (pv 0) (pa_nil))) (pg_tup rfl (pgs_cons (pg_name (i := 1) nd rfl (Or.inl rfl)) (pgs_cons (pg_name (i := 2) nd rfl (Or.inl rfl)) (pgs_nil)))))
      (pss_cons (ps_if (pt_not (pt_truth (pv 2) (fun _ => rfl))) (pss_one (ps_ret (pe_non))) (pss_nil))
      (pss_cons (ps_set (i := 3) nd rfl (Or.inl rfl) (pe_lst (pa_cons (pe_ix ix_list (pv 2) (pe_int) (fun _ _ => rfl)) (pa_nil))))
      (pss_cons (ps_set (i := 4) nd rfl (Or.inl rfl) (pe_call G_next_within (hr.mono (by decide)) rfl g_next_within F_next_within.kp b_next_within .nil pass0 (pa_cons (pv 0) (pa_cons (pv 2) (pa_cons (pe_ix ix_list (pv 2) (pe_int) (fun _ _ => rfl)) (pa_nil))))))
      (pss_cons (ps_while PassesOwn.never (pt_cmpR op_notIn_seq (pv 4) (pv 3) (by rfl)) (pss_cons (ps_expr (pe_bm PySem.F.plainAttrs_list PySem.F.slot_list_append PySem.F.type_list_append mt_append (pv 3) (pa_cons (pv 4) (pa_nil))))
      (pss_one (ps_set (i := 4) nd rfl (Or.inl rfl) (pe_call G_next_within (hr.mono (by decide)) rfl g_next_within F_next_within.kp b_next_within .nil pass0 (pa_cons (pv 0) (pa_cons (pv 2) (pa_cons (pv 4) (pa_nil)))))))))
      (pss_one (ps_ret (pe_slice sl_list (pv 3) (po_some (pe_bm PySem.F.plainAttrs_list PySem.F.slot_list_index PySem.F.type_list_index mt_index (pv 3) (pa_cons (pv 4) (pa_nil)))) (po_none))))))))), ?_⟩
    refine ⟨_, rfl, q, ps, L, at_, rfl, hD, nd0, l40, sub, fun T A0 B ys H1 s1 nT nA nB hT hA pA hB => ?_⟩
    refine ⟨T, [_, _], rfl, .inl (.inl hT), rfl, _, [_], rfl, _, [], rfl, rfl, ?_⟩
    refine ⟨_, rfl, !(numsV (lay L ps).2).isEmpty, .inl ⟨_, SqL.of hB, rfl⟩, ?_⟩
    have lsub : ∀ p ∈ (lay L ps).2, p ∈ ps := lay_sub L ps.length ps
    have lnx : ∀ p ∈ (lay L ps).2, ∃ x ∈ L p, x ∈ (lay L ps).2 := fun p hp => by
      obtain ⟨x, h1, h2⟩ := (left_bad (A := L) (l := ps) (List.ne_nil_of_mem hp)).2 p hp
      exact ⟨x, h2, h1⟩
    have llen : (lay L ps).2.length ≤ 40 := by
      have key : ∀ (k : Nat) (l : List Nat), (layF L k l).2.length ≤ l.length := fun k => by
        induction k with
        | zero => exact fun l => Nat.le_refl _
        | succ k ih =>
          intro l
          rw [lay_succ]
          split
          · exact Nat.le_refl _
          · have := ih (rsF L l)
            have := fr_rs L l
            show (layF L k (rsF L l)).2.length ≤ _
            omega
      exact Nat.le_trans (key _ _) l40
    cases el : (lay L ps).2 with
    | nil => exact iteT (k _ _ s1 (fun _ => rfl) (fun z => absurd el z))
    | cons x0 r =>
      have kk : ∀ D H', Same H H' → Q (.ref D) H' := fun D H' sh => k _ _ sh (fun z => by rw [el] at z; cases z) (fun _ => ⟨D, rfl⟩)
      clear k
      rw [el] at hB lsub lnx llen
      have m0 : x0 ∈ x0 :: r := List.mem_cons_self
      refine iteF ⟨_, rfl, B, _, 0, _, rfl, rfl, SqL.of hB, at0 _ _, by show 1 ≤ sizeLine; omega, fun R nR => ?_⟩
      have s2 := Same.updf (o := .lst [V.int (x0 : Int)]) nR
      have hR : upd H1 R (.lst [V.int (x0 : Int)]) R = some (.lst (numsV [x0])) := upd_same
      have HR : H R = none := none_back s1 nR
      have nBR : B ≠ R := ne_of_none hB nR
      generalize upd H1 R (.lst [V.int (x0 : Int)]) = G2 at *
      have hB2 := s2 _ _ hB
      generalize hl : x0 :: r = l at *
      have h0 : atI (numsV l) 0 = some (V.int (x0 : Int)) := by rw [← hl]; exact at0 _ _
      refine ⟨_, rfl, _, rfl, _, rfl, B, _, 0, _, rfl, rfl, SqL.of hB2, h0, q, B, ps, l, L, at_, x0, rfl, hD.same (s1.trans s2), lsub _ m0, (sub _ (lsub _ m0)).1, hB2, lnx _ m0, fun x1 G3 s3 mx1 => ?_⟩
      refine ⟨fun m σ G => ∃ (row : List Nat) (x : Nat), m = l.length - row.length ∧ σ = [some (.ref q), some (.ref A0), some (.ref B), some (.ref R), some (.int (x : Int))] ∧ Same H (off G R) ∧ G R = some (.lst (numsV row)) ∧ G B = some (.lst (numsV l)) ∧ row.Nodup ∧ (∀ y ∈ row, y ∈ l) ∧ x ∈ l,
        ⟨_, [x0], x1, rfl, rfl, fun b o e => by
          rw [off_at (ne_of_none e HR)]
          exact s3 _ _ (s2 _ _ (s1 _ _ e)), s3 _ _ hR, s3 _ _ hB2, by simp, fun y hy => by rw [List.mem_singleton.mp hy]; exact m0, mx1⟩, ?_⟩
      rintro m σ G ⟨row, x, rfl, rfl, sG, hRr, hBG, ndr, rs, mx⟩
      have sHG : Same H G := sG.trans (off_le _ _)
      have lr : row.length ≤ l.length := ndr.length_le_of_subset rs
      refine ⟨_, rfl, _, rfl, R, _, rfl, .inl (SqL.of hRr), rfl, flat_nums2 _, _, rfl, ?_⟩
      rw [inV_nums2]
      by_cases c : x ∈ row
      · rw [decide_eq_true c]
        refine iteF ?_
        obtain ⟨j, lj, ej⟩ := List.getElem_of_mem c
        have ix : ∀ m : Nat, (numsV row)[m]? = (row[m]?).map fun y : Nat => V.int (y : Int) := fun m => List.getElem?_map
        refine ⟨_, rfl, _, rfl, .inl ⟨rfl, _, SqL.of hRr⟩, _, rfl, R, _, _, j, .int (x : Int), rfl, rfl, SqL.of hRr, rfl, flat_nums2 _, ?_, by simp [eqV], ?_, _, rfl, R, _, rfl, SqL.of hRr, fun p hp => kk p _ (sHG.trans (Same.updf hp))⟩
        · rw [ix, List.getElem?_eq_getElem lj, ej]
          rfl
        · intro m z' hm hz
          have lm : m < row.length := by omega
          rw [ix, List.getElem?_eq_getElem lm] at hz
          obtain rfl := Option.some.inj hz
          have := List.pairwise_iff_getElem.mp ndr m j lm lj hm
          rw [ej] at this
          simp [eqV]
          omega
      · rw [decide_eq_false c]
        refine iteT ⟨_, fun σ' G' h => h, ?_⟩
        have lt : row.length < l.length := by
          have := (List.nodup_cons.mpr ⟨c, ndr⟩).length_le_of_subset (l₂ := l) (fun y hy => by
            rcases List.mem_cons.mp hy with rfl | hy
            · exact mx
            · exact rs y hy)
          rw [List.length_cons] at this
          omega
        refine ⟨_, rfl, .inl ⟨rfl, _, SqL.of hRr⟩, _, rfl, _, _, _, rfl, rfl, hRr, by unfold numsV; rw [List.length_map]; omega, ?_⟩
        have oA : off (upd G R (.lst (numsV row ++ [.int (x : Int)]))) R = off G R := off_upd _ _ _
        have hA1 : upd G R (.lst (numsV row ++ [.int (x : Int)])) R = some (.lst (numsV (row ++ [x]))) := by
          rw [numsV_snoc]
          exact upd_same
        have hB3 : upd G R (.lst (numsV row ++ [.int (x : Int)])) B = _ := (upd_ne nBR).trans hBG
        generalize upd G R (.lst (numsV row ++ [.int (x : Int)])) = A1 at *
        have sA : Same H A1 := by
          rw [← oA] at sG
          exact sG.trans (off_le _ _)
        refine ⟨_, rfl, _, rfl, _, rfl, q, B, ps, l, L, at_, x, rfl, hD.same sA, lsub _ mx, (sub _ (lsub _ mx)).1, hB3, lnx _ mx, fun x2 A2 s12 mx2 => ?_⟩
        have so := off_same R s12
        rw [oA] at so
        refine ⟨l.length - (row ++ [x]).length, by rw [List.length_append, List.length_singleton]; omega, row ++ [x], x2, rfl, rfl, sG.trans so, s12 _ _ hA1, s12 _ _ hB3, ?_, ?_, mx2⟩
        · rw [List.nodup_append]
          exact ⟨ndr, by simp, fun a ha b hb e => c (by rw [List.mem_singleton.mp hb] at e; exact e ▸ ha)⟩
        · intro y hy
          rcases List.mem_append.mp hy with hy | hy
          · exact rs y hy
          · rw [List.mem_singleton.mp hy]
            exact mx
end
end K27
set_option Elab.async false
set_option linter.all false
set_option maxRecDepth 100000
set_option maxHeartbeats 8000000
namespace K27
open PySem PySem.Spec PyProof.Rows L2 KB LiI StX
/-- what is left over when all is written that may be -/
def rg (ds : List Dd) (m : Nat → Nat) : List Nat := (lay (wq ds m) (offL ds m)).2
/-- marks of more pages -/
def mX (ks : List Nat) (m : Nat → Nat) (p : Nat) : Nat := if p ∈ ks then m p else 0
def spNoRing : Sp := fun vs H Q _ => ∃ (a b : Addr) (ds : List Dd) (ks : List Nat) (m : Nat → Nat), vs = [.ref a, .ref b] ∧ LogAt H a ds ∧ Lg ds ∧ MkAt H b ks m ∧ ks.Perm (pgs ds) ∧ rg ds m = [] ∧ ∀ H', Same H H' → Q .non H'
def spNextD : Sp := fun vs H Q _ => ∃ (a : Addr) (x : V) (ds : List Dd) (d : Dd), vs = [.ref a, x] ∧ LogAt H a ds ∧ Lg ds ∧ DeedAt H x d ∧ d.Ok ∧ (∀ e ∈ ds, e.n < d.n) ∧ ∀ H', Same H H' → Q .non H'
def spNeedCl : Sp := fun vs H Q _ => ∃ (a b : Addr) (x : V) (ds : List Dd) (ks : List Nat) (m : Nat → Nat) (d : Dd), vs = [.ref a, .ref b, x] ∧ LogAt H a ds ∧ Lg ds ∧ MkAt H b ks m ∧ ks.Perm (pgs ds) ∧ Mk ds m ∧ Rt ds m ∧ rg ds m = [] ∧ DeedAt H x d ∧ d.Ok ∧ (∀ e ∈ ds, e.n < d.n) ∧ ∀ H', Same H H' → Q .non H'
def spHasR : Sp := fun vs H Q _ => ∃ (a b : Addr) (x : V) (ds : List Dd) (ks : List Nat) (m : Nat → Nat) (d : Dd), vs = [.ref a, .ref b, x] ∧ LogAt H a ds ∧ Lg (ds ++ [d]) ∧ MkAt H b ks m ∧ DeedAt H x d ∧ ∀ H', Same H H' → Q (.bl (!(rg (ds ++ [d]) (mX ks m)).isEmpty)) H'
def spCloses : Sp := fun vs H Q _ => ∃ (a b : Addr) (x : V) (ds : List Dd) (ks : List Nat) (m : Nat → Nat) (d : Dd), vs = [.ref a, .ref b, x] ∧ LogAt H a ds ∧ Lg (ds ++ [d]) ∧ MkAt H b ks m ∧ ks.Perm (pgs ds) ∧ Mk ds m ∧ Rt ds m ∧ rg ds m = [] ∧ DeedAt H x d ∧ ∀ H', Same H H' → Q (.bl (!(rg (ds ++ [d]) (mX ks m)).isEmpty)) H'
theorem wq_off {ds : List Dd} {m : Nat → Nat} (hG : Lg ds) {p q : Nat} (h : q ∈ wq ds m p) : q ∈ offL ds m := by
  obtain ⟨d, hd, rfl, c, _⟩ := wq_mem.mp h
  refine offL_mem.mpr ⟨pgs_mem.mpr ⟨d, hd, (hG.ok d hd).own⟩, ?_⟩
  have := nw_max hG hd
  omega
theorem lay_pre {ds : List Dd} (hG : Lg ds) (m : Nat → Nat) : (offL ds m).length ≤ 40 ∧ ∀ p ∈ offL ds m, (wq ds m p).length ≤ 1300 ∧ ∀ x ∈ wq ds m p, x ∈ offL ds m := by
  have h1 : (offL ds m).length ≤ 30 := Nat.le_trans (List.length_filter_le _ _) hG.pl
  refine ⟨by omega, fun p _ => ⟨?_, fun x hx => wq_off hG hx⟩⟩
  have h2 := wfL_len p (sortT (wtR ds m))
  have h3 := wt_len hG m
  show (wfL (sortT (wtR ds m)) p).length ≤ 1300
  omega
theorem fm_true (n : Nat) : ((List.range n).filterMap fun _ => some (V.bl true)) = (List.replicate n true).map V.bl := by
  induction n with
  | zero => rfl
  | succ n ih =>
    rw [List.range_succ, List.filterMap_append, ih, List.replicate_succ', List.map_append]
    rfl
theorem pgs_sub {ds es : List Dd} (h : ∀ d ∈ ds, d ∈ es) : (pgs ds).length ≤ (pgs es).length := (pgs_nd ds).length_le_of_subset fun p hp => by
  obtain ⟨d, hd, hp⟩ := pgs_mem.mp hp
  exact pgs_mem.mpr ⟨d, h d hd, hp⟩
theorem lg_init {ds : List Dd} {d : Dd} (h : Lg (ds ++ [d])) : Lg ds := ⟨fun e he => h.ok e (List.mem_append_left _ he), (List.pairwise_append.mp h.asc).1, by
  have := h.len
  rw [List.length_append, List.length_singleton] at this
  omega, Nat.le_trans (pgs_sub fun e he => List.mem_append_left _ he) h.pl⟩
section
variable {P : Program} {w : World} {K : PySem.W.Frag} {mg : Str → Option Value} {base : Heap}
abbrev s_need_no_ring : Stmt := top 35
abbrev N_need_no_ring : List Str := ["deeds", "stamps"]
theorem sc_need_no_ring : FnScope N_need_no_ring ["deeds", "stamps"] (defScope s_need_no_ring) := ⟨rfl, rfl, rfl, by decide +kernel, rfl, by decide +kernel, by decide +kernel⟩
theorem ok_need_no_ring {f : Addr} {fd : FuncData} (F : FnP K "need_no_ring" s_need_no_ring f fd) (Z : FreeS mg)
    {f_ring_of : Addr} {d_ring_of : FuncData} (g_ring_of : mg "ring_of" = some (.ref f_ring_of)) (F_ring_of : FnP K "ring_of" s_ring_of f_ring_of d_ring_of) (G_ring_of : FnOk P w K mg base CX0 3 f_ring_of d_ring_of ["ahead"] spRingOf)
    {f_waited_for : Addr} {d_waited_for : FuncData} (g_waited_for : mg "waited_for" = some (.ref f_waited_for)) (F_waited_for : FnP K "waited_for" s_waited_for f_waited_for d_waited_for) (G_waited_for : FnOk P w K mg base CX0 5 f_waited_for d_waited_for ["deeds", "stamps"] spWaitF) :
    FnOk P w K mg base CX0 6 f fd ["deeds", "stamps"] spNoRing := by
  have b_ring_of : Binds K d_ring_of ["ahead"] [] := F_ring_of.bindsN fun _ _ _ _ _ _ us hl => match us, hl with | [_], _ => rfl
  have b_waited_for : Binds K d_waited_for ["deeds", "stamps"] [] := F_waited_for.bindsN fun _ _ _ _ _ _ us hl => match us, hl with | [_, _], _ => rfl
  refine F.ok sc_need_no_ring (fun vs H Q E h => ?_) (fun cdv A outer s H vs Q E hr h => ?_)
  · obtain ⟨a, b, ds, ks, m, rfl, _⟩ := h
    rfl
  · obtain ⟨a, b, ds, ks, m, rfl, hL, hG, hb, pk, nr, k⟩ := h
    have nd := sc_need_no_ring.nd
    refine ⟨_, PSs.nox (pss_one (ps_if (pt_cmpR op_notN (pe_call G_ring_of (hr.mono (by decide)) rfl g_ring_of F_ring_of.kp b_ring_of .nil pass0 (pa_cons (pe_call G_waited_for (hr.mono (by decide)) rfl g_waited_for F_waited_for.kp b_waited_for .nil pass0 (pa_cons (pv 0) (pa_cons (pv 1) (pa_nil)))) (pa_nil))) (pe_non) (nomark _)) (pss_one ps_dead) (pss_nil))), ?_⟩
    have lp := lay_pre hG m
    refine ⟨_, rfl, _, rfl, a, b, ds, ks, m, rfl, hL, hG, hb, pk, fun q G at_ s1 nq hq => ?_⟩
    refine ⟨q, _, _, at_, rfl, hq, offL_nd ds m, lp.1, lp.2, fun v G2 s2 h1 _ => ?_⟩
    obtain rfl := h1 nr
    exact ⟨rfl, _, rfl, iteF (k G2 (s1.trans s2))⟩
abbrev s_need_next_deed : Stmt := top 36
abbrev N_need_next_deed : List Str := ["deeds", "deed", "other"]
theorem sc_need_next_deed : FnScope N_need_next_deed ["deeds", "deed"] (defScope s_need_next_deed) := ⟨rfl, rfl, rfl, by decide +kernel, rfl, by decide +kernel, by decide +kernel⟩
theorem ok_need_next_deed {f : Addr} {fd : FuncData} (F : FnP K "need_next_deed" s_need_next_deed f fd) (Z : FreeS mg)
    {f_is_deed : Addr} {d_is_deed : FuncData} (g_is_deed : mg "is_deed" = some (.ref f_is_deed)) (F_is_deed : FnP K "is_deed" s_is_deed f_is_deed d_is_deed) (G_is_deed : FnOk P w K mg base CX0 4 f_is_deed d_is_deed ["value"] spDeed) :
    FnOk P w K mg base CX0 5 f fd ["deeds", "deed"] spNextD := by
  have b_is_deed : Binds K d_is_deed ["value"] [] := F_is_deed.bindsN fun _ _ _ _ _ _ us hl => match us, hl with | [_], _ => rfl
  refine F.ok sc_need_next_deed (fun vs H Q E h => ?_) (fun cdv A outer s H vs Q E hr h => ?_)
  · obtain ⟨a, x, ds, d, rfl, _⟩ := h
    rfl
  · obtain ⟨a, x, ds, d, rfl, hL, hG, hx, ok, lt, k⟩ := h
    have nd := sc_need_next_deed.nd
    refine ⟨_, PSs.nox (pss_one (ps_if (PW.pt (pw_or (pt_not (pt_val (pe_call G_is_deed (hr.mono (by decide)) rfl g_is_deed F_is_deed.kp b_is_deed .nil pass0 (pa_cons (pv 1) (pa_nil))))) (pw_or1 (pt_not (pt_val (pe_callB (cr_all rfl) (by rfl) Z.all (by decide +kernel) (pa_cons (pe_lc (own := [("other", 2)]) (g := gName 2) (tt := tYes) (te := tOp (rI0 fun i j => .bl (decide (i < j))) (tOp (rIxT K) (tVar 2) (tC (.int 0))) (tOp (rIxT K) (tVar 1) (tC (.int 0)))) (by rfl) nd (pi_list (pv 0))
          (blkOk_by (own := [("other", 2)]) (N := N_need_next_deed) (sc := defScope s_need_next_deed) (by decide +kernel)) (fun _ _ _ _ _ => pg_name (i := 2) nd rfl (Or.inl rfl)) (fun _ _ _ _ _ => pts_nil)
          (fun _ _ _ _ _ => pe_cmpR op_lt (pe_ix ix_tup (pv 2) (pe_int) (fun _ _ => rfl)) (pe_ix ix_tup (pv 1) (pe_int) (fun _ _ => rfl)) (nomark _))) (pa_nil)))))))) (pss_one (ps_dead)) (pss_nil))), ?_⟩
    obtain ⟨xs, ha, lx, hxs⟩ := id hL
    have l60 := hG.len
    obtain ⟨t, rd, tw, rfl, ht, _, _⟩ := id hx
    refine ⟨_, rfl, _, d, rfl, hx, ok, fun H1 s1 => ⟨_, rfl, iteF ⟨_, rfl, _, rfl, ⟨_, SqL.of (s1 _ _ ha)⟩, fun D nD => ?_⟩⟩⟩
    refine lc_sel (n := xs.length) (walk_list (K := K) (a := a) (xs := xs)) (fun j => some (V.bl true)) (by omega) nD (fun H2 s3 => SqL.of (s3 _ _ (s1 _ _ ha))) ?_ ?_
    · rintro j v H5 H6 Qy Qn hj s5 ⟨rfl, hv⟩ ky_ kn
      have lj : j < ds.length := by omega
      have md := List.getElem_mem lj
      have s15 := s1.trans s5
      obtain ⟨t', rd', tw', rfl, ht', _, _⟩ := (hxs j v _ hv (List.getElem?_eq_getElem lj)).same s15
      have l := lt _ md
      refine ⟨rfl, _, rfl, t', _, 0, _, rfl, rfl, SqT.of ht', rfl, _, rfl, t, _, 0, _, rfl, rfl, SqT.of (s15 _ _ ht), rfl, _, _, rfl, rfl, ky_ _ _ (Same.refl _) ?_⟩
      show some (V.bl true) = some (V.bl (decide ((ds[j].n : Int) < (d.n : Int))))
      rw [decide_eq_true (show (ds[j].n : Int) < (d.n : Int) by omega)]
    · intro G s5 hR
      rw [fm_true] at hR
      refine ⟨D, _, rfl, SqL.of hR, _, rfl, ?_⟩
      rw [show (List.replicate xs.length true).all id = true by simp]
      exact iteF (k G (s1.trans s5))
abbrev s_need_closable : Stmt := top 37
abbrev N_need_closable : List Str := ["deeds", "stamps", "deed"]
theorem sc_need_closable : FnScope N_need_closable ["deeds", "stamps", "deed"] (defScope s_need_closable) := ⟨rfl, rfl, rfl, by decide +kernel, rfl, by decide +kernel, by decide +kernel⟩
theorem ok_need_closable {f : Addr} {fd : FuncData} (F : FnP K "need_closable" s_need_closable f fd) (Z : FreeS mg)
    {f_need_right_stamps : Addr} {d_need_right_stamps : FuncData} (g_need_right_stamps : mg "need_right_stamps" = some (.ref f_need_right_stamps)) (F_need_right_stamps : FnP K "need_right_stamps" s_need_right_stamps f_need_right_stamps d_need_right_stamps) (G_need_right_stamps : FnOk P w K mg base CX0 10 f_need_right_stamps d_need_right_stamps ["deeds", "stamps"] spNeedR)
    {f_need_next_deed : Addr} {d_need_next_deed : FuncData} (g_need_next_deed : mg "need_next_deed" = some (.ref f_need_next_deed)) (F_need_next_deed : FnP K "need_next_deed" s_need_next_deed f_need_next_deed d_need_next_deed) (G_need_next_deed : FnOk P w K mg base CX0 5 f_need_next_deed d_need_next_deed ["deeds", "deed"] spNextD)
    {f_need_no_ring : Addr} {d_need_no_ring : FuncData} (g_need_no_ring : mg "need_no_ring" = some (.ref f_need_no_ring)) (F_need_no_ring : FnP K "need_no_ring" s_need_no_ring f_need_no_ring d_need_no_ring) (G_need_no_ring : FnOk P w K mg base CX0 6 f_need_no_ring d_need_no_ring ["deeds", "stamps"] spNoRing) :
    FnOk P w K mg base CX0 11 f fd ["deeds", "stamps", "deed"] spNeedCl := by
  have b_need_right_stamps : Binds K d_need_right_stamps ["deeds", "stamps"] [] := F_need_right_stamps.bindsN fun _ _ _ _ _ _ us hl => match us, hl with | [_, _], _ => rfl
  have b_need_next_deed : Binds K d_need_next_deed ["deeds", "deed"] [] := F_need_next_deed.bindsN fun _ _ _ _ _ _ us hl => match us, hl with | [_, _], _ => rfl
  have b_need_no_ring : Binds K d_need_no_ring ["deeds", "stamps"] [] := F_need_no_ring.bindsN fun _ _ _ _ _ _ us hl => match us, hl with | [_, _], _ => rfl
  refine F.ok sc_need_closable (fun vs H Q E h => ?_) (fun cdv A outer s H vs Q E hr h => ?_)
  · obtain ⟨a, b, x, ds, ks, m, d, rfl, _⟩ := h
    rfl
  · obtain ⟨a, b, x, ds, ks, m, d, rfl, hL, hG, hb, pk, mk, rt, nr, hx, ok, lt, k⟩ := h
    have nd := sc_need_closable.nd
    refine ⟨_, PSs.nox (pss_cons (ps_expr (pe_call G_need_right_stamps (hr.mono (by decide)) rfl g_need_right_stamps F_need_right_stamps.kp b_need_right_stamps .nil pass0 (pa_cons (pv 0) (pa_cons (pv 1) (pa_nil)))))
      (pss_cons (ps_expr (pe_call G_need_next_deed (hr.mono (by decide)) rfl g_need_next_deed F_need_next_deed.kp b_need_next_deed .nil pass0 (pa_cons (pv 0) (pa_cons (pv 2) (pa_nil)))))
      (pss_one (ps_expr (pe_call G_need_no_ring (hr.mono (by decide)) rfl g_need_no_ring F_need_no_ring.kp b_need_no_ring .nil pass0 (pa_cons (pv 0) (pa_cons (pv 1) (pa_nil)))))))), ?_⟩
    refine ⟨_, rfl, _, rfl, a, b, ds, ks, m, rfl, hL, hG, hb, pk, mk, rt, fun H1 s1 => ?_⟩
    refine ⟨_, rfl, _, rfl, a, x, ds, d, rfl, hL.same s1, hG, hx.same s1, ok, lt, fun H2 s2 => ?_⟩
    have s12 := s1.trans s2
    exact ⟨_, rfl, _, rfl, a, b, ds, ks, m, rfl, hL.same s12, hG, s12 _ _ hb, pk, nr, fun H3 s3 => k H3 (s12.trans s3)⟩
abbrev s_has_ring_with : Stmt := top 38
abbrev N_has_ring_with : List Str := ["deeds", "stamps", "deed", "more", "page"]
theorem sc_has_ring_with : FnScope N_has_ring_with ["deeds", "stamps", "deed"] (defScope s_has_ring_with) := ⟨rfl, rfl, rfl, by decide +kernel, rfl, by decide +kernel, by decide +kernel⟩
theorem ok_has_ring_with {f : Addr} {fd : FuncData} (F : FnP K "has_ring_with" s_has_ring_with f fd) (Z : FreeS mg)
    {f_ring_of : Addr} {d_ring_of : FuncData} (g_ring_of : mg "ring_of" = some (.ref f_ring_of)) (F_ring_of : FnP K "ring_of" s_ring_of f_ring_of d_ring_of) (G_ring_of : FnOk P w K mg base CX0 3 f_ring_of d_ring_of ["ahead"] spRingOf)
    {f_waited_for : Addr} {d_waited_for : FuncData} (g_waited_for : mg "waited_for" = some (.ref f_waited_for)) (F_waited_for : FnP K "waited_for" s_waited_for f_waited_for d_waited_for) (G_waited_for : FnOk P w K mg base CX0 5 f_waited_for d_waited_for ["deeds", "stamps"] spWaitF)
    {f_pages_of : Addr} {d_pages_of : FuncData} (g_pages_of : mg "pages_of" = some (.ref f_pages_of)) (F_pages_of : FnP K "pages_of" s_pages_of f_pages_of d_pages_of) (G_pages_of : FnOk P w K mg base CX0 1 f_pages_of d_pages_of ["deeds"] spPages) :
    FnOk P w K mg base CX0 6 f fd ["deeds", "stamps", "deed"] spHasR := by
  have b_ring_of : Binds K d_ring_of ["ahead"] [] := F_ring_of.bindsN fun _ _ _ _ _ _ us hl => match us, hl with | [_], _ => rfl
  have b_waited_for : Binds K d_waited_for ["deeds", "stamps"] [] := F_waited_for.bindsN fun _ _ _ _ _ _ us hl => match us, hl with | [_, _], _ => rfl
  have b_pages_of : Binds K d_pages_of ["deeds"] [] := F_pages_of.bindsN fun _ _ _ _ _ _ us hl => match us, hl with | [_], _ => rfl
  refine F.ok sc_has_ring_with (fun vs H Q E h => ?_) (fun cdv A outer s H vs Q E hr h => ?_)
  · obtain ⟨a, b, x, ds, ks, m, d, rfl, _⟩ := h
    rfl
  · obtain ⟨a, b, x, ds, ks, m, d, rfl, hL, hG, hb, hx, k⟩ := h
    have sl : (3000 : Nat) ≤ sizeLine := by decide
    have hu65 : _ + 65 < cLine := Nat.lt_of_le_of_lt (Nat.add_le_add_left (by decide : 65 ≤ 200) _) (Nat.lt_of_le_of_lt (Nat.add_le_add_right (Nat.le_add_right _ _) _) hr.un)
    have hu := Nat.lt_of_le_of_lt (Nat.add_le_add_left (by decide : 1 ≤ 65) _) hu65
    have nd := sc_has_ring_with.nd
    refine ⟨_, PSs.nox (pss_cons (ps_set (i := 3) nd rfl (Or.inl rfl) (pe_lst (pa_star (pv 0) (pa_cons (pv 2) pa_nil))))
      (pss_one (ps_ret (pe_cmpR op_notN (pe_call G_ring_of (hr.mono (by decide)) rfl g_ring_of F_ring_of.kp b_ring_of .nil pass0 (pa_cons (pe_call G_waited_for (hr.mono (by decide)) rfl g_waited_for F_waited_for.kp b_waited_for .nil pass0 (pa_cons (pv 3) (pa_cons (pe_dc (own := [("page", 4)]) (g := gName 4) (tt := tYes) (tk := tVar 4) (tv := tDGet2 (tVar 1) (tVar 4) (tC (.int 0))) rfl nd (pi_list (pe_call G_pages_of (hr.mono (by decide)) rfl g_pages_of F_pages_of.kp b_pages_of .nil pass0 (pa_cons (pv 3) (pa_nil)))) (blkOk_by (own := [("page", 4)]) (N := N_has_ring_with) (sc := defScope s_has_ring_with) (by decide +kernel)) (fun _ _ _ _ _ => pg_name (i := 4) nd rfl (Or.inl rfl)) (fun _ _ _ _ _ => pts_nil) (fun _ _ _ _ _ => pv 4) (fun _ _ _ _ _ => pe_dget2 hu (pv 1) (pv 4) pe_int ⟨by rfl, by rfl, by rfl, by rfl⟩)) (pa_nil)))) (pa_nil))) (pe_non) (nomark _))))), ?_⟩
    obtain ⟨xs, ha, lx, hxs⟩ := id hL
    have l60 := hG.len
    rw [List.length_append, List.length_singleton] at l60
    refine ⟨_, rfl, a, xs, rfl, .inr (SqL.of ha), _, rfl, by show (xs ++ [x]).length ≤ sizeLine; rw [List.length_append, List.length_singleton]; omega, fun M nM => ?_⟩
    have s1 := Same.updf (o := .lst (xs ++ [x])) nM
    have hM : upd H M (.lst (xs ++ [x])) M = some (.lst (xs ++ [x])) := upd_same
    have hLM : LogAt (upd H M (.lst (xs ++ [x]))) M (ds ++ [d]) := by
      refine ⟨xs ++ [x], hM, by simp [lx], fun i y e h1 h2 => ?_⟩
      by_cases li : i < xs.length
      · rw [List.getElem?_append_left li] at h1
        rw [List.getElem?_append_left (by omega)] at h2
        exact (hxs i y e h1 h2).same s1
      · rw [List.getElem?_append_right (by omega)] at h1 h2
        have z : i - xs.length = 0 := by
          have := (List.getElem?_eq_some_iff.mp h1).1
          simp at this
          omega
        rw [z] at h1
        rw [show i - ds.length = 0 by omega] at h2
        obtain rfl := Option.some.inj h1
        obtain rfl := Option.some.inj h2
        exact hx.same s1
    generalize upd H M (.lst (xs ++ [x])) = G1 at *
    generalize ds ++ [d] = es at *
    have pl := hG.pl
    refine ⟨_, rfl, _, rfl, M, es, rfl, hLM, hG, fun pq H1' s2 npq hpq => ⟨pq, rfl, ⟨_, SqL.of hpq⟩, fun D hD => ?_⟩⟩
    have s12 := s1.trans s2
    have ln : (numsV (pgs es)).length = (pgs es).length := List.length_map _
    have nb : H1' b = some (.dK (mV ks m)) := s12 _ _ hb
    refine dc_walk (walk_list (K := K) (a := pq) (xs := numsV (pgs es))) (fun i G => Same H1' G ∧ G D = some (.dK (mV ((pgs es).take i) (mX ks m))))
      ⟨Same.updf hD, upd_same⟩ (fun i G _ hh => SqL.of (hh.1 _ _ hpq)) ?_ ?_
    · rintro i y G G' hi ⟨sG, hN⟩ ⟨rfl, hv⟩
      have li : i < (pgs es).length := by omega
      unfold numsV at hv
      rw [List.getElem?_map, List.getElem?_eq_getElem li] at hv
      obtain rfl := Option.some.inj hv
      have np := tkn (pgs_nd es) li
      refine ⟨rfl, _, rfl, _, rfl, b, rfl, .inl ⟨_, Rd.of (sG _ _ nb)⟩, _, rfl, _, DGet.k (k := ky (pgs es)[i]) (sG _ _ nb), ?_⟩
      have ev : (valV (mV ks m) (ky (pgs es)[i])).getD (.int 0) = .int (mX ks m (pgs es)[i] : Int) := by
        unfold mX
        by_cases c : (pgs es)[i] ∈ ks
        · rw [mV_val c, if_pos c]
          rfl
        · rw [show valV (mV ks m) (ky (pgs es)[i]) = none from dV_none c, if_neg c]
          rfl
      rw [ev]
      refine ⟨_, ky (pgs es)[i], rfl, hN, by rw [dV_len, List.length_take]; omega, ?_⟩
      refine ⟨fun c o e => ?_, ?_⟩
      · rw [upd_ne (ne_of_none e hD)]
        exact sG _ _ e
      · rw [upd_same, dV_new np, tks li]
        refine congrArg (fun z => some (HO.dK z)) (dV_congr fun p hp => ?_)
        unfold put
        split
        · next z => rw [z]
        · rfl
    · rintro G ⟨sG, hN⟩
      rw [ln, List.take_length] at hN
      have s1G := s12.trans sG
      have s2G := s2.trans sG
      refine ⟨M, D, es, pgs es, mX ks m, rfl, hLM.same s2G, hG, hN, List.Perm.refl _, fun q G2 at_ s3 nq hq => ?_⟩
      have lp := lay_pre hG (mX ks m)
      refine ⟨q, _, _, at_, rfl, hq, offL_nd es (mX ks m), lp.1, lp.2, fun v G3 s4 h1 h2 => ⟨rfl, ?_⟩⟩
      have fin := k G3 (s1G.trans (s3.trans s4))
      unfold rg at fin
      cases c : (lay (wq es (mX ks m)) (offL es (mX ks m))).2 with
      | nil =>
        obtain rfl := h1 c
        rw [c] at fin
        exact fin
      | cons y r =>
        obtain ⟨E0', rfl⟩ := h2 (by rw [c]; exact fun z => nomatch z)
        rw [c] at fin
        exact fin
abbrev s_closes_ring : Stmt := top 39
abbrev N_closes_ring : List Str := ["deeds", "stamps", "deed"]
theorem sc_closes_ring : FnScope N_closes_ring ["deeds", "stamps", "deed"] (defScope s_closes_ring) := ⟨rfl, rfl, rfl, by decide +kernel, rfl, by decide +kernel, by decide +kernel⟩
theorem ok_closes_ring {f : Addr} {fd : FuncData} (F : FnP K "closes_ring" s_closes_ring f fd) (Z : FreeS mg)
    {f_need_closable : Addr} {d_need_closable : FuncData} (g_need_closable : mg "need_closable" = some (.ref f_need_closable)) (F_need_closable : FnP K "need_closable" s_need_closable f_need_closable d_need_closable) (G_need_closable : FnOk P w K mg base CX0 11 f_need_closable d_need_closable ["deeds", "stamps", "deed"] spNeedCl)
    {f_has_ring_with : Addr} {d_has_ring_with : FuncData} (g_has_ring_with : mg "has_ring_with" = some (.ref f_has_ring_with)) (F_has_ring_with : FnP K "has_ring_with" s_has_ring_with f_has_ring_with d_has_ring_with) (G_has_ring_with : FnOk P w K mg base CX0 6 f_has_ring_with d_has_ring_with ["deeds", "stamps", "deed"] spHasR) :
    FnOk P w K mg base CX0 12 f fd ["deeds", "stamps", "deed"] spCloses := by
  have b_need_closable : Binds K d_need_closable ["deeds", "stamps", "deed"] [] := F_need_closable.bindsN fun _ _ _ _ _ _ us hl => match us, hl with | [_, _, _], _ => rfl
  have b_has_ring_with : Binds K d_has_ring_with ["deeds", "stamps", "deed"] [] := F_has_ring_with.bindsN fun _ _ _ _ _ _ us hl => match us, hl with | [_, _, _], _ => rfl
  refine F.ok sc_closes_ring (fun vs H Q E h => ?_) (fun cdv A outer s H vs Q E hr h => ?_)
  · obtain ⟨a, b, x, ds, ks, m, d, rfl, _⟩ := h
    rfl
  · obtain ⟨a, b, x, ds, ks, m, d, rfl, hL, hG, hb, pk, mk, rt, nr, hx, k⟩ := h
    have nd := sc_closes_ring.nd
    refine ⟨_, PSs.nox (pss_cons (ps_expr (pe_call G_need_closable (hr.mono (by decide)) rfl g_need_closable F_need_closable.kp b_need_closable .nil pass0 (pa_cons (pv 0) (pa_cons (pv 1) (pa_cons (pv 2) (pa_nil))))))
      (pss_one (ps_ret (pe_call G_has_ring_with (hr.mono (by decide)) rfl g_has_ring_with F_has_ring_with.kp b_has_ring_with .nil pass0 (pa_cons (pv 0) (pa_cons (pv 1) (pa_cons (pv 2) (pa_nil)))))))), ?_⟩
    have hG0 := lg_init hG
    refine ⟨_, rfl, _, rfl, _, rfl, a, b, x, ds, ks, m, d, rfl, hL, hG0, hb, pk, mk, rt, nr, hx, hG.ok d (List.mem_append_right _ List.mem_cons_self), ?_, fun H1 s1 => ?_⟩
    · exact fun e he => (List.pairwise_append.mp hG.asc).2.2 e he d List.mem_cons_self
    · exact ⟨_, rfl, _, rfl, _, rfl, a, b, x, ds, ks, m, d, rfl, hL.same s1, hG, s1 _ _ hb, hx.same s1, fun H2 s2 => k H2 (s1.trans s2)⟩
end
end K27
set_option Elab.async false
set_option linter.all false
set_option maxRecDepth 100000
set_option maxHeartbeats 8000000
namespace K27
open PySem PySem.Spec PyProof.Rows L2 KB LiI
open Classical in
/-- of ps what p leads to -/
noncomputable def cl (L : Nat → List Nat) (ps : List Nat) (p : Nat) : List Nat := ps.filter fun q => decide (Rc (fun x y => y ∈ L x) p q)
open Classical in
theorem cl_mem {L : Nat → List Nat} {ps : List Nat} {p q : Nat} : q ∈ cl L ps p ↔ q ∈ ps ∧ Rc (fun x y => y ∈ L x) p q := by
  unfold cl
  rw [List.mem_filter, decide_eq_true_eq]
theorem Rc.in_ {R : Nat → Nat → Prop} {T : Nat → Prop} (h : ∀ x y, T x → R x y → T y) {x y : Nat} (r : Rc R x y) : T x → T y := by
  induction r with
  | refl x => exact id
  | step a _ ih => exact fun t => ih (h _ _ t a)
theorem asc_len {ps qs : List Nat} (h : qs.Nodup) (s : ∀ x ∈ qs, x ∈ ps) : qs.length ≤ ps.length := h.length_le_of_subset s
theorem nums_ints (m : List Nat) : (m.map fun x : Nat => (x : Int)).map V.int = numsV m := by
  rw [List.map_map]
  rfl
/-- what a set of pages of ps has, sorted -/
theorem set_asc {ps : List Nat} (pa : ps.Pairwise (· < ·)) {S : Int → Bool} {c : Nat → Prop} {ns : List Int} (asc : ns.Pairwise (· < ·)) (mem : ∀ z, z ∈ ns ↔ S z = true) (hS : ∀ z : Int, S z = true ↔ ∃ q : Nat, z = (q : Int) ∧ c q) :
    ∃ l : List Nat, ns = l.map (fun x : Nat => (x : Int)) ∧ l.Pairwise (· < ·) ∧ ∀ q, q ∈ l ↔ c q := by
  refine ⟨ns.map Int.toNat, ?_, ?_, fun q => ?_⟩
  · rw [List.map_map]
    refine (List.map_id ns).symm.trans (List.map_congr_left fun z hz => ?_)
    obtain ⟨q, rfl, _⟩ := (hS z).mp ((mem z).mp hz)
    rfl
  · rw [List.pairwise_map]
    refine List.Pairwise.imp_of_mem (fun {a b} ha hb h => ?_) asc
    obtain ⟨q, rfl, _⟩ := (hS a).mp ((mem a).mp ha)
    obtain ⟨r, rfl, _⟩ := (hS b).mp ((mem b).mp hb)
    simp
    omega
  · rw [List.mem_map]
    constructor
    · rintro ⟨z, hz, rfl⟩
      obtain ⟨q, rfl, h⟩ := (hS z).mp ((mem z).mp hz)
      exact h
    · exact fun h => ⟨(q : Int), (mem _).mpr ((hS _).mpr ⟨q, rfl, h⟩), rfl⟩
def spLedTo : Sp := fun vs H Q _ => ∃ (q : Addr) (ps : List Nat) (L : Nat → List Nat) (at_ : Nat → Addr) (p : Nat), vs = [.ref q, .int (p : Int)] ∧ LstsAt H q ps L at_ ∧ ps.Pairwise (· < ·) ∧ ps.length ≤ 40 ∧ (∀ p ∈ ps, (L p).length ≤ 1300 ∧ ∀ x ∈ L p, x ∈ ps) ∧ p ∈ ps ∧
  ∀ D H', Same H H' → H D = none → H' D = some (.lst (numsV (cl L ps p))) → Q (.ref D) H'
section
variable {P : Program} {w : World} {K : PySem.W.Frag} {mg : Str → Option Value} {base : Heap}
abbrev s_led_to : Stmt := top 40
abbrev N_led_to : List Str := ["ahead", "page", "found", "late", "each", "other"]
theorem sc_led_to : FnScope N_led_to ["ahead", "page"] (defScope s_led_to) := ⟨rfl, rfl, rfl, by decide +kernel, rfl, by decide +kernel, by decide +kernel⟩
theorem ok_led_to {f : Addr} {fd : FuncData} (F : FnP K "led_to" s_led_to f fd) (Z : FreeS mg) :
    FnOk P w K mg base CX0 2 f fd ["ahead", "page"] spLedTo := by
  refine F.ok sc_led_to (fun vs H Q E h => ?_) (fun cdv A outer s H vs Q E hr h => ?_)
  · obtain ⟨q, ps, L, at_, p, rfl, _⟩ := h
    rfl
  · obtain ⟨q, ps, L, at_, p, rfl, hD, pa, l40, sub, mp, k⟩ := h
    have sl : (3000 : Nat) ≤ sizeLine := by decide
    have sb : (100 : Nat) ≤ scanBound := by decide
    have hu65 : _ + 65 < cLine := Nat.lt_of_le_of_lt (Nat.add_le_add_left (by decide : 65 ≤ 200) _) (Nat.lt_of_le_of_lt (Nat.add_le_add_right (Nat.le_add_right _ _) _) hr.un)
    have hu := Nat.lt_of_le_of_lt (Nat.add_le_add_left (by decide : 1 ≤ 65) _) hu65
    have nd := sc_led_to.nd
    refine ⟨_, PSs.nox (pss_cons (ps_set (i := 2) nd rfl (Or.inr rfl) (pe_lst (pa_cons (pv 1) (pa_nil))))
      (pss_cons (ps_set (i := 3) nd rfl (Or.inl rfl) (pe_lst (pa_cons (pv 1) (pa_nil))))
      (pss_cons (ps_while PassesOwn.never (pt_truth (pv 3) (fun _ => rfl)) (pss_cons (ps_set (i := 3) nd rfl (Or.inl rfl) (pe_callB (cr_sortedSet rfl) (by rfl) Z.sorted (by decide +kernel) (pa_cons (pe_sc2I (own := [("each", 4), ("other", 5)]) (vs1 := [5]) (g := gName 4) (tt := tYes) (g1 := gName 5) (tt1 := tTest (tOp (rIn K true) (tVar 5) (tVar 2))) (wi1 := iList K (tDGet (tVar 0) (tVar 4))) (te := tVar 5) rfl nd (pi_list (pv 3)) (blkOk_by (own := [("each", 4), ("other", 5)]) (N := N_led_to) (sc := defScope s_led_to) (by decide +kernel)) (by decide) (fun _ _ _ _ _ => pg_name (i := 4) nd rfl (Or.inl rfl)) (fun _ _ _ _ _ => pts_nil) (fun _ _ _ _ _ => pi_list (pe_dget hu (pv 0) (pv 4) (fun _ _ => rfl))) (fun _ _ _ _ _ => pg_name (i := 5) nd rfl (Or.inl rfl)) (fun _ _ _ _ _ => pts_one (pt_cmpR op_notIn_seq (pv 5) (pv 2) (by rfl))) (fun _ _ _ _ _ => pv 5)) pa_nil)))
      (pss_one (ps_set (i := 2) nd rfl (Or.inr rfl) (pe_op op_cat (pv 2) (pv 3))))))
      (pss_one (ps_ret (pe_callB (cr_sorted) (by rfl) Z.sorted (by decide +kernel) (pa_cons (pv 2) (pa_nil)))))))), ?_⟩
    have dg : ∀ {G : Hp} {p : Nat}, Same H G → p ∈ ps → DGet G q (.int (p : Int)) (some (.ref (at_ p))) := fun {G p} sg hp => by
      have := DGet.k (k := ky p) (sg _ _ hD.d)
      rw [dV_val hp] at this
      exact this
    have ll : ∀ {G : Hp} {p : Nat}, Same H G → p ∈ ps → G (at_ p) = some (.lst (numsV (L p))) := fun {G p} sg hp => sg _ _ (hD.l p hp)
    refine ⟨_, rfl, by show 1 ≤ sizeLine; omega, fun F0 nF0 => ?_⟩
    have s1 := Same.updf (o := .lst [V.int (p : Int)]) nF0
    have hF0 : upd H F0 (.lst [V.int (p : Int)]) F0 = some (.lst (numsV [p])) := upd_same
    generalize upd H F0 (.lst [V.int (p : Int)]) = G1 at *
    refine ⟨_, rfl, by show 1 ≤ sizeLine; omega, fun T0 nT0 => ?_⟩
    have s2 := Same.updf (o := .lst [V.int (p : Int)]) nT0
    have hT0 : upd G1 T0 (.lst [V.int (p : Int)]) T0 = some (.lst (numsV [p])) := upd_same
    have hF1 := s2 _ _ hF0
    generalize upd G1 T0 (.lst [V.int (p : Int)]) = G2 at *
    refine ⟨fun m σ G => ∃ (fs ts : List Nat) (F T : Addr) (v4 v5 : Option V), m = 2 * (ps.length - fs.length) + ts.length.min 1 ∧ σ = [some (.ref q), some (.int (p : Int)), some (.ref F), some (.ref T), v4, v5] ∧ Same H G ∧ G F = some (.lst (numsV fs)) ∧ G T = some (.lst (numsV ts)) ∧ fs.Nodup ∧ (∀ x ∈ fs, x ∈ ps ∧ Rc (fun x y => y ∈ L x) p x) ∧ p ∈ fs ∧ (∀ x ∈ ts, x ∈ fs) ∧ ts.Nodup ∧ (∀ x ∈ fs, x ∉ ts → ∀ y ∈ L x, y ∈ fs),
      ⟨_, [p], [p], F0, T0, none, none, rfl, rfl, s1.trans s2, hF1, hT0, by simp, fun x hx => by rw [List.mem_singleton.mp hx]; exact ⟨mp, .refl _⟩, List.mem_cons_self, fun x hx => hx, by simp, fun x hx nx => absurd hx nx⟩, ?_⟩
    rintro m σ G ⟨fs, ts, F, T, v4, v5, rfl, rfl, sG, hF, hT, fnd, fin, mpf, tf, tnd, clo⟩
    have fl := asc_len fnd fun x hx => (fin x hx).1
    refine ⟨_, rfl, !(numsV ts).isEmpty, .inl ⟨_, SqL.of hT, rfl⟩, ?_⟩
    cases ts with
    | nil =>
      refine iteF ?_
      refine ⟨_, rfl, F, fs.map (fun x : Nat => (x : Int)), rfl, SqL.of (by rw [nums_ints]; exact hF), by rw [List.length_map]; omega, fun ns D hp hs hn => ?_⟩
      have e : ns = (cl L ps p).map fun x : Nat => (x : Int) := by
        have ca : (cl L ps p).Pairwise (· < ·) := pa.filter _
        have pe : fs.Perm (cl L ps p) := (List.perm_ext_iff_of_nodup fnd (ca.imp fun h => Nat.ne_of_lt h)).mpr fun x => by
          rw [cl_mem]
          exact ⟨fin x, fun h => h.2.in_ (T := fun x => x ∈ fs) (fun x y hx hy => clo x hx (fun z => nomatch z) y hy) mpf⟩
        exact le_uniq (hp.trans (pe.map _)) hs (List.pairwise_map.mpr (ca.imp fun h => by omega))
      refine k D _ (sG.trans (Same.updf hn)) (none_back sG hn) ?_
      rw [upd_same, e, nums_ints]
    | cons t0 tr =>
      generalize hts : t0 :: tr = ts at *
      have tne : ts ≠ [] := by rw [← hts]; exact fun z => nomatch z
      have tl : 0 < ts.length := List.length_pos_iff.mpr tne
      have ne : (!(numsV ts).isEmpty) = true := by rw [← hts]; rfl
      rw [ne]
      refine iteT ⟨_, fun σ' G' h => h, ?_⟩
      have tps : ∀ x ∈ ts, x ∈ ps := fun x hx => (fin x (tf x hx)).1
      have lnt : (numsV ts).length = ts.length := List.length_map _
      have ltp := asc_len tnd tps
      refine ⟨_, rfl, T, rfl, ⟨_, SqL.of hT⟩, fun D hDn => ?_⟩
      refine cl_walk (walk_list (K := K) (a := T) (xs := numsV ts)) (fun i G2 => Same G G2 ∧ ∃ S : Int → Bool, G2 D = some (SetO w D S (cnt ps S)) ∧ ∀ k : Int, S k = true ↔ ∃ y : Nat, k = (y : Int) ∧ y ∉ fs ∧ ∃ x ∈ ts.take i, y ∈ L x)
        ⟨Same.updf hDn, fun _ => false, by rw [upd_same, cnt_zero]; rfl, fun k => ⟨fun z => absurd z Bool.false_ne_true, fun ⟨_, _, _, _, h, _⟩ => by simp at h⟩⟩ (fun i G2 _ hh => SqL.of (hh.1 _ _ hT)) ?_ ?_
      · rintro i x G2 G3 hi ⟨s2', S, hS, mS⟩ ⟨rfl, hv⟩
        have li : i < ts.length := by omega
        unfold numsV at hv
        rw [List.getElem?_map, List.getElem?_eq_getElem li] at hv
        obtain rfl := Option.some.inj hv
        have mi := tps _ (List.getElem_mem li)
        have sHG := sG.trans s2'
        refine ⟨rfl, _, rfl, _, rfl, q, _, rfl, dg sHG mi, _, rfl, ⟨_, SqL.of (ll sHG mi)⟩, ?_⟩
        refine cl_walk (walk_list (K := K) (a := at_ ts[i]) (xs := numsV (L ts[i]))) (fun j G4 => Same G G4 ∧ ∃ S : Int → Bool, G4 D = some (SetO w D S (cnt ps S)) ∧ ∀ k : Int, S k = true ↔ ∃ y : Nat, k = (y : Int) ∧ y ∉ fs ∧ ((∃ x ∈ ts.take i, y ∈ L x) ∨ y ∈ (L ts[i]).take j))
          ⟨s2', S, hS, fun k => by
            rw [mS k]
            simp⟩ (fun j G4 _ hh => SqL.of (ll (sG.trans hh.1) mi)) ?_ ?_
        · rintro j y G4 G5 hj ⟨s4, S4, hS4, m4⟩ ⟨rfl, hy⟩
          have lj : j < (L ts[i]).length := by
            have := hj
            unfold numsV at this
            rw [List.length_map] at this
            exact this
          unfold numsV at hy
          rw [List.getElem?_map, List.getElem?_eq_getElem lj] at hy
          obtain rfl := Option.some.inj hy
          have my := (sub _ mi).2 _ (List.getElem_mem lj)
          have cle := cnt_le ps S4
          refine ⟨rfl, _, rfl, _, rfl, F, _, rfl, .inl (SqL.of (s4 _ _ hF)), rfl, flat_nums2 _, _, rfl, ?_⟩
          rw [inV_nums2]
          have etk : (L ts[i]).take (j + 1) = (L ts[i]).take j ++ [(L ts[i])[j]] := by
            rw [List.take_succ, List.getElem?_eq_getElem lj]
            rfl
          by_cases c : (L ts[i])[j] ∈ fs
          · rw [decide_eq_true c]
            refine iteF ⟨s4, S4, hS4, fun k' => ?_⟩
            rw [m4 k', etk]
            constructor
            · rintro ⟨y, e, ny, h⟩
              exact ⟨y, e, ny, h.imp id fun h => List.mem_append_left _ h⟩
            · rintro ⟨y, e, ny, h⟩
              refine ⟨y, e, ny, h.imp id fun h => ?_⟩
              rcases List.mem_append.mp h with h | h
              · exact h
              · rw [List.mem_singleton.mp h] at ny
                exact absurd c ny
          · rw [decide_eq_false c]
            refine iteT ⟨_, rfl, D, _, S4, _, rfl, rfl, hS4, by omega, ?_⟩
            refine ⟨fun b o e => ?_, fun j' => S4 j' || decide (j' = (((L ts[i])[j] : Nat) : Int)), ?_, fun k' => ?_⟩
            · rw [upd_ne (ne_of_none e hDn)]
              exact s4 _ _ e
            · rw [upd_same, cnt_add pa my]
              rfl
            · rw [Bool.or_eq_true, m4 k', decide_eq_true_eq, etk]
              constructor
              · rintro (⟨y, e, ny, h⟩ | e)
                · exact ⟨y, e, ny, h.imp id fun h => List.mem_append_left _ h⟩
                · exact ⟨_, e, c, .inr (List.mem_append_right _ List.mem_cons_self)⟩
              · rintro ⟨y, e, ny, h | h⟩
                · exact .inl ⟨y, e, ny, .inl h⟩
                · rcases List.mem_append.mp h with h | h
                  · exact .inl ⟨y, e, ny, .inr h⟩
                  · rw [List.mem_singleton.mp h] at e
                    exact .inr e
        · rintro G4 ⟨s4, S4, hS4, m4⟩
          refine ⟨s4, S4, hS4, fun k' => ?_⟩
          have ln : (numsV (L ts[i])).length = (L ts[i]).length := List.length_map _
          rw [m4 k', ln, List.take_length, tks li]
          constructor
          · rintro ⟨y, e, ny, ⟨x, hx, hy⟩ | h⟩
            · exact ⟨y, e, ny, x, List.mem_append_left _ hx, hy⟩
            · exact ⟨y, e, ny, _, List.mem_append_right _ List.mem_cons_self, h⟩
          · rintro ⟨y, e, ny, x, hx, hy⟩
            rcases List.mem_append.mp hx with hx | hx
            · exact ⟨y, e, ny, .inl ⟨x, hx, hy⟩⟩
            · rw [List.mem_singleton.mp hx] at hy
              exact ⟨y, e, ny, .inr hy⟩
      · rintro G2 ⟨s2', S, hS, mS⟩
        have cle := cnt_le ps S
        refine ⟨D, S, _, rfl, hS, by omega, fun ns T' asc mem _ hT' => ?_⟩
        rw [lnt, List.take_length] at mS
        obtain ⟨us, rfl, ua, um⟩ := set_asc (c := fun y => y ∉ fs ∧ ∃ x ∈ ts, y ∈ L x) pa asc mem mS
        rw [nums_ints]
        have sT := Same.updf (o := .lst (numsV us)) hT'
        have hT2 : upd G2 T' (.lst (numsV us)) T' = _ := upd_same
        generalize upd G2 T' (.lst (numsV us)) = G3 at *
        have s3' := s2'.trans sT
        have und : us.Nodup := ua.imp fun h => Nat.ne_of_lt h
        have fnd' : (fs ++ us).Nodup := by
          rw [List.nodup_append]
          exact ⟨fnd, und, fun a ha b hb e => ((um b).mp hb).1 (e ▸ ha)⟩
        have fin' : ∀ x ∈ fs ++ us, x ∈ ps ∧ Rc (fun x y => y ∈ L x) p x := fun x hx => by
          rcases List.mem_append.mp hx with hx | hx
          · exact fin x hx
          · obtain ⟨_, z, hz, hy⟩ := (um x).mp hx
            have := fin z (tf z hz)
            exact ⟨(sub z this.1).2 x hy, this.2.tail hy⟩
        have fl' := asc_len fnd' fun x hx => (fin' x hx).1
        have el : (fs ++ us).length = fs.length + us.length := List.length_append
        refine ⟨_, rfl, _, rfl, F, T', _, _, rfl, rfl, s3' _ _ hF, hT2, by unfold numsV; rw [List.length_map, List.length_map]; omega, fun F' hF' => ?_⟩
        have sF := Same.updf (o := .lst (numsV fs ++ numsV us)) hF'
        refine ⟨2 * (ps.length - (fs ++ us).length) + us.length.min 1, ?_, fs ++ us, us, F', T', _, _, rfl, rfl, (sG.trans s3').trans sF, by rw [upd_same, numsV_app], sF _ _ hT2, fnd', fin', List.mem_append_left _ mpf, fun x hx => List.mem_append_right _ hx, und, fun x hx nx y hy => ?_⟩
        · have m1 : ts.length.min 1 = 1 := Nat.min_eq_right tl
          have m2 : us.length.min 1 ≤ 1 := Nat.min_le_right _ _
          have m3 : us.length.min 1 ≤ us.length := Nat.min_le_left _ _
          omega
        · rcases List.mem_append.mp hx with hx | hx
          · by_cases c : y ∈ fs
            · exact List.mem_append_left _ c
            · by_cases d : x ∈ ts
              · exact List.mem_append_right _ ((um y).mpr ⟨c, x, d, hy⟩)
              · exact List.mem_append_left _ (clo x hx d y hy)
          · exact absurd hx nx
end
end K27
set_option Elab.async false
set_option linter.all false
set_option maxRecDepth 100000
set_option maxHeartbeats 8000000
namespace K27
open PySem PySem.Spec PyProof.Rows L2 KB LiI
theorem wq_fun (ds : List Dd) (m : Nat → Nat) : (fun p q => q ∈ wq ds m p) = W ds m := by
  funext p q
  exact propext wq_mem
theorem w_src {ds : List Dd} {m : Nat → Nat} {p q : Nat} (h : W ds m p q) : p ∈ offL ds m := by
  obtain ⟨d, hd, _, _, hp, _, h1, h2⟩ := h
  exact offL_mem.mpr ⟨pgs_mem.mpr ⟨d, hd, hp⟩, by omega⟩
theorem w_dst {ds : List Dd} (hG : Lg ds) {m : Nat → Nat} {p q : Nat} (h : W ds m p q) : q ∈ offL ds m := wq_off hG (wq_mem.mpr h)
theorem rg_bad {ds : List Dd} {m : Nat → Nat} : rg ds m ≠ [] ↔ ∃ T, Bad (W ds m) T := by
  constructor
  · intro h
    have := left_bad h
    rw [wq_fun] at this
    exact ⟨_, this⟩
  · rintro ⟨T, b⟩
    refine bad_left (A := wq ds m) (T := T) ?_ fun p hp => ?_
    · rw [wq_fun]
      exact b
    · obtain ⟨q, _, r⟩ := b.2 p hp
      exact w_src r
theorem rg_none {ds : List Dd} {m : Nat → Nat} (h : rg ds m = []) : ∀ T, ¬ Bad (W ds m) T := fun T b => rg_bad.mpr ⟨T, b⟩ h
/-- numbers of one deed more -/
theorem nw_more {ds : List Dd} {d : Dd} (p : Nat) : nwN (ds ++ [d]) p = if d.p = p then d.n else nwN ds p := by
  unfold nwN
  rw [nbp_snoc]
  split
  · simp
  · rfl
theorem nw_lt {ds : List Dd} {d : Dd} (hG : Lg (ds ++ [d])) (p : Nat) : nwN ds p < d.n := by
  have h1 : ∀ e ∈ ds, e.n < d.n := fun e he => (List.pairwise_append.mp hG.asc).2.2 e he d List.mem_cons_self
  have h0 := (hG.ok d (List.mem_append_right _ List.mem_cons_self)).n1
  have h2 : ∀ k ∈ nbp ds p, k < d.n := fun k hk => by
    unfold nbp at hk
    rcases List.mem_cons.mp hk with e | e
    · omega
    · obtain ⟨e', he, rfl⟩ := List.mem_map.mp e
      exact h1 e' (List.mem_filter.mp he).1
  unfold nwN
  rw [List.getLastD_eq_getLast?]
  cases h : (nbp ds p).getLast? with
  | none => exact h0
  | some x => exact h2 x (List.mem_of_getLast? h)
/-- with one deed more only its page waits for more -/
theorem w_more {ds : List Dd} {d : Dd} (hG : Lg (ds ++ [d])) {m m' : Nat → Nat} (hm : ∀ p ∈ pgs ds, m' p = m p) {p q : Nat} (np : p ≠ d.p) : W (ds ++ [d]) m' p q ↔ W ds m p q := by
  have ok := lg_init hG
  constructor
  · rintro ⟨e, he, rfl, h1, h2, h3, h4, h5⟩
    rw [nw_more, if_neg (fun z => np z.symm)] at h5
    rcases List.mem_append.mp he with he | he
    · have e1 := hm _ (pgs_mem.mpr ⟨e, he, (ok.ok e he).own⟩)
      have e2 := hm _ (pgs_mem.mpr ⟨e, he, h2⟩)
      rw [e1] at h1
      rw [e2] at h4
      exact ⟨e, he, rfl, h1, h2, h3, h4, h5⟩
    · rw [List.mem_singleton.mp he] at h5
      have := nw_lt hG p
      omega
  · rintro ⟨e, he, rfl, h1, h2, h3, h4, h5⟩
    have e1 := hm _ (pgs_mem.mpr ⟨e, he, (ok.ok e he).own⟩)
    have e2 := hm _ (pgs_mem.mpr ⟨e, he, h2⟩)
    refine ⟨e, List.mem_append_left _ he, rfl, by rw [e1]; exact h1, h2, h3, by rw [e2]; exact h4, ?_⟩
    rw [nw_more, if_neg (fun z => np z.symm)]
    exact h5
theorem mX_in {ds : List Dd} {ks : List Nat} (pk : ks.Perm (pgs ds)) (m : Nat → Nat) : ∀ p ∈ pgs ds, mX ks m p = m p := fun p hp => by
  unfold mX
  rw [if_pos (pk.mem_iff.mpr hp)]
theorem ring_iff {ds : List Dd} {d : Dd} (hG : Lg (ds ++ [d])) {m m' : Nat → Nat} (hm : ∀ p ∈ pgs ds, m' p = m p) (nr : rg ds m = []) : rg (ds ++ [d]) m' ≠ [] ↔ ∃ x, W (ds ++ [d]) m' d.p x ∧ Rc (W ds m) x d.p := by
  rw [rg_bad]
  exact ring_path (fun p q np => w_more hG hm np) (rg_none nr)
theorem Rc.last {R : Nat → Nat → Prop} {x z : Nat} (h : Rc R x z) : x ≠ z → ∃ y, R y z := by
  induction h with
  | refl x => exact fun n => absurd rfl n
  | @step x y z r _ ih =>
    intro _
    by_cases e : y = z
    · exact ⟨x, e ▸ r⟩
    · exact ih e
theorem ring_off {ds : List Dd} {d : Dd} (hG : Lg (ds ++ [d])) {m m' : Nat → Nat} (hm : ∀ p ∈ pgs ds, m' p = m p) (nr : rg ds m = []) (h : rg (ds ++ [d]) m' ≠ []) : d.p ∈ offL ds m := by
  obtain ⟨x, r, c⟩ := (ring_iff hG hm nr).mp h
  have nx : x ≠ d.p := by
    obtain ⟨e, _, _, _, _, h, _⟩ := r
    exact fun z => h z.symm
  obtain ⟨y, r⟩ := c.last nx
  exact w_dst (lg_init hG) r
theorem offL_asc (ds : List Dd) (m : Nat → Nat) : (offL ds m).Pairwise (· < ·) := (pgs_asc ds).filter _
/-- what is written ahead of a deed -/
noncomputable def upG (ds : List Dd) (m : Nat → Nat) (p : Nat) : List (List Nat) := (lay (wq ds m) (cl (wq ds m) (offL ds m) p)).1
noncomputable def ahG (ds : List Dd) (ks : List Nat) (m : Nat → Nat) (d : Dd) : List (List Nat) := if (rg (ds ++ [d]) (mX ks m)).isEmpty then [] else upG ds m d.p
def spAhead : Sp := fun vs H Q _ => ∃ (a b : Addr) (x : V) (ds : List Dd) (ks : List Nat) (m : Nat → Nat) (d : Dd), vs = [.ref a, .ref b, x] ∧ LogAt H a ds ∧ Lg (ds ++ [d]) ∧ MkAt H b ks m ∧ ks.Perm (pgs ds) ∧ Mk ds m ∧ Rt ds m ∧ rg ds m = [] ∧ DeedAt H x d ∧
  ∀ A ys H', Same H H' → H A = none → H' A = some (.lst ys) → Paired (GrAt H H') (ahG ds ks m d) ys → Q (.ref A) H'
section
variable {P : Program} {w : World} {K : PySem.W.Frag} {mg : Str → Option Value} {base : Heap}
abbrev s_ahead_of : Stmt := top 41
abbrev N_ahead_of : List Str := ["deeds", "stamps", "deed", "ahead", "pages", "page"]
theorem sc_ahead_of : FnScope N_ahead_of ["deeds", "stamps", "deed"] (defScope s_ahead_of) := ⟨rfl, rfl, rfl, by decide +kernel, rfl, by decide +kernel, by decide +kernel⟩
theorem ok_ahead_of {f : Addr} {fd : FuncData} (F : FnP K "ahead_of" s_ahead_of f fd) (Z : FreeS mg)
    {f_need_closable : Addr} {d_need_closable : FuncData} (g_need_closable : mg "need_closable" = some (.ref f_need_closable)) (F_need_closable : FnP K "need_closable" s_need_closable f_need_closable d_need_closable) (G_need_closable : FnOk P w K mg base CX0 11 f_need_closable d_need_closable ["deeds", "stamps", "deed"] spNeedCl)
    {f_waited_for : Addr} {d_waited_for : FuncData} (g_waited_for : mg "waited_for" = some (.ref f_waited_for)) (F_waited_for : FnP K "waited_for" s_waited_for f_waited_for d_waited_for) (G_waited_for : FnOk P w K mg base CX0 5 f_waited_for d_waited_for ["deeds", "stamps"] spWaitF)
    {f_led_to : Addr} {d_led_to : FuncData} (g_led_to : mg "led_to" = some (.ref f_led_to)) (F_led_to : FnP K "led_to" s_led_to f_led_to d_led_to) (G_led_to : FnOk P w K mg base CX0 2 f_led_to d_led_to ["ahead", "page"] spLedTo)
    {f_has_ring_with : Addr} {d_has_ring_with : FuncData} (g_has_ring_with : mg "has_ring_with" = some (.ref f_has_ring_with)) (F_has_ring_with : FnP K "has_ring_with" s_has_ring_with f_has_ring_with d_has_ring_with) (G_has_ring_with : FnOk P w K mg base CX0 6 f_has_ring_with d_has_ring_with ["deeds", "stamps", "deed"] spHasR)
    {f_layers_of : Addr} {d_layers_of : FuncData} (g_layers_of : mg "layers_of" = some (.ref f_layers_of)) (F_layers_of : FnP K "layers_of" s_layers_of f_layers_of d_layers_of) (G_layers_of : FnOk P w K mg base CX0 2 f_layers_of d_layers_of ["ahead"] spLayers) :
    FnOk P w K mg base CX0 12 f fd ["deeds", "stamps", "deed"] spAhead := by
  have b_need_closable : Binds K d_need_closable ["deeds", "stamps", "deed"] [] := F_need_closable.bindsN fun _ _ _ _ _ _ us hl => match us, hl with | [_, _, _], _ => rfl
  have b_waited_for : Binds K d_waited_for ["deeds", "stamps"] [] := F_waited_for.bindsN fun _ _ _ _ _ _ us hl => match us, hl with | [_, _], _ => rfl
  have b_led_to : Binds K d_led_to ["ahead", "page"] [] := F_led_to.bindsN fun _ _ _ _ _ _ us hl => match us, hl with | [_, _], _ => rfl
  have b_has_ring_with : Binds K d_has_ring_with ["deeds", "stamps", "deed"] [] := F_has_ring_with.bindsN fun _ _ _ _ _ _ us hl => match us, hl with | [_, _, _], _ => rfl
  have b_layers_of : Binds K d_layers_of ["ahead"] [] := F_layers_of.bindsN fun _ _ _ _ _ _ us hl => match us, hl with | [_], _ => rfl
  refine F.ok sc_ahead_of (fun vs H Q E h => ?_) (fun cdv A outer s H vs Q E hr h => ?_)
  · obtain ⟨a, b, x, ds, ks, m, d, rfl, _⟩ := h
    rfl
  · obtain ⟨a, b, x, ds, ks, m, d, rfl, hL, hG, hb, pk, mk, rt, nr, hx, k⟩ := h
    have sl : (3000 : Nat) ≤ sizeLine := by decide
    have hu65 : _ + 65 < cLine := Nat.lt_of_le_of_lt (Nat.add_le_add_left (by decide : 65 ≤ 200) _) (Nat.lt_of_le_of_lt (Nat.add_le_add_right (Nat.le_add_right _ _) _) hr.un)
    have hu := Nat.lt_of_le_of_lt (Nat.add_le_add_left (by decide : 1 ≤ 65) _) hu65
    have nd := sc_ahead_of.nd
    refine ⟨_, PSs.nox (pss_cons (ps_expr (pe_call G_need_closable (hr.mono (by decide)) rfl g_need_closable F_need_closable.kp b_need_closable .nil pass0 (pa_cons (pv 0) (pa_cons (pv 1) (pa_cons (pv 2) (pa_nil))))))
      (pss_cons (ps_if (pt_not (pt_val (pe_call G_has_ring_with (hr.mono (by decide)) rfl g_has_ring_with F_has_ring_with.kp b_has_ring_with .nil pass0 (pa_cons (pv 0) (pa_cons (pv 1) (pa_cons (pv 2) (pa_nil))))))) (pss_one (ps_ret (pe_lst (pa_nil)))) (pss_nil))
      (pss_cons (ps_set (i := 3) nd rfl (Or.inr rfl) (pe_call G_waited_for (hr.mono (by decide)) rfl g_waited_for F_waited_for.kp b_waited_for .nil pass0 (pa_cons (pv 0) (pa_cons (pv 1) (pa_nil)))))
      (pss_cons (ps_set (i := 4) nd rfl (Or.inl rfl) (pe_call G_led_to (hr.mono (by decide)) rfl g_led_to F_led_to.kp b_led_to .nil pass0 (pa_cons (pv 3) (pa_cons (pe_ix ix_tup (pv 2) (pe_int) (fun _ _ => rfl)) (pa_nil)))))
      (pss_one (ps_ret (pe_ix ix_tup (pe_call G_layers_of (hr.mono (by decide)) rfl g_layers_of F_layers_of.kp b_layers_of .nil pass0 (pa_cons (pe_dc (own := [("page", 5)]) (g := gName 5) (tt := tYes) (tk := tVar 5) (tv := tDGet (tVar 3) (tVar 5)) rfl nd (pi_list (pv 4)) (blkOk_by (own := [("page", 5)]) (N := N_ahead_of) (sc := defScope s_ahead_of) (by decide +kernel)) (fun _ _ _ _ _ => pg_name (i := 5) nd rfl (Or.inl rfl)) (fun _ _ _ _ _ => pts_nil) (fun _ _ _ _ _ => pv 5) (fun _ _ _ _ _ => pe_dget hu (pv 3) (pv 5) (fun _ _ => rfl))) (pa_nil))) (pe_int) (fun _ _ => rfl)))))))), ?_⟩
    have hG0 := lg_init hG
    have hlt : ∀ e ∈ ds, e.n < d.n := fun e he => (List.pairwise_append.mp hG.asc).2.2 e he d List.mem_cons_self
    have lp := lay_pre hG0 m
    refine ⟨_, rfl, _, rfl, _, rfl, a, b, x, ds, ks, m, d, rfl, hL, hG0, hb, pk, mk, rt, nr, hx, hG.ok d (List.mem_append_right _ List.mem_cons_self), hlt, fun H1 s1 => ?_⟩
    refine ⟨_, rfl, _, rfl, _, rfl, a, b, x, ds, ks, m, d, rfl, hL.same s1, hG, s1 _ _ hb, hx.same s1, fun H2 s2 => ⟨_, rfl, ?_⟩⟩
    have s12 := s1.trans s2
    unfold ahG at k
    have off := ring_off hG (mX_in pk m) nr
    cases c : rg (ds ++ [d]) (mX ks m) with
    | nil =>
      rw [c] at k
      refine iteT ⟨Nat.zero_le _, fun A hA => ?_⟩
      exact k A [] _ (s12.trans (Same.updf hA)) (none_back s12 hA) upd_same .nil
    | cons y0 r0 =>
      rw [c] at k off
      have mp := off (fun z => nomatch z)
      replace k : ∀ A ys H', Same H H' → H A = none → H' A = some (.lst ys) → Paired (GrAt H H') (upG ds m d.p) ys → Q (.ref A) H' := k
      refine iteF ?_
      refine ⟨_, rfl, _, rfl, a, b, ds, ks, m, rfl, hL.same s12, hG0, s12 _ _ hb, pk, fun q H3 at_ s3 nq hq => ?_⟩
      obtain ⟨t, rd, tw, rfl, ht, _, _⟩ := id (hx.same (s12.trans s3))
      refine ⟨_, rfl, _, rfl, t, _, 1, _, rfl, rfl, SqT.of ht, rfl, q, offL ds m, wq ds m, at_, d.p, rfl, hq, offL_asc ds m, lp.1, lp.2, mp, fun D H4 s4 nD hD => ?_⟩
      have ca : (cl (wq ds m) (offL ds m) d.p).Pairwise (· < ·) := (offL_asc ds m).filter _
      have csub : ∀ p ∈ cl (wq ds m) (offL ds m) d.p, p ∈ offL ds m := fun p hp => (cl_mem.mp hp).1
      have ccl : ∀ p ∈ cl (wq ds m) (offL ds m) d.p, ∀ y ∈ wq ds m p, y ∈ cl (wq ds m) (offL ds m) d.p := fun p hp y hy => cl_mem.mpr ⟨(lp.2 p (csub p hp)).2 y hy, (cl_mem.mp hp).2.tail hy⟩
      have kk : ∀ A ys H', Same H H' → H A = none → H' A = some (.lst ys) → Paired (GrAt H H') (lay (wq ds m) (cl (wq ds m) (offL ds m) d.p)).1 ys → Q (.ref A) H' := k
      generalize cl (wq ds m) (offL ds m) d.p = C at *
      clear k
      have cnd : C.Nodup := ca.imp fun h => Nat.ne_of_lt h
      have cl40 : C.length ≤ 40 := Nat.le_trans (asc_len cnd csub) lp.1
      have s3H := s12.trans s3
      refine ⟨_, rfl, D, rfl, ⟨_, SqL.of hD⟩, fun N nN => ?_⟩
      have ln : (numsV C).length = C.length := List.length_map _
      refine dc_walk (walk_list (K := K) (a := D) (xs := numsV C)) (fun i G => Same H4 G ∧ G N = some (.dK (dV (C.take i) fun p => .ref (at_ p))))
        ⟨Same.updf nN, upd_same⟩ (fun i G _ hh => SqL.of (hh.1 _ _ hD)) ?_ ?_
      · rintro i y G G' hi ⟨sG, hN⟩ ⟨rfl, hv⟩
        have li : i < C.length := by omega
        unfold numsV at hv
        rw [List.getElem?_map, List.getElem?_eq_getElem li] at hv
        obtain rfl := Option.some.inj hv
        have np := tkn cnd li
        have dg : DGet G' q (.int (C[i] : Int)) (some (.ref (at_ C[i]))) := by
          have := DGet.k (k := ky C[i]) (sG _ _ (s4 _ _ hq.d))
          rw [dV_val (csub _ (List.getElem_mem li))] at this
          exact this
        refine ⟨rfl, _, rfl, _, rfl, _, rfl, q, _, rfl, dg, ?_⟩
        refine ⟨_, ky C[i], rfl, hN, by rw [dV_len, List.length_take]; omega, ?_⟩
        refine ⟨fun c o e => ?_, ?_⟩
        · rw [upd_ne (ne_of_none e nN)]
          exact sG _ _ e
        · rw [upd_same, dV_new np, tks li]
          refine congrArg (fun z => some (HO.dK z)) (dV_congr fun p hp => ?_)
          unfold put
          split
          · next z => rw [z]
          · rfl
      · rintro G ⟨sG, hN⟩
        rw [ln, List.take_length] at hN
        have sA := (s3H.trans s4).trans sG
        have hq' := hq.same (s4.trans sG)
        refine ⟨N, C, wq ds m, at_, rfl, ⟨hN, fun p hp => hq'.l p (csub p hp), fun p hp p' hp' e => hq'.inj p (csub p hp) p' (csub p' hp') e⟩, cnd, cl40, fun p hp => ⟨(lp.2 p (csub p hp)).1, ccl p hp⟩, fun T A' B' ys G2 s5 nT nA nB hT hA pA hB => ?_⟩
        exact ⟨T, _, 0, _, rfl, rfl, SqT.of hT, rfl, kk A' ys G2 (sA.trans s5) (none_back sA nA) hA (paired_mono (fun g y h => h.back sA) pA)⟩
end
end K27
set_option Elab.async false
set_option linter.all false
set_option maxRecDepth 100000
set_option maxHeartbeats 8000000
namespace K27
open PySem PySem.Spec PyProof.Rows L2 KB LiI
/-! Writing back, lot after lot. Nothing of the program. -/
theorem w_wrt {ds : List Dd} (hG : Lg ds) {m : Nat → Nat} {l : List Nat} {p q : Nat} : W ds (wrtM ds m l) p q ↔ W ds m p q ∧ p ∉ l ∧ q ∉ l := by
  constructor
  · rintro ⟨e, he, rfl, h1, h2, h3, h4, h5⟩
    unfold wrtM at h1 h4
    have := nw_max hG he
    by_cases c1 : e.p ∈ l
    · rw [if_pos c1] at h1
      omega
    · by_cases c2 : p ∈ l
      · rw [if_pos c2] at h4
        omega
      · rw [if_neg c1] at h1
        rw [if_neg c2] at h4
        exact ⟨⟨e, he, rfl, h1, h2, h3, h4, h5⟩, c2, c1⟩
  · rintro ⟨⟨e, he, rfl, h1, h2, h3, h4, h5⟩, c2, c1⟩
    refine ⟨e, he, rfl, ?_, h2, h3, ?_, h5⟩
    · unfold wrtM
      rw [if_neg c1]
      exact h1
    · unfold wrtM
      rw [if_neg c2]
      exact h4
theorem off_wrt {ds : List Dd} {m : Nat → Nat} {l : List Nat} {p : Nat} : p ∈ offL ds (wrtM ds m l) ↔ p ∈ offL ds m ∧ p ∉ l := by
  rw [offL_mem, offL_mem]
  unfold wrtM
  by_cases c : p ∈ l
  · rw [if_pos c]
    exact ⟨fun h => absurd rfl h.2, fun h => absurd c h.2⟩
  · rw [if_neg c]
    exact ⟨fun h => ⟨h, c⟩, fun h => h.1⟩
theorem wrt_wrt (ds : List Dd) (m : Nat → Nat) (k l : List Nat) : wrtM ds (wrtM ds m k) l = wrtM ds m (k ++ l) := by
  funext p
  unfold wrtM
  by_cases c : p ∈ l
  · rw [if_pos c, if_pos (List.mem_append_right _ c)]
  · rw [if_neg c]
    by_cases d : p ∈ k
    · rw [if_pos d, if_pos (List.mem_append_left _ d)]
    · rw [if_neg d, if_neg (fun z => (List.mem_append.mp z).elim d c)]
theorem wrt_nil (ds : List Dd) (m : Nat → Nat) : wrtM ds m [] = m := by
  funext p
  exact if_neg (fun z => nomatch z)
theorem frK_mem {ks : List Nat} {ds : List Dd} (pk : ks.Perm (pgs ds)) {m : Nat → Nat} {p : Nat} : p ∈ frK ks ds m ↔ p ∈ offL ds m ∧ ∀ q, ¬ W ds m p q := by
  unfold frK offK
  rw [List.mem_filter, List.mem_filter, offL_mem, pk.mem_iff]
  have h : (!waitsB ds m p) = true ↔ ∀ q, ¬ W ds m p q := by
    rw [Bool.not_eq_true', ← Bool.not_eq_true, waits_w]
    exact ⟨fun h q c => h ⟨q, c⟩, fun h ⟨q, c⟩ => h q c⟩
  rw [h]
  simp
/-- of C what is not written -/
def remL (C wl : List Nat) : List Nat := C.filter fun p => !decide (p ∈ wl)
theorem rem_mem {C wl : List Nat} {p : Nat} : p ∈ remL C wl ↔ p ∈ C ∧ p ∉ wl := by
  unfold remL
  rw [List.mem_filter]
  simp
/-- lots written out of C -/
structure Lt (ds : List Dd) (m : Nat → Nat) (C wl : List Nat) (gs : List (List Nat)) : Prop where
  rt : Rt ds (wrtM ds m wl)
  el : lay (wq ds m) C = (gs ++ (lay (wq ds m) (remL C wl)).1, (lay (wq ds m) (remL C wl)).2)
  sub : ∀ p ∈ wl, p ∈ C
/-- a lot of pages that wait for its own alone -/
structure Cs (ds : List Dd) (m : Nat → Nat) (C : List Nat) : Prop where
  off : ∀ p ∈ C, p ∈ offL ds m
  cl : ∀ p ∈ C, ∀ q, W ds m p q → q ∈ C
theorem lt_start {ds : List Dd} {m : Nat → Nat} (rt : Rt ds m) (C : List Nat) : Lt ds m C [] [] := by
  have e : remL C [] = C := List.filter_eq_self.mpr fun _ _ => rfl
  refine ⟨by rw [wrt_nil]; exact rt, ?_, fun p h => nomatch h⟩
  rw [e]
  rfl
theorem fr_mem {A : Nat → List Nat} {l : List Nat} {p : Nat} : p ∈ frF A l ↔ p ∈ l ∧ ∀ q ∈ A p, q ∉ l := by
  unfold frF
  rw [List.mem_filter]
  simp
theorem lot_iff {ds : List Dd} (hG : Lg ds) {m : Nat → Nat} {ks C wl : List Nat} (pk : ks.Perm (pgs ds)) (c : Cs ds m C) {p : Nat} (hp : p ∈ C) : p ∈ frK ks ds (wrtM ds m wl) ↔ p ∈ frF (wq ds m) (remL C wl) := by
  rw [frK_mem pk, off_wrt, fr_mem, rem_mem]
  constructor
  · rintro ⟨⟨h1, h2⟩, h3⟩
    refine ⟨⟨hp, h2⟩, fun q hq hr => ?_⟩
    exact h3 q ((w_wrt hG).mpr ⟨wq_mem.mp hq, h2, (rem_mem.mp hr).2⟩)
  · rintro ⟨⟨_, h2⟩, h3⟩
    refine ⟨⟨c.off p hp, h2⟩, fun q hq => ?_⟩
    obtain ⟨a, _, b⟩ := (w_wrt hG).mp hq
    exact h3 q (wq_mem.mpr a) (rem_mem.mpr ⟨c.cl p hp q a, b⟩)
theorem Lt.step {ds : List Dd} (hG : Lg ds) {m : Nat → Nat} {C wl lot : List Nat} {gs : List (List Nat)} (c : Cs ds m C) (h : Lt ds m C wl gs) (hl : ∀ p, p ∈ lot ↔ p ∈ frF (wq ds m) (remL C wl)) (ne : lot ≠ []) : Lt ds m C (wl ++ lot) (gs ++ [frF (wq ds m) (remL C wl)]) ∧ (remL C (wl ++ lot)).length < (remL C wl).length := by
  have fne : frF (wq ds m) (remL C wl) ≠ [] := fun z => by
    obtain ⟨x, r, e⟩ := List.exists_cons_of_ne_nil ne
    have := (hl x).mp (by rw [e]; exact List.mem_cons_self)
    rw [z] at this
    cases this
  have er : remL C (wl ++ lot) = rsF (wq ds m) (remL C wl) := by
    rw [← rs_next]
    unfold remL
    rw [List.filter_filter]
    refine List.filter_congr fun p hp => ?_
    have e : (decide (p ∈ lot)) = decide (p ∈ frF (wq ds m) (remL C wl)) := decide_eq_decide.mpr (hl p)
    unfold remL at e
    rw [← e]
    rw [Bool.eq_iff_iff]
    simp
    constructor
    · exact fun h => ⟨h.2, h.1⟩
    · exact fun h => ⟨h.2, h.1⟩
  refine ⟨⟨?_, ?_, ?_⟩, ?_⟩
  · rw [← wrt_wrt]
    refine lot_right hG h.rt fun p hp => ?_
    rw [← Bool.not_eq_true, waits_w]
    rintro ⟨q, hq⟩
    obtain ⟨a, _, b⟩ := (w_wrt hG).mp hq
    obtain ⟨h1, h2⟩ := fr_mem.mp ((hl p).mp hp)
    exact h2 q (wq_mem.mpr a) (rem_mem.mpr ⟨c.cl p (rem_mem.mp h1).1 q a, b⟩)
  · rw [h.el, lay_step fne, er]
    simp
  · intro p hp
    rcases List.mem_append.mp hp with hp | hp
    · exact h.sub p hp
    · exact (rem_mem.mp (fr_mem.mp ((hl p).mp hp)).1).1
  · rw [er]
    have h1 := fr_rs (wq ds m) (remL C wl)
    have h2 := List.length_pos_iff.mpr fne
    omega
theorem off_cs {ds : List Dd} (hG : Lg ds) (m : Nat → Nat) : Cs ds m (offL ds m) := ⟨fun p h => h, fun p _ q h => w_dst hG h⟩
theorem cl_cs {ds : List Dd} (hG : Lg ds) (m : Nat → Nat) (p : Nat) : Cs ds m (cl (wq ds m) (offL ds m) p) :=
  ⟨fun q h => (cl_mem.mp h).1, fun x hx q h => cl_mem.mpr ⟨w_dst hG h, by
    have := (cl_mem.mp hx).2
    exact this.tail (wq_mem.mpr h)⟩⟩
/-- all lots are written: what is behind is what is left over -/
theorem Lt.end_ {ds : List Dd} {m : Nat → Nat} {C wl : List Nat} {gs : List (List Nat)} (h : Lt ds m C wl gs) (e : frF (wq ds m) (remL C wl) = []) : lay (wq ds m) C = (gs, remL C wl) := by
  rw [h.el, lay_stop e]
  simp
theorem rem_off {ds : List Dd} {m : Nat → Nat} {wl : List Nat} {ks : List Nat} (pk : ks.Perm (pgs ds)) : offK ks ds (wrtM ds m wl) = [] ↔ remL (offL ds m) wl = [] := by
  rw [List.eq_nil_iff_forall_not_mem, List.eq_nil_iff_forall_not_mem]
  have h : ∀ p, p ∈ offK ks ds (wrtM ds m wl) ↔ p ∈ remL (offL ds m) wl := fun p => by
    rw [rem_mem, ← off_wrt, offL_mem]
    unfold offK
    rw [List.mem_filter, pk.mem_iff]
    simp
  exact forall_congr' fun p => not_congr (h p)
/-- the closure of a page has no ring of its own -/
theorem cl_whole {ds : List Dd} (hG : Lg ds) {m : Nat → Nat} (nr : rg ds m = []) {C : List Nat} (c : Cs ds m C) : (lay (wq ds m) C).2 = [] := by
  refine Classical.byContradiction fun ne => ?_
  have b := left_bad ne
  rw [wq_fun] at b
  exact rg_none nr _ b
/-! One deed more -/
theorem rt_more {ds : List Dd} {d : Dd} (hG : Lg (ds ++ [d])) {m : Nat → Nat} {ks : List Nat} (pk : ks.Perm (pgs ds)) (mk : Mk ds m) (rt : Rt ds m) : Rt (ds ++ [d]) (mX ks m) := by
  have hG0 := lg_init hG
  have e := mX_in pk m
  refine rt_iff.mpr fun x hx c p hp => ?_
  rcases List.mem_append.mp hx with hx | hx
  · rw [e _ (pgs_mem.mpr ⟨x, hx, (hG0.ok x hx).own⟩)] at c
    rw [e _ (pgs_mem.mpr ⟨x, hx, hp⟩)]
    exact rt_iff.mp rt x hx c p hp
  · obtain rfl := List.mem_singleton.mp hx
    unfold mX
    by_cases k : p ∈ ks
    · rw [if_pos k]
      have h1 := mk_le hG0 mk (pk.mem_iff.mp k)
      have h2 := nw_lt hG p
      omega
    · rw [if_neg k]
      have := (hG.ok x (List.mem_append_right _ List.mem_cons_self)).n1
      omega
/-- when the page is written nothing waits for it -/
theorem ring_written {ds : List Dd} {d : Dd} (hG : Lg (ds ++ [d])) {m : Nat → Nat} {ks wl : List Nat} (pk : ks.Perm (pgs ds)) (nr : rg ds m = []) (hw : d.p ∈ wl) : rg (ds ++ [d]) (mX ks (wrtM ds m wl)) = [] := by
  have hG0 := lg_init hG
  refine Classical.byContradiction fun ne => ?_
  obtain ⟨T, b⟩ := rg_bad.mp ne
  refine ring_gone (P := d.p) (rg_none nr) (fun p q np r => ?_) (fun p r => ?_) T b
  · exact ((w_wrt hG0).mp ((w_more hG (mX_in pk _) np).mp r)).1
  · by_cases np : p = d.p
    · obtain ⟨e, _, h1, _, _, h2, _⟩ := r
      exact h2 np
    · exact ((w_wrt hG0).mp ((w_more hG (mX_in pk _) np).mp r)).2.2 hw
/-- what is written without the page leaves the ring -/
theorem ring_kept {ds : List Dd} {d : Dd} (hG : Lg (ds ++ [d])) {m : Nat → Nat} {ks so : List Nat} (pk : ks.Perm (pgs ds)) (nr : rg ds m = []) (rt : Rt ds (wrtM ds m so)) (nP : d.p ∉ so) (h : rg (ds ++ [d]) (mX ks m) ≠ []) : rg (ds ++ [d]) (mX ks (wrtM ds m so)) ≠ [] := by
  have hG0 := lg_init hG
  rw [rg_bad] at h ⊢
  refine ring_stays (P := d.p) (R := W ds m) (S := fun p => p ∈ so ∧ m p ≠ nwN ds p) (fun p q np => w_more hG (mX_in pk m) np) (rg_none nr) (fun z => nP z.1) (fun p q hs r => ?_) (fun p q r np nq => ?_) h
  · obtain ⟨e, he, rfl, h1, h2, h3, h4, h5⟩ := r
    refine Classical.byContradiction fun n => ?_
    have c : wrtM ds m so e.p < e.n := by
      unfold wrtM
      by_cases c : e.p ∈ so
      · have : m e.p = nwN ds e.p := Classical.byContradiction fun z => n ⟨c, z⟩
        rw [if_pos c, ← this]
        exact h1
      · rw [if_neg c]
        exact h1
    have := rt_iff.mp rt e he c p h2
    unfold wrtM at this
    rw [if_pos hs.1] at this
    omega
  · have key : ∀ x, ¬ (x ∈ so ∧ m x ≠ nwN ds x) → mX ks (wrtM ds m so) x = mX ks m x := fun x nx => by
      unfold mX wrtM
      by_cases k : x ∈ ks
      · rw [if_pos k, if_pos k]
        by_cases c : x ∈ so
        · rw [if_pos c]
          exact (Classical.byContradiction fun z => nx ⟨c, fun y => z y.symm⟩)
        · rw [if_neg c]
      · rw [if_neg k, if_neg k]
    obtain ⟨e, he, rfl, h1, h2, h3, h4, h5⟩ := r
    exact ⟨e, he, rfl, by rw [key _ nq]; exact h1, h2, h3, by rw [key _ np]; exact h4, h5⟩
/-- a ring is a way from a maker of the page to the page -/
theorem ring_makers {ds : List Dd} {d : Dd} (hG : Lg (ds ++ [d])) {m : Nat → Nat} {ks : List Nat} (pk : ks.Perm (pgs ds)) (nr : rg ds m = []) : rg (ds ++ [d]) (mX ks m) ≠ [] ↔ ∃ e ∈ ds, e.p ≠ d.p ∧ d.p ∈ e.r ∧ m d.p < e.n ∧ m e.p < e.n ∧ Rc (W ds m) e.p d.p := by
  have hG0 := lg_init hG
  rw [ring_iff hG (mX_in pk m) nr]
  constructor
  · rintro ⟨x, ⟨e, he, rfl, h1, h2, h3, h4, h5⟩, c⟩
    rcases List.mem_append.mp he with he | he
    · rw [mX_in pk m _ (pgs_mem.mpr ⟨e, he, (hG0.ok e he).own⟩)] at h1
      rw [mX_in pk m _ (pgs_mem.mpr ⟨e, he, h2⟩)] at h4
      exact ⟨e, he, fun z => h3 z.symm, h2, h4, h1, c⟩
    · rw [List.mem_singleton.mp he] at h3
      exact absurd rfl h3
  · rintro ⟨e, he, h1, h2, h3, h4, c⟩
    refine ⟨e.p, ⟨e, List.mem_append_left _ he, rfl, ?_, h2, fun z => h1 z.symm, ?_, ?_⟩, c⟩
    · rw [mX_in pk m _ (pgs_mem.mpr ⟨e, he, (hG0.ok e he).own⟩)]
      exact h4
    · rw [mX_in pk m _ (pgs_mem.mpr ⟨e, he, h2⟩)]
      exact h3
    · rw [nw_more, if_pos rfl]
      have := (List.pairwise_append.mp hG.asc).2.2 e he d List.mem_cons_self
      omega
end K27
set_option Elab.async false
set_option linter.all false
set_option maxRecDepth 100000
set_option maxHeartbeats 8000000
namespace K27
open PySem PySem.Spec PyProof.Rows L2 KB LiI StX
/-- keys of marks with the pages of a deed -/
def kwL (ks l : List Nat) : List Nat := ks ++ l.filter fun p => !decide (p ∈ ks)
def spWith : Sp := fun vs H Q _ => ∃ (b : Addr) (x : V) (ks : List Nat) (m : Nat → Nat) (d : Dd), vs = [.ref b, x] ∧ MkAt H b ks m ∧ DeedAt H x d ∧ d.r.Nodup ∧ d.r.length ≤ 20 ∧ ks.length ≤ 40 ∧
  ∀ D H', Same H H' → H D = none → MkAt H' D (kwL ks d.r) (mX ks m) → Q (.ref D) H'
def spLayered : Sp := fun vs H Q _ => ∃ (a b : Addr) (ds : List Dd) (ks : List Nat) (m : Nat → Nat), vs = [.ref a, .ref b] ∧ LogAt H a ds ∧ Lg ds ∧ Bd ds ∧ MkAt H b ks m ∧ ks.Perm (pgs ds) ∧ Rt ds m ∧
  ∀ T A B l H', Same H H' → H T = none → H' T = some (.lst [.ref A, .ref B]) → H' B = some (.lst (numsV l)) → (l = [] ↔ rg ds m = []) → Q (.ref T) H'
def spStuck : Sp := fun vs H Q _ => ∃ (a b : Addr) (ds : List Dd) (ks : List Nat) (m : Nat → Nat), vs = [.ref a, .ref b] ∧ LogAt H a ds ∧ Lg ds ∧ Bd ds ∧ MkAt H b ks m ∧ ks.Perm (pgs ds) ∧ Rt ds m ∧
  ∀ H', Same H H' → Q (.bl (!(rg ds m).isEmpty)) H'
theorem kw_perm {ds : List Dd} {d : Dd} {ks : List Nat} (pk : ks.Perm (pgs ds)) (nd : d.r.Nodup) : (kwL ks d.r).Perm (pgs (ds ++ [d])) := by
  have knd : ks.Nodup := pk.nodup_iff.mpr (pgs_nd ds)
  have n2 : (kwL ks d.r).Nodup := by
    unfold kwL
    rw [List.nodup_append]
    exact ⟨knd, nd.filter _, fun a ha b hb e => by
      have := (List.mem_filter.mp hb).2
      rw [← e] at this
      simp at this
      exact this ha⟩
  refine (List.perm_ext_iff_of_nodup n2 (pgs_nd _)).mpr fun p => ?_
  unfold kwL
  rw [List.mem_append, pk.mem_iff, pgs_mem, pgs_mem]
  constructor
  · rintro (⟨e, he, hp⟩ | h)
    · exact ⟨e, List.mem_append_left _ he, hp⟩
    · exact ⟨d, List.mem_append_right _ List.mem_cons_self, (List.mem_filter.mp h).1⟩
  · rintro ⟨e, he, hp⟩
    by_cases c : p ∈ ks
    · exact .inl (pgs_mem.mp (pk.mem_iff.mp c))
    · rcases List.mem_append.mp he with he | he
      · exact .inl ⟨e, he, hp⟩
      · rw [List.mem_singleton.mp he] at hp
        exact .inr (List.mem_filter.mpr ⟨hp, by simpa using c⟩)
section
variable {P : Program} {w : World} {K : PySem.W.Frag} {mg : Str → Option Value} {base : Heap}
abbrev s_with : Stmt := top 68
abbrev N_with : List Str := ["_law_marks_here", "_law_deed", "_law_found", "_law_page"]
theorem sc_with : FnScope N_with ["_law_marks_here", "_law_deed"] (defScope s_with) := ⟨rfl, rfl, rfl, by decide +kernel, rfl, by decide +kernel, by decide +kernel⟩
theorem ok_with {f : Addr} {fd : FuncData} (F : FnP K "_law_with" s_with f fd) (Z : FreeS mg) :
    FnOk P w K mg base CX0 2 f fd ["_law_marks_here", "_law_deed"] spWith := by
  refine F.ok sc_with (fun vs H Q E h => ?_) (fun cdv A outer s H vs Q E hr h => ?_)
  · obtain ⟨b, x, ks, m, d, rfl, _⟩ := h
    rfl
  · obtain ⟨b, x, ks, m, d, rfl, hb, hx, rnd, r20, k40, k⟩ := h
    have sl : (3000 : Nat) ≤ sizeLine := by decide
    have hu65 : _ + 65 < cLine := Nat.lt_of_le_of_lt (Nat.add_le_add_left (by decide : 65 ≤ 200) _) (Nat.lt_of_le_of_lt (Nat.add_le_add_right (Nat.le_add_right _ _) _) hr.un)
    have hu := Nat.lt_of_le_of_lt (Nat.add_le_add_left (by decide : 1 ≤ 65) _) hu65
    have nd := sc_with.nd
    refine ⟨_, PSs.nox (pss_cons (ps_set (i := 2) nd rfl (Or.inl rfl) (pe_callTy call_dictDR (by rfl) Z.tdict (by decide +kernel) (pa_cons (pv 0) (pa_nil))))
      (pss_cons (ps_for PassesOwn.never rfl (pi_list (pe_ix ix_tup (pv 1) (pe_int) (fun _ _ => rfl))) (pg_name (i := 3) nd rfl (Or.inl rfl))
        (pss_one (ps_dput hu (pv 2) (pv 3) (pe_dget2 hu (pv 2) (pv 3) pe_int ⟨by rfl, by rfl, by rfl, by rfl⟩) rfl)))
      (pss_one (ps_ret (pv 2))))), ?_⟩
    obtain ⟨t, rd, tw, rfl, ht, hr1, _⟩ := id hx
    refine ⟨_, rfl, b, _, rfl, Rd.of hb, fun D nD => ?_⟩
    have s1 := Same.updf (o := .dK (mV ks m)) nD
    have hD : upd H D (.dK (mV ks m)) D = some (.dK (mV ks (mX ks m))) := by
      rw [upd_same]
      exact congrArg (fun z => some (HO.dK z)) (dV_congr fun p hp => by
        unfold mX
        rw [if_pos hp])
    generalize upd H D (.dK (mV ks m)) = G1 at *
    refine ⟨_, rfl, t, _, 2, _, rfl, rfl, SqT.of (s1 _ _ ht), rfl, rd, rfl, ⟨_, SqL.of (s1 _ _ hr1)⟩, ?_⟩
    have ln : (numsV d.r).length = d.r.length := List.length_map _
    refine for_it (walk_list (K := K) (a := rd) (xs := numsV d.r)) (fun i σ G => Same H G ∧ G D = some (.dK (mV (kwL ks (d.r.take i)) (mX ks m))) ∧ ∃ v3, σ = [some (.ref b), some (.ref t), some (.ref D), v3])
      ⟨s1, by unfold kwL; rw [List.take_zero, List.filter_nil, List.append_nil]; exact hD, _, rfl⟩ (fun i σ G _ hh => SqL.of (hh.1 _ _ hr1)) ?_ ?_
    · rintro i y σ G G' hi ⟨sG, hG, v3, rfl⟩ ⟨rfl, hv⟩
      have li : i < d.r.length := by omega
      unfold numsV at hv
      rw [List.getElem?_map, List.getElem?_eq_getElem li] at hv
      obtain rfl := Option.some.inj hv
      have lk : (kwL ks (d.r.take i)).length ≤ 60 := by
        have := List.length_filter_le (fun p => !decide (p ∈ ks)) (d.r.take i)
        unfold kwL
        rw [List.length_append]
        rw [List.length_take] at this
        omega
      refine ⟨_, rfl, D, rfl, .inl ⟨_, Rd.of hG⟩, _, rfl, _, DGet.k (k := ky d.r[i]) hG, ?_⟩
      have put : ∀ v : V, v = .int (mX ks m d.r[i] : Int) → putK (mV (kwL ks (d.r.take i)) (mX ks m)) (ky d.r[i]) v = mV (kwL ks (d.r.take (i + 1))) (mX ks m) := fun v ev => by
        rw [ev, tks li]
        by_cases c : d.r[i] ∈ ks
        · have c2 : d.r[i] ∈ kwL ks (d.r.take i) := List.mem_append_left _ c
          have e : kwL ks (d.r.take i ++ [d.r[i]]) = kwL ks (d.r.take i) := by
            unfold kwL
            rw [List.filter_append, List.filter_cons, if_neg (by simpa using c), List.filter_nil, List.append_nil]
          rw [mV_put c2, e]
          refine dV_congr fun p _ => ?_
          unfold putN
          split
          · next z => rw [z]
          · rfl
        · have e : kwL ks (d.r.take i ++ [d.r[i]]) = kwL ks (d.r.take i) ++ [d.r[i]] := by
            unfold kwL
            rw [List.filter_append, List.filter_cons, if_pos (by simpa using c), List.filter_nil, List.append_assoc]
          have c2 : d.r[i] ∉ kwL ks (d.r.take i) := fun z => by
            rcases List.mem_append.mp z with z | z
            · exact c z
            · exact tkn rnd li (List.mem_filter.mp z).1
          rw [e]
          unfold mV
          rw [dV_new c2]
          refine dV_congr fun p _ => ?_
          unfold K27.put
          split
          · next z => rw [z]
          · rfl
      have ev : (valV (mV (kwL ks (d.r.take i)) (mX ks m)) (ky d.r[i])).getD (.int 0) = .int (mX ks m d.r[i] : Int) := by
        by_cases c : d.r[i] ∈ kwL ks (d.r.take i)
        · rw [mV_val c]
          rfl
        · rw [show valV (mV (kwL ks (d.r.take i)) (mX ks m)) (ky d.r[i]) = none from dV_none c]
          unfold mX
          rw [if_neg (fun z => c (List.mem_append_left _ z))]
          rfl
      refine ⟨_, rfl, _, rfl, D, _, rfl, DPut.k (k := ky d.r[i]) hG (by rw [dV_len]; omega), ?_⟩
      rw [put _ ev]
      exact ⟨fun c o e => by
        rw [upd_ne (ne_of_none e nD)]
        exact sG _ _ e, upd_same, _, rfl⟩
    · rintro σ G ⟨sG, hG, v3, rfl⟩
      rw [ln, List.take_length] at hG
      exact ⟨_, rfl, k D G sG nD hG⟩
abbrev s_layered : Stmt := top 66
abbrev N_layered : List Str := ["_law_log_here", "_law_marks_here", "_law_found", "_law_here", "_law_spin", "_law_some"]
theorem sc_layered : FnScope N_layered ["_law_log_here", "_law_marks_here"] (defScope s_layered) := ⟨rfl, rfl, rfl, by decide +kernel, rfl, by decide +kernel, by decide +kernel⟩
theorem ok_layered {f : Addr} {fd : FuncData} (F : FnP K "_law_layered" s_layered f fd) (Z : FreeS mg)
    {f_may_go : Addr} {d_may_go : FuncData} (g_may_go : mg "_law_may_go" = some (.ref f_may_go)) (F_may_go : FnP K "_law_may_go" s_may_go f_may_go d_may_go) (G_may_go : FnOk P w K mg base CX0 5 f_may_go d_may_go ["_law_log_here", "_law_marks_here"] spMayGo)
    {f_behind : Addr} {d_behind : FuncData} (g_behind : mg "_law_behind" = some (.ref f_behind)) (F_behind : FnP K "_law_behind" s_behind f_behind d_behind) (G_behind : FnOk P w K mg base CX0 4 f_behind d_behind ["_law_log_here", "_law_marks_here"] spBehind)
    {f_written : Addr} {d_written : FuncData} (g_written : mg "_law_written" = some (.ref f_written)) (F_written : FnP K "_law_written" s_written f_written d_written) (G_written : FnOk P w K mg base CX0 4 f_written d_written ["_law_log_here", "_law_marks_here", "_law_some"] spWritten) :
    FnOk P w K mg base CX0 6 f fd ["_law_log_here", "_law_marks_here"] spLayered := by
  have b_may_go : Binds K d_may_go ["_law_log_here", "_law_marks_here"] [] := F_may_go.bindsN fun _ _ _ _ _ _ us hl => match us, hl with | [_, _], _ => rfl
  have b_behind : Binds K d_behind ["_law_log_here", "_law_marks_here"] [] := F_behind.bindsN fun _ _ _ _ _ _ us hl => match us, hl with | [_, _], _ => rfl
  have b_written : Binds K d_written ["_law_log_here", "_law_marks_here", "_law_some"] [] := F_written.bindsN fun _ _ _ _ _ _ us hl => match us, hl with | [_, _, _], _ => rfl
  refine F.ok sc_layered (fun vs H Q E h => ?_) (fun cdv A outer s H vs Q E hr h => ?_)
  · obtain ⟨a, b, ds, ks, m, rfl, _⟩ := h
    rfl
  · obtain ⟨a, b, ds, ks, m, rfl, hL, hG, bd, hb, pk, rt, k⟩ := h
    have sl : (3000 : Nat) ≤ sizeLine := by decide
    have hu0 : _ < cLine := Nat.lt_of_le_of_lt (Nat.le_add_right _ _) (Nat.lt_of_le_of_lt (Nat.add_le_add_right (Nat.le_add_right _ _) _) hr.un)
    have nd := sc_layered.nd
    refine ⟨_, PSs.nox (pss_cons (ps_par (i := 2) (j := 3) rfl nd rfl rfl (by decide) rfl rfl (pa_cons (pe_lst (pa_nil)) (pa_cons (pe_callTy call_dictDR (by rfl) Z.tdict (by decide +kernel) (pa_cons (pv 1) (pa_nil))) (pa_nil))) rfl)
      (pss_cons (ps_for PassesOwn.never rfl (pi_range1 (by rfl) Z.range (pa_cons (pe_op op_add (pe_callB call_lenD (by rfl) Z.len (by decide +kernel) (pa_cons (pv 1) (pa_nil))) (pe_int)) (pa_nil))) (pg_name (i := 4) nd rfl (Or.inl rfl))
        (pss_cons (ps_set (i := 5) nd rfl (Or.inl rfl) (pe_call G_may_go (hr.mono (by decide)) rfl g_may_go F_may_go.kp b_may_go .nil pass0 (pa_cons (pv 0) (pa_cons (pv 3) (pa_nil)))))
      (pss_one (ps_if (pt_cmpR (op_neE hu0) (pv 5) (pe_lst (pa_nil)) (nomark _)) (pss_cons (ps_expr (pe_bm PySem.F.plainAttrs_list PySem.F.slot_list_append PySem.F.type_list_append mt_append (pv 2) (pa_cons (pv 5) (pa_nil))))
      (pss_one (ps_set (i := 3) nd rfl (Or.inl rfl) (pe_call G_written (hr.mono (by decide)) rfl g_written F_written.kp b_written .nil pass0 (pa_cons (pv 0) (pa_cons (pv 3) (pa_cons (pv 5) (pa_nil)))))))) (pss_nil)))))
      (pss_one (ps_ret (pe_lst (pa_cons (pv 2) (pa_cons (pe_call G_behind (hr.mono (by decide)) rfl g_behind F_behind.kp b_behind .nil pass0 (pa_cons (pv 0) (pa_cons (pv 3) (pa_nil)))) (pa_nil)))))))), ?_⟩
    have pl : ks.length ≤ 30 := by rw [pk.length_eq]; exact hG.pl
    have ol : (offL ds m).length ≤ ks.length := by
      rw [pk.length_eq]
      exact List.length_filter_le _ _
    have cs := off_cs hG m
    have lk : (mV ks m).length = ks.length := dV_len _ _
    refine ⟨Nat.zero_le _, fun F nF => ?_⟩
    have s1 := Same.updf (o := .lst []) nF
    have hF : upd H F (.lst []) F = some (.lst []) := upd_same
    generalize upd H F (.lst []) = G1 at *
    refine ⟨_, rfl, b, _, rfl, Rd.of (s1 _ _ hb), fun D nD => ?_⟩
    have s2 := Same.updf (o := .dK (mV ks m)) nD
    have hD : upd G1 D (.dK (mV ks m)) D = some (.dK (mV ks m)) := upd_same
    have nDF : D ≠ F := (ne_of_none hF nD).symm
    have hF2 := s2 _ _ hF
    have HD : H D = none := none_back s1 nD
    generalize upd G1 D (.dK (mV ks m)) = G2 at *
    have s12 := s1.trans s2
    have oF : Same H (off G2 F) := fun c o e => by
      rw [off_at (ne_of_none e nF)]
      exact s12 _ _ e
    refine ⟨_, _, rfl, ?_⟩
    have en : ((((mV ks m).length : Nat) : Int) + 1).toNat = ks.length + 1 := by omega
    refine ⟨_, rfl, b, _, rfl, s12 _ _ hb, _, _, rfl, rfl, _, rfl, by omega, by omega, ?_⟩
    refine for_it (walk_range (lo := 0)) (fun i σ G => ∃ (ys : List V) (wl : List Nat) (gs : List (List Nat)) (D : Addr) (v4 v5 : Option V), σ = [some (.ref a), some (.ref b), some (.ref F), some (.ref D), v4, v5] ∧ Same H (off G F) ∧ G F = some (.lst ys) ∧ ys.length ≤ i ∧ MkAt G D ks (wrtM ds m wl) ∧ D ≠ F ∧ Lt ds m (offL ds m) wl gs ∧ ((remL (offL ds m) wl).length + i ≤ (offL ds m).length ∨ frF (wq ds m) (remL (offL ds m) wl) = []))
      ⟨[], [], [], D, none, none, rfl, oF, hF2, Nat.le_refl _, by rw [wrt_nil]; exact hD, nDF, lt_start rt _, .inl (List.length_filter_le _ _)⟩ (fun i σ G _ _ => trivial) ?_ ?_
    · rintro i y σ G G' hi ⟨ys, wl, gs, D, v4, v5, rfl, sG, hFG, ly, hDG, nDF, lt, cnt⟩ ⟨rfl, rfl⟩
      have hi' : i < ks.length + 1 := by
        rw [← en]
        exact hi
      have sHG : Same H G' := sG.trans (off_le _ _)
      refine ⟨_, rfl, _, rfl, a, D, ds, ks, wrtM ds m wl, rfl, hL.same sHG, hG, bd, hDG, pk, lt.rt, fun q G2 s2 nq hq => ?_⟩
      refine ⟨_, rfl, Nat.zero_le _, fun E hE => ?_⟩
      have s3 := Same.updf (o := .lst []) hE
      refine ⟨q, E, _, rfl, rfl, SqL.of (s3 _ _ hq), SqL.of upd_same, _, rfl, ?_⟩
      have s23 := s2.trans s3
      have hq3 := s3 _ _ hq
      have nqF : q ≠ F := (ne_of_none hFG nq).symm
      generalize upd G2 E (.lst []) = G3 at *
      have hF3 := s23 _ _ hFG
      have so : Same (off G' F) (off G3 F) := off_same F s23
      have sH3 : Same H G3 := sHG.trans s23
      have hD3 : MkAt G3 D ks (wrtM ds m wl) := s23 _ _ hDG
      have hl : ∀ p, p ∈ frK ks ds (wrtM ds m wl) ↔ p ∈ frF (wq ds m) (remL (offL ds m) wl) := fun p => by
        constructor
        · exact fun h => (lot_iff hG pk cs (off_wrt.mp ((frK_mem pk).mp h).1).1).mp h
        · exact fun h => (lot_iff hG pk cs (rem_mem.mp (fr_mem.mp h).1).1).mpr h
      have lot40 : (frK ks ds (wrtM ds m wl)).length ≤ 40 := by
        have h1 := List.length_filter_le (fun p => !waitsB ds (wrtM ds m wl) p) (offK ks ds (wrtM ds m wl))
        have h2 := List.length_filter_le (fun p => !decide (wrtM ds m wl p = nwN ds p)) ks
        show ((offK ks ds (wrtM ds m wl)).filter fun p => !waitsB ds (wrtM ds m wl) p).length ≤ 40
        unfold offK at h1 ⊢
        omega
      generalize frK ks ds (wrtM ds m wl) = lot at *
      cases lot with
      | nil =>
        refine iteF ⟨ys, wl, gs, D, _, _, rfl, sG.trans so, hF3, by omega, hD3, nDF, lt, .inr ?_⟩
        rw [List.eq_nil_iff_forall_not_mem]
        exact fun p hp => nomatch (hl p).mpr hp
      | cons p0 pr =>
        refine iteT ⟨_, rfl, .inl ⟨rfl, _, SqL.of hF3⟩, _, rfl, _, _, _, rfl, rfl, hF3, by omega, ?_⟩
        have oA : off (upd G3 F (.lst (ys ++ [.ref q]))) F = off G3 F := off_upd _ _ _
        have hA : upd G3 F (.lst (ys ++ [.ref q])) F = _ := upd_same
        have hqA : upd G3 F (.lst (ys ++ [.ref q])) q = _ := (upd_ne nqF).trans hq3
        have hDA : MkAt (upd G3 F (.lst (ys ++ [.ref q]))) D ks (wrtM ds m wl) := (upd_ne nDF).trans hD3
        generalize upd G3 F (.lst (ys ++ [.ref q])) = A1 at *
        have sA0 : Same H (off A1 F) := by
          rw [oA]
          exact sG.trans so
        have sA : Same H A1 := sA0.trans (off_le _ _)
        refine ⟨_, rfl, _, rfl, _, rfl, a, D, q, ds, ks, wrtM ds m wl, _, rfl, hL.same sA, hG, bd, hDA, pk, hqA, lot40, fun D' A2 s4 nD' hD' => ?_⟩
        rw [wrt_wrt] at hD'
        obtain ⟨lt', less⟩ := lt.step hG cs hl (fun z => nomatch z)
        refine ⟨ys ++ [.ref q], wl ++ (p0 :: pr), _, D', _, _, rfl, sA0.trans (off_same F s4), s4 _ _ hA, by rw [List.length_append, List.length_singleton]; omega, hD', (ne_of_none hA nD').symm, lt', ?_⟩
        rcases cnt with c | c
        · exact .inl (by omega)
        · have := (hl p0).mp List.mem_cons_self
          rw [c] at this
          cases this
    · rintro σ G ⟨ys, wl, gs, D, v4, v5, rfl, sG, hFG, ly, hDG, nDF, lt, cnt⟩
      have sHG : Same H G := sG.trans (off_le _ _)
      have fe : frF (wq ds m) (remL (offL ds m) wl) = [] := by
        rcases cnt with c | c
        · rw [en] at c
          omega
        · exact c
      refine ⟨_, rfl, _, rfl, _, rfl, a, D, ds, ks, _, rfl, hL.same sHG, hG, bd, hDG, pk, fun q G2 s2 nq hq => ⟨by show 2 ≤ sizeLine; omega, fun T hT => ?_⟩⟩
      have s3 := Same.updf (o := .lst [V.ref F, V.ref q]) hT
      refine k T F q _ _ (sHG.trans (s2.trans s3)) (none_back (sHG.trans s2) hT) upd_same (s3 _ _ hq) ?_
      rw [rem_off pk]
      have e := lt.end_ fe
      unfold rg
      rw [e]
abbrev s_is_stuck : Stmt := top 69
abbrev N_is_stuck : List Str := ["_law_log_here", "_law_marks_here"]
theorem sc_is_stuck : FnScope N_is_stuck ["_law_log_here", "_law_marks_here"] (defScope s_is_stuck) := ⟨rfl, rfl, rfl, by decide +kernel, rfl, by decide +kernel, by decide +kernel⟩
theorem ok_is_stuck {f : Addr} {fd : FuncData} (F : FnP K "_law_is_stuck" s_is_stuck f fd) (Z : FreeS mg)
    {f_layered : Addr} {d_layered : FuncData} (g_layered : mg "_law_layered" = some (.ref f_layered)) (F_layered : FnP K "_law_layered" s_layered f_layered d_layered) (G_layered : FnOk P w K mg base CX0 6 f_layered d_layered ["_law_log_here", "_law_marks_here"] spLayered) :
    FnOk P w K mg base CX0 7 f fd ["_law_log_here", "_law_marks_here"] spStuck := by
  have b_layered : Binds K d_layered ["_law_log_here", "_law_marks_here"] [] := F_layered.bindsN fun _ _ _ _ _ _ us hl => match us, hl with | [_, _], _ => rfl
  refine F.ok sc_is_stuck (fun vs H Q E h => ?_) (fun cdv A outer s H vs Q E hr h => ?_)
  · obtain ⟨a, b, ds, ks, m, rfl, _⟩ := h
    rfl
  · obtain ⟨a, b, ds, ks, m, rfl, hL, hG, bd, hb, pk, rt, k⟩ := h
    have hu0 : _ < cLine := Nat.lt_of_le_of_lt (Nat.le_add_right _ _) (Nat.lt_of_le_of_lt (Nat.add_le_add_right (Nat.le_add_right _ _) _) hr.un)
    have nd := sc_is_stuck.nd
    refine ⟨_, PSs.nox (pss_one (ps_ret (pe_cmpR (op_neE hu0) (pe_ix ix_list (pe_call G_layered (hr.mono (by decide)) rfl g_layered F_layered.kp b_layered .nil pass0 (pa_cons (pv 0) (pa_cons (pv 1) (pa_nil)))) (pe_int) (fun _ _ => rfl)) (pe_lst (pa_nil)) (nomark _)))), ?_⟩
    refine ⟨_, rfl, _, rfl, a, b, ds, ks, m, rfl, hL, hG, bd, hb, pk, rt, fun T A1 B l G s1 nT hT hB hl => ?_⟩
    refine ⟨T, _, 1, _, rfl, rfl, SqL.of hT, rfl, Nat.zero_le _, fun E hE => ?_⟩
    have s2 := Same.updf (o := .lst []) hE
    refine ⟨B, E, _, rfl, rfl, SqL.of (s2 _ _ hB), SqL.of upd_same, ?_⟩
    have e : ((numsV l).isEmpty != true) = !(rg ds m).isEmpty := by
      cases l with
      | nil =>
        rw [hl.mp rfl]
        rfl
      | cons x r =>
        cases h : rg ds m with
        | nil => exact nomatch hl.mpr h
        | cons y q => rfl
    rw [e]
    exact k _ (s1.trans s2)
end
end K27
set_option Elab.async false
set_option linter.all false
set_option maxRecDepth 100000
set_option maxHeartbeats 8000000
namespace K27
open PySem PySem.Spec PyProof.Rows L2 KB LiI StX
def PrAt (G : Hp) (x : Nat × Nat) (y : V) : Prop := ∃ T, y = .ref T ∧ G T = some (.tup [.int (x.1 : Int), .int (x.2 : Int)])
theorem PrAt.same {G G' : Hp} (s : Same G G') {x : Nat × Nat} {y : V} : PrAt G x y → PrAt G' x y := fun ⟨T, e, h⟩ => ⟨T, e, s _ _ h⟩
def spPairsW : Sp := fun vs H Q _ => ∃ (a b : Addr) (ds : List Dd) (ks : List Nat) (m : Nat → Nat), vs = [.ref a, .ref b] ∧ LogAt H a ds ∧ Lg ds ∧ Bd ds ∧ MkAt H b ks m ∧ ks.Perm (pgs ds) ∧
  ∀ q ys l H', Same H H' → H q = none → H' q = some (.lst ys) → Paired (PrAt H') l ys → l.length ≤ 1200 → (∀ x, x ∈ l ↔ W ds m x.1 x.2) → Q (.ref q) H'
def spUp : Sp := fun vs H Q _ => ∃ (a b : Addr) (ds : List Dd) (ks : List Nat) (m : Nat → Nat) (p : Nat), vs = [.ref a, .ref b, .int (p : Int)] ∧ LogAt H a ds ∧ Lg ds ∧ Bd ds ∧ MkAt H b ks m ∧ ks.Perm (pgs ds) ∧
  ∀ D l H', Same H H' → H D = none → H' D = some (.lst (numsV l)) → l.length ≤ ks.length + 1 → l.Nodup → (∀ q, q ∈ l ↔ Rc (W ds m) p q) → Q (.ref D) H'
def prN (t : List Int) : Nat × Nat := ((t.getD 0 0).toNat, (t.getD 1 0).toNat)
theorem prs_mem {ds : List Dd} {m : Nat → Nat} {x : Nat × Nat} : x ∈ (sortT (wtR ds m)).map prN ↔ W ds m x.1 x.2 := by
  rw [List.mem_map]
  constructor
  · rintro ⟨t, ht, rfl⟩
    obtain ⟨d, hd, c, r, hr, ⟨h1, h2, h3⟩, rfl⟩ := wt_mem.mp ((sortT_perm _).mem_iff.mp ht)
    exact ⟨d, hd, rfl, c, hr, h1, h2, h3⟩
  · rintro ⟨d, hd, e, c, hr, h1, h2, h3⟩
    refine ⟨_, (sortT_perm _).mem_iff.mpr (wt_mem.mpr ⟨d, hd, by rw [e]; exact c, x.1, hr, ⟨by rw [e]; exact h1, h2, h3⟩, rfl⟩), ?_⟩
    rw [e]
    rfl
section
variable {P : Program} {w : World} {K : PySem.W.Frag} {mg : Str → Option Value} {base : Heap}
abbrev s_pairs_waiting : Stmt := top 67
abbrev N_pairs_waiting : List Str := ["_law_log_here", "_law_marks_here", "_law_one", "_law_other", "_law_number"]
theorem sc_pairs_waiting : FnScope N_pairs_waiting ["_law_log_here", "_law_marks_here"] (defScope s_pairs_waiting) := ⟨rfl, rfl, rfl, by decide +kernel, rfl, by decide +kernel, by decide +kernel⟩
theorem ok_pairs_waiting {f : Addr} {fd : FuncData} (F : FnP K "_law_pairs_waiting" s_pairs_waiting f fd) (Z : FreeS mg)
    {f_waiting : Addr} {d_waiting : FuncData} (g_waiting : mg "_law_waiting" = some (.ref f_waiting)) (F_waiting : FnP K "_law_waiting" s_waiting f_waiting d_waiting) (G_waiting : FnOk P w K mg base CX0 4 f_waiting d_waiting ["_law_log_here", "_law_marks_here"] spWaiting) :
    FnOk P w K mg base CX0 5 f fd ["_law_log_here", "_law_marks_here"] spPairsW := by
  have b_waiting : Binds K d_waiting ["_law_log_here", "_law_marks_here"] [] := F_waiting.bindsN fun _ _ _ _ _ _ us hl => match us, hl with | [_, _], _ => rfl
  refine F.ok sc_pairs_waiting (fun vs H Q E h => ?_) (fun cdv A outer s H vs Q E hr h => ?_)
  · obtain ⟨a, b, ds, ks, m, rfl, _⟩ := h
    rfl
  · obtain ⟨a, b, ds, ks, m, rfl, hL, hG, bd, hb, pk, k⟩ := h
    have sl : (3000 : Nat) ≤ sizeLine := by decide
    have nd := sc_pairs_waiting.nd
    refine ⟨_, PSs.nox (pss_one (ps_ret (pe_lc (own := [("_law_one", 2), ("_law_other", 3), ("_law_number", 4)]) (g := gTup K 3 (gCons (gName 2) (gCons (gName 3) (gCons (gName 4) (gNil))))) (tt := tYes) (te := tTup (tCons (tVar 2) (tCons (tVar 3) (tNil)))) (by rfl) nd (pi_list (pe_call G_waiting (hr.mono (by decide)) rfl g_waiting F_waiting.kp b_waiting .nil pass0 (pa_cons (pv 0) (pa_cons (pv 1) (pa_nil)))))
          (blkOk_by (own := [("_law_one", 2), ("_law_other", 3), ("_law_number", 4)]) (N := N_pairs_waiting) (sc := defScope s_pairs_waiting) (by decide +kernel)) (fun _ _ _ _ _ => pg_tup rfl (pgs_cons (pg_name (i := 2) nd rfl (Or.inl rfl)) (pgs_cons (pg_name (i := 3) nd rfl (Or.inl rfl)) (pgs_cons (pg_name (i := 4) nd rfl (Or.inl rfl)) (pgs_nil))))) (fun _ _ _ _ _ => pts_nil)
          (fun _ _ _ _ _ => pe_tup (pa_cons (pv 2) (pa_cons (pv 3) (pa_nil))))))), ?_⟩
    refine ⟨_, rfl, _, rfl, a, b, ds, ks, m, rfl, hL, hG, bd, hb, pk, fun q ys G s1 nq hq py => ?_⟩
    refine ⟨q, rfl, ⟨_, SqL.of hq⟩, fun D hD => ?_⟩
    have ly := paired_len py
    have l12 := wt_len hG m
    refine lc_rel (walk_list (K := K) (a := q) (xs := ys)) (fun _ => true) (fun j y G => PrAt G (prN ((sortT (wtR ds m)).getD j [])) y) (fun j y G G' s1 h => h.same s1) (by omega) hD (fun G s6 => SqL.of (s6 _ _ hq)) ?_ ?_
    · rintro j x G3 G4 Qy Qn hj s6 ⟨acc, hacc⟩ ⟨rfl, hv2⟩ ky_ kn
      obtain ⟨t, et, T, rfl, hT⟩ := paired_get2 py hv2
      obtain ⟨r, o, n, rfl, mr⟩ := wt_three (List.mem_of_getElem? et)
      refine ⟨T, [_, _, _], rfl, .inl (.inl (s6 _ _ hT)), rfl, _, [_, _], rfl, _, [_], rfl, _, [], rfl, rfl, ?_⟩
      refine ⟨rfl, _, rfl, _, rfl, (by show 2 ≤ sizeLine; omega), fun T2 hT2 => ky_ _ _ rfl (Same.updf hT2) ⟨T2, rfl, ?_⟩⟩
      rw [off_at (ne_of_none hacc hT2).symm, upd_same, List.getD_eq_getElem?_getD, et]
      rfl
    · rintro G3 zs s6 hzs pz
      rw [ly.symm, filter_true] at pz
      refine k D zs ((sortT (wtR ds m)).map prN) G3 (s1.trans s6) (none_back s1 hD) hzs ?_ (by rw [List.length_map]; exact l12) (fun x => prs_mem)
      have em : (sortT (wtR ds m)).map prN = (List.range (sortT (wtR ds m)).length).map fun j => prN ((sortT (wtR ds m)).getD j []) := by
        refine List.ext_getElem (by simp) fun j h1 h2 => ?_
        have hj : j < (sortT (wtR ds m)).length := by simpa using h1
        simp [hj]
      rw [em]
      exact paired_map (paired_mono (fun j y h => h.same (off_le _ _)) pz)
abbrev s_up : Stmt := top 71
abbrev N_up : List Str := ["_law_log_here", "_law_marks_here", "_law_page", "_law_found", "_law_pairs", "_law_spin", "_law_one", "_law_other"]
theorem sc_up : FnScope N_up ["_law_log_here", "_law_marks_here", "_law_page"] (defScope s_up) := ⟨rfl, rfl, rfl, by decide +kernel, rfl, by decide +kernel, by decide +kernel⟩
theorem ok_up {f : Addr} {fd : FuncData} (F : FnP K "_law_up" s_up f fd) (Z : FreeS mg)
    {f_pairs_waiting : Addr} {d_pairs_waiting : FuncData} (g_pairs_waiting : mg "_law_pairs_waiting" = some (.ref f_pairs_waiting)) (F_pairs_waiting : FnP K "_law_pairs_waiting" s_pairs_waiting f_pairs_waiting d_pairs_waiting) (G_pairs_waiting : FnOk P w K mg base CX0 5 f_pairs_waiting d_pairs_waiting ["_law_log_here", "_law_marks_here"] spPairsW) :
    FnOk P w K mg base CX0 6 f fd ["_law_log_here", "_law_marks_here", "_law_page"] spUp := by
  have b_pairs_waiting : Binds K d_pairs_waiting ["_law_log_here", "_law_marks_here"] [] := F_pairs_waiting.bindsN fun _ _ _ _ _ _ us hl => match us, hl with | [_, _], _ => rfl
  refine F.ok sc_up (fun vs H Q E h => ?_) (fun cdv A outer s H vs Q E hr h => ?_)
  · obtain ⟨a, b, ds, ks, m, p, rfl, _⟩ := h
    rfl
  · obtain ⟨a, b, ds, ks, m, p, rfl, hL, hG, bd, hb, pk, k⟩ := h
    have sl : (3000 : Nat) ≤ sizeLine := by decide
    have nd := sc_up.nd
    refine ⟨_, PSs.nox (pss_cons (ps_par (i := 3) (j := 4) rfl nd rfl rfl (by decide) rfl rfl (pa_cons (pe_lst (pa_cons (pv 2) (pa_nil))) (pa_cons (pe_call G_pairs_waiting (hr.mono (by decide)) rfl g_pairs_waiting F_pairs_waiting.kp b_pairs_waiting .nil pass0 (pa_cons (pv 0) (pa_cons (pv 1) (pa_nil)))) (pa_nil))) rfl)
      (pss_cons (ps_for PassesOwn.never rfl (pi_range1 (by rfl) Z.range (pa_cons (pe_op op_add (pe_callB call_lenD (by rfl) Z.len (by decide +kernel) (pa_cons (pv 1) (pa_nil))) (pe_int)) (pa_nil))) (pg_name (i := 5) nd rfl (Or.inl rfl))
        (pss_one (ps_for PassesOwn.never rfl (pi_list (pv 4)) (pg_tup rfl (pgs_cons (pg_name (i := 6) nd rfl (Or.inl rfl)) (pgs_cons (pg_name (i := 7) nd rfl (Or.inl rfl)) (pgs_nil))))
        (pss_one (ps_if (PW.pt (pw_and (pt_cmpR op_in_seq (pv 6) (pv 3) (by rfl)) (pw_and1 (pt_cmpR op_notIn_seq (pv 7) (pv 3) (by rfl))))) (pss_one (ps_expr (pe_bm PySem.F.plainAttrs_list PySem.F.slot_list_append PySem.F.type_list_append mt_append (pv 3) (pa_cons (pv 7) (pa_nil))))) (pss_nil))))))
      (pss_one (ps_ret (pe_callB (cr_sorted) (by rfl) Z.sorted (by decide +kernel) (pa_cons (pv 3) (pa_nil))))))), ?_⟩
    have pl : ks.length ≤ 30 := by rw [pk.length_eq]; exact hG.pl
    have ol : (offL ds m).length ≤ ks.length := by
      rw [pk.length_eq]
      exact List.length_filter_le _ _
    have lk : (mV ks m).length = ks.length := dV_len _ _
    refine ⟨_, rfl, by show 1 ≤ sizeLine; omega, fun F nF => ?_⟩
    have s1 := Same.updf (o := .lst [V.int (p : Int)]) nF
    have hF : upd H F (.lst [V.int (p : Int)]) F = some (.lst (numsV [p])) := upd_same
    generalize upd H F (.lst [V.int (p : Int)]) = G1 at *
    refine ⟨_, rfl, _, rfl, a, b, ds, ks, m, rfl, hL.same s1, hG, bd, s1 _ _ hb, pk, fun PQ ys l G2 s2 nPQ hPQ py l12 lm => ?_⟩
    refine ⟨_, _, rfl, ?_⟩
    have s12 := s1.trans s2
    have en : ((((mV ks m).length : Nat) : Int) + 1).toNat = ks.length + 1 := by omega
    refine ⟨_, rfl, b, _, rfl, s12 _ _ hb, _, _, rfl, rfl, _, rfl, by omega, by omega, ?_⟩
    have nPF : PQ ≠ F := (ne_of_none hF nPQ).symm
    have bound : ∀ fs : List Nat, fs.Nodup → (∀ x ∈ fs, Rc (W ds m) p x) → fs.length ≤ ks.length + 1 := fun fs nd rc => by
      have := nd.length_le_of_subset (l₂ := p :: offL ds m) fun x hx => by
        by_cases e : p = x
        · exact e ▸ List.mem_cons_self
        · obtain ⟨y, r⟩ := (rc x hx).last e
          exact List.mem_cons_of_mem _ (w_dst hG r)
      rw [List.length_cons] at this
      omega
    have hPO : off G2 F PQ = some (.lst ys) := (off_at nPF).trans hPQ
    have pyO : Paired (PrAt (off G2 F)) l ys := paired_mono (fun x y ⟨T, e, h⟩ => ⟨T, e, by
      rw [off_at (fun z => by
        have := s2 _ _ hF
        rw [z, this] at h
        cases h)]
      exact h⟩) py
    have HF2 : Same H (off G2 F) := fun c o e => by
      rw [off_at (ne_of_none e nF)]
      exact s12 _ _ e
    have ly := paired_len py
    refine for_it (walk_range (lo := 0)) (fun i σ G => ∃ (fs : List Nat) (v5 v6 v7 : Option V), σ = [some (.ref a), some (.ref b), some (.int (p : Int)), some (.ref F), some (.ref PQ), v5, v6, v7] ∧ Same (off G2 F) (off G F) ∧ G F = some (.lst (numsV fs)) ∧ fs.Nodup ∧ p ∈ fs ∧ (∀ x ∈ fs, Rc (W ds m) p x) ∧ (i + 1 ≤ fs.length ∨ ∀ x ∈ fs, ∀ y, W ds m x y → y ∈ fs))
      ⟨[p], none, none, none, rfl, Same.refl _, s2 _ _ hF, by simp, List.mem_cons_self, fun x hx => by rw [List.mem_singleton.mp hx]; exact .refl _, .inl (Nat.le_refl _)⟩ (fun i σ G _ _ => trivial) ?_ ?_
    · rintro i y σ G G' hi ⟨fs, v5, v6, v7, rfl, sG, hFG, fnd, mp, rc, ce⟩ ⟨rfl, rfl⟩
      have lf := bound fs fnd rc
      refine ⟨_, rfl, PQ, rfl, ⟨_, SqL.of (off_le _ _ _ _ (sG _ _ hPO))⟩, ?_⟩
      refine for_it (walk_list (K := K) (a := PQ) (xs := ys)) (fun j σ G3 => ∃ (ex : List Nat) (v6 v7 : Option V), σ = [some (.ref a), some (.ref b), some (.int (p : Int)), some (.ref F), some (.ref PQ), some (.int (0 + (i : Int))), v6, v7] ∧ Same (off G2 F) (off G3 F) ∧ G3 F = some (.lst (numsV (fs ++ ex))) ∧ (fs ++ ex).Nodup ∧ (∀ x ∈ fs ++ ex, Rc (W ds m) p x) ∧ (∀ x ∈ l.take j, x.1 ∈ fs → x.2 ∈ fs ++ ex) ∧ ((∀ x ∈ fs, ∀ y, W ds m x y → y ∈ fs) → ex = []))
        ⟨[], _, _, rfl, sG, by rw [List.append_nil]; exact hFG, by rw [List.append_nil]; exact fnd, by rw [List.append_nil]; exact rc, fun x hx => by simp at hx, fun _ => rfl⟩ (fun j σ G3 _ hh => SqL.of (by
          obtain ⟨ex, _, _, _, s, _⟩ := hh
          exact off_le _ _ _ _ (s _ _ hPO))) ?_ ?_
      · rintro j z σ G3 G4 hj ⟨ex, v6, v7, rfl, s3, hF3, nd3, rc3, cov, cl3⟩ ⟨rfl, hv⟩
        obtain ⟨x, ex_, T, rfl, hT⟩ := paired_get2 pyO hv
        have lf3 := bound _ nd3 rc3
        have etk : l.take (j + 1) = l.take j ++ [x] := by
          rw [List.take_succ, ex_]
          rfl
        have wx := (lm x).mp (List.mem_of_getElem? ex_)
        have hT3 := off_le _ _ _ _ (s3 _ _ hT)
        refine ⟨T, [_, _], rfl, .inl (.inl hT3), rfl, _, [_], rfl, _, [], rfl, rfl, ?_⟩
        refine ⟨_, rfl, _, rfl, F, _, rfl, .inl (SqL.of hF3), rfl, flat_nums2 _, _, rfl, ?_⟩
        rw [inV_nums2]
        by_cases c1 : x.1 ∈ fs ++ ex
        · rw [decide_eq_true c1]
          refine iteT ⟨_, rfl, _, rfl, F, _, rfl, .inl (SqL.of hF3), rfl, flat_nums2 _, _, rfl, ?_⟩
          rw [inV_nums2]
          by_cases c2 : x.2 ∈ fs ++ ex
          · rw [decide_eq_true c2]
            refine iteF ⟨ex, _, _, rfl, s3, hF3, nd3, rc3, fun x' hx' c => ?_, cl3⟩
            rw [etk] at hx'
            rcases List.mem_append.mp hx' with hx' | hx'
            · exact cov x' hx' c
            · rw [List.mem_singleton.mp hx']
              exact c2
          · rw [decide_eq_false c2]
            refine iteT ⟨_, rfl, .inl ⟨rfl, _, SqL.of hF3⟩, _, rfl, _, _, _, rfl, rfl, hF3, by unfold numsV; rw [List.length_map]; omega, ?_⟩
            have enum : numsV (fs ++ ex) ++ [V.int (x.2 : Int)] = numsV (fs ++ (ex ++ [x.2])) := by
              rw [← List.append_assoc, numsV_snoc]
            rw [enum]
            have nd4 : (fs ++ (ex ++ [x.2])).Nodup := by
              rw [← List.append_assoc, List.nodup_append]
              exact ⟨nd3, by simp, fun a ha b hb e => c2 (by rw [List.mem_singleton.mp hb] at e; exact e ▸ ha)⟩
            refine ⟨ex ++ [x.2], _, _, rfl, by rw [off_upd]; exact s3, upd_same, nd4, fun y hy => ?_, fun x' hx' c => ?_, fun cl => ?_⟩
            · rw [← List.append_assoc] at hy
              rcases List.mem_append.mp hy with hy | hy
              · exact rc3 y hy
              · rw [List.mem_singleton.mp hy]
                exact (rc3 _ c1).tail wx
            · rw [← List.append_assoc]
              rw [etk] at hx'
              rcases List.mem_append.mp hx' with hx' | hx'
              · exact List.mem_append_left _ (cov x' hx' c)
              · rw [List.mem_singleton.mp hx']
                exact List.mem_append_right _ List.mem_cons_self
            · have e := cl3 cl
              rw [e, List.append_nil] at c1 c2
              exact absurd (cl _ c1 _ wx) c2
        · rw [decide_eq_false c1]
          refine iteF ⟨ex, _, _, rfl, s3, hF3, nd3, rc3, fun x' hx' c => ?_, cl3⟩
          rw [etk] at hx'
          rcases List.mem_append.mp hx' with hx' | hx'
          · exact cov x' hx' c
          · rw [List.mem_singleton.mp hx'] at c
            exact absurd (List.mem_append_left _ c) c1
      · rintro σ G3 ⟨ex, v6, v7, rfl, s3, hF3, nd3, rc3, cov, cl3⟩
        rw [← ly, List.take_length] at cov
        refine ⟨fs ++ ex, _, _, _, rfl, s3, hF3, nd3, List.mem_append_left _ mp, rc3, ?_⟩
        by_cases e : ex = []
        · subst e
          rw [List.append_nil] at cov ⊢
          exact .inr fun x hx y hw => cov (x, y) ((lm (x, y)).mpr hw) hx
        · have le : 0 < ex.length := List.length_pos_iff.mpr e
          rcases ce with c | c
          · rw [List.length_append]
            exact .inl (by omega)
          · exact absurd (cl3 c) e
    · rintro σ G ⟨fs, v5, v6, v7, rfl, sG, hFG, fnd, mp, rc, ce⟩
      have lf := bound fs fnd rc
      have clo : ∀ x ∈ fs, ∀ y, W ds m x y → y ∈ fs := by
        rcases ce with c | c
        · rw [en] at c
          omega
        · exact c
      have sHG : Same H G := HF2.trans (sG.trans (off_le _ _))
      refine ⟨_, rfl, F, fs.map (fun x : Nat => (x : Int)), rfl, SqL.of (by rw [nums_ints]; exact hFG), by rw [List.length_map]; omega, fun ns D hp hs hn => ?_⟩
      obtain ⟨rr, rfl⟩ : ∃ rr : List Nat, ns = rr.map fun x : Nat => (x : Int) := by
        refine ⟨ns.map Int.toNat, ?_⟩
        rw [List.map_map]
        conv => lhs; rw [← List.map_id ns]
        refine List.map_congr_left fun x mx => ?_
        obtain ⟨y, _, rfl⟩ := List.mem_map.mp (hp.mem_iff.mp mx)
        simp
      have prr : rr.Perm fs := by
        have := hp.map Int.toNat
        rw [List.map_map, List.map_map] at this
        have id1 : (Int.toNat ∘ fun x : Nat => (x : Int)) = id := by
          funext x
          simp
        rw [id1, List.map_id, List.map_id] at this
        exact this
      refine k D rr _ (sHG.trans (Same.updf hn)) (none_back sHG hn) (by rw [upd_same, nums_ints]) (by rw [prr.length_eq]; exact lf) (prr.nodup_iff.mpr fnd) fun q => ?_
      rw [prr.mem_iff]
      exact ⟨rc q, fun h => h.in_ (T := fun x => x ∈ fs) (fun x y hx hy => clo x hx y hy) mp⟩
end
end K27
set_option Elab.async false
set_option linter.all false
set_option maxRecDepth 100000
set_option maxHeartbeats 8000000
namespace K27
open PySem PySem.Spec PyProof.Rows L2 KB LiI StX
def spAheadD : Sp := fun vs H Q _ => ∃ (a b : Addr) (x : V) (ds : List Dd) (m : Nat → Nat) (d : Dd), vs = [.ref a, .ref b, x] ∧ LogAt H a ds ∧ Lg ds ∧ Bd ds ∧ MkAt H b (pgs ds) m ∧ Rt ds m ∧ DeedAt H x d ∧ d.p ∈ offL ds m ∧
  ∀ A ys H', Same H H' → H A = none → H' A = some (.lst ys) → Paired (GrAt H H') (upG ds m d.p) ys → Q (.ref A) H'
def spNextL : Sp := fun vs H Q _ => ∃ (pu a pg : Addr) (N : Nat) (ds : List Dd) (ps : List Nat), vs = [.ref pu, .ref a, .ref pg] ∧ Purse H pu N ∧ N ≤ 2 ^ 37 ∧ LogAt (off H pu) a ds ∧ ds ≠ [] ∧ Lg ds ∧ (∀ e ∈ ds, e.n ≤ 100) ∧ pg ≠ pu ∧ H pg = some (.lst (numsV ps)) ∧ 1 ≤ ps.length ∧ ps.length ≤ 6 ∧ ps.Pairwise (· < ·) ∧
  ∀ x d H', But pu H H' → Purse H' pu (N + 20) → DeedAt (off H' pu) x d → d.Ok → (∀ e ∈ ds, e.n < d.n) → (∀ y ∈ d.r, y ∈ ps) → d.n ≤ 110 → Q x H'
section
variable {P : Program} {w : World} {K : PySem.W.Frag} {mg : Str → Option Value} {base : Heap}
abbrev s_ahead_due : Stmt := top 72
abbrev N_ahead_due : List Str := ["_law_log_here", "_law_marks_here", "_law_deed", "_law_some", "_law_here", "_law_found", "_law_spin", "_law_group", "_law_page"]
theorem sc_ahead_due : FnScope N_ahead_due ["_law_log_here", "_law_marks_here", "_law_deed"] (defScope s_ahead_due) := ⟨rfl, rfl, rfl, by decide +kernel, rfl, by decide +kernel, by decide +kernel⟩
theorem ok_ahead_due {f : Addr} {fd : FuncData} (F : FnP K "_law_ahead_due" s_ahead_due f fd) (Z : FreeS mg)
    {f_up : Addr} {d_up : FuncData} (g_up : mg "_law_up" = some (.ref f_up)) (F_up : FnP K "_law_up" s_up f_up d_up) (G_up : FnOk P w K mg base CX0 6 f_up d_up ["_law_log_here", "_law_marks_here", "_law_page"] spUp)
    {f_written : Addr} {d_written : FuncData} (g_written : mg "_law_written" = some (.ref f_written)) (F_written : FnP K "_law_written" s_written f_written d_written) (G_written : FnOk P w K mg base CX0 4 f_written d_written ["_law_log_here", "_law_marks_here", "_law_some"] spWritten)
    {f_may_go : Addr} {d_may_go : FuncData} (g_may_go : mg "_law_may_go" = some (.ref f_may_go)) (F_may_go : FnP K "_law_may_go" s_may_go f_may_go d_may_go) (G_may_go : FnOk P w K mg base CX0 5 f_may_go d_may_go ["_law_log_here", "_law_marks_here"] spMayGo) :
    FnOk P w K mg base CX0 7 f fd ["_law_log_here", "_law_marks_here", "_law_deed"] spAheadD := by
  have b_up : Binds K d_up ["_law_log_here", "_law_marks_here", "_law_page"] [] := F_up.bindsN fun _ _ _ _ _ _ us hl => match us, hl with | [_, _, _], _ => rfl
  have b_written : Binds K d_written ["_law_log_here", "_law_marks_here", "_law_some"] [] := F_written.bindsN fun _ _ _ _ _ _ us hl => match us, hl with | [_, _, _], _ => rfl
  have b_may_go : Binds K d_may_go ["_law_log_here", "_law_marks_here"] [] := F_may_go.bindsN fun _ _ _ _ _ _ us hl => match us, hl with | [_, _], _ => rfl
  refine F.ok sc_ahead_due (fun vs H Q E h => ?_) (fun cdv A outer s H vs Q E hr h => ?_)
  · obtain ⟨a, b, x, ds, m, d, rfl, _⟩ := h
    rfl
  · obtain ⟨a, b, x, ds, m, d, rfl, hL, hG, bd, hb, rt, hx, mp, k⟩ := h
    have sl : (3000 : Nat) ≤ sizeLine := by decide
    have hu0 : _ < cLine := Nat.lt_of_le_of_lt (Nat.le_add_right _ _) (Nat.lt_of_le_of_lt (Nat.add_le_add_right (Nat.le_add_right _ _) _) hr.un)
    have nd := sc_ahead_due.nd
    refine ⟨_, PSs.nox (pss_cons (ps_asg (pe_tup (pa_cons (pe_call G_up (hr.mono (by decide)) rfl g_up F_up.kp b_up .nil pass0 (pa_cons (pv 0) (pa_cons (pv 1) (pa_cons (pe_ix ix_tup (pv 2) (pe_int) (fun _ _ => rfl)) (pa_nil))))) (pa_cons (pe_callTy call_dictDR (by rfl) Z.tdict (by decide +kernel) (pa_cons (pv 1) (pa_nil))) (pa_cons (pe_lst (pa_nil)) (pa_nil))))) (pg_tup rfl (pgs_cons (pg_name (i := 3) nd rfl (Or.inr rfl)) (pgs_cons (pg_name (i := 4) nd rfl (Or.inl rfl)) (pgs_cons (pg_name (i := 5) nd rfl (Or.inl rfl)) (pgs_nil))))))
      (pss_cons (ps_for PassesOwn.never rfl (pi_range1 (by rfl) Z.range (pa_cons (pe_op op_add (pe_callB call_len_seq (by rfl) Z.len (by decide +kernel) (pa_cons (pv 3) (pa_nil))) (pe_int)) (pa_nil))) (pg_name (i := 6) nd rfl (Or.inl rfl))
        (pss_cons (ps_setLc (i := 7) (own := [("_law_page", 8)]) (g := gName 8) (tt := tTest (tOp (rIn K false) (tVar 8) (tVar 3))) (te := tVar 8) (by rfl) nd rfl rfl rfl (pi_list (pe_call G_may_go (hr.mono (by decide)) rfl g_may_go F_may_go.kp b_may_go .nil pass0 (pa_cons (pv 0) (pa_cons (pv 4) (pa_nil)))))
          (blkOk_by (own := [("_law_page", 8)]) (N := N_ahead_due) (sc := defScope s_ahead_due) (by decide +kernel)) (fun _ _ _ _ _ => pg_name (i := 8) nd rfl (Or.inl rfl)) (fun _ _ _ _ _ => pts_one (pt_cmpR op_in_seq (pv 8) (pv 3) (by rfl)))
          (fun _ _ _ _ _ => pv 8))
      (pss_one (ps_if (pt_cmpR (op_neE hu0) (pv 7) (pe_lst (pa_nil)) (nomark _)) (pss_cons (ps_expr (pe_bm PySem.F.plainAttrs_list PySem.F.slot_list_append PySem.F.type_list_append mt_append (pv 5) (pa_cons (pv 7) (pa_nil))))
      (pss_one (ps_set (i := 4) nd rfl (Or.inl rfl) (pe_call G_written (hr.mono (by decide)) rfl g_written F_written.kp b_written .nil pass0 (pa_cons (pv 0) (pa_cons (pv 4) (pa_cons (pv 7) (pa_nil)))))))) (pss_nil)))))
      (pss_one (ps_ret (pv 5))))), ?_⟩
    have pk : (pgs ds).Perm (pgs ds) := List.Perm.refl _
    have pl := hG.pl
    have cs := cl_cs hG m d.p
    have ca : (cl (wq ds m) (offL ds m) d.p).Pairwise (· < ·) := (offL_asc ds m).filter _
    have cm : ∀ q, q ∈ cl (wq ds m) (offL ds m) d.p ↔ Rc (W ds m) d.p q := fun q => by
      rw [cl_mem, wq_fun]
      exact ⟨fun h => h.2, fun h => ⟨h.in_ (T := fun x => x ∈ offL ds m) (fun x y _ r => w_dst hG r) mp, h⟩⟩
    have kk : ∀ A ys H', Same H H' → H A = none → H' A = some (.lst ys) → Paired (GrAt H H') (lay (wq ds m) (cl (wq ds m) (offL ds m) d.p)).1 ys → Q (.ref A) H' := k
    clear k
    generalize cl (wq ds m) (offL ds m) d.p = C at *
    have cnd : C.Nodup := ca.imp fun h => Nat.ne_of_lt h
    have c30 : C.length ≤ 30 := Nat.le_trans (asc_len cnd fun x hx => (offL_mem.mp (cs.off x hx)).1) pl
    obtain ⟨t, rd, tw, rfl, ht, _, _⟩ := id hx
    refine ⟨_, rfl, _, rfl, _, rfl, t, _, 1, _, rfl, rfl, SqT.of ht, rfl, a, b, ds, pgs ds, m, d.p, rfl, hL, hG, bd, hb, pk, fun S so G1 s1 nS hS lso nso mso => ?_⟩
    have eso : so.length = C.length := ((List.perm_ext_iff_of_nodup nso cnd).mpr fun q => by rw [mso, cm]).length_eq
    have mso' : ∀ q, q ∈ so ↔ q ∈ C := fun q => by rw [mso, cm]
    refine ⟨_, rfl, b, _, rfl, Rd.of (s1 _ _ hb), fun D nD => ?_⟩
    have s2 := Same.updf (o := .dK (mV (pgs ds) m)) nD
    have hD : upd G1 D (.dK (mV (pgs ds) m)) D = some (.dK (mV (pgs ds) m)) := upd_same
    have hS2 := s2 _ _ hS
    generalize upd G1 D (.dK (mV (pgs ds) m)) = G2 at *
    have s12 := s1.trans s2
    refine ⟨Nat.zero_le _, fun F nF => ?_⟩
    have HF : H F = none := none_back s12 nF
    have s3 := Same.updf (o := .lst []) nF
    have hF : upd G2 F (.lst []) F = some (.lst []) := upd_same
    have nDF : D ≠ F := ne_of_none hD nF
    have nSF : S ≠ F := ne_of_none hS2 nF
    have hS3 := s3 _ _ hS2
    have hD3 := s3 _ _ hD
    have o3 : Same G2 (off (upd G2 F (.lst [])) F) := fun c o e => by
      rw [off_at (ne_of_none e nF)]
      exact s3 _ _ e
    generalize upd G2 F (.lst []) = G3 at *
    have oH := s12.trans o3
    refine ⟨by show 3 ≤ sizeLine; omega, fun T0 nT0 => ⟨T0, [_, _, _], rfl, .inl (.inl upd_same), rfl, _, [_, _], rfl, _, [_], rfl, _, [], rfl, rfl, ?_⟩⟩
    have sT0 := Same.updf (o := .tup [V.ref S, V.ref D, V.ref F]) nT0
    generalize upd G3 T0 (.tup [V.ref S, V.ref D, V.ref F]) = G3' at *
    replace hF := sT0 _ _ hF
    replace hS3 := sT0 _ _ hS3
    replace hD3 := sT0 _ _ hD3
    replace oH := oH.trans (off_same F sT0)
    have en : (((((numsV so).length : Nat) : Int) + 1).toNat) = C.length + 1 := by
      unfold numsV
      rw [List.length_map]
      omega
    have lns : (numsV so).length = C.length := by
      unfold numsV
      rw [List.length_map]
      exact eso
    refine ⟨_, rfl, S, _, rfl, .inl (SqL.of hS3), _, _, rfl, rfl, _, rfl, by omega, by omega, ?_⟩
    refine for_it (walk_range (lo := 0)) (fun i σ G => ∃ (ys : List V) (wl : List Nat) (gs : List (List Nat)) (D : Addr) (v6 v7 v8 : Option V), σ = [some (.ref a), some (.ref b), some (.ref t), some (.ref S), some (.ref D), some (.ref F), v6, v7, v8] ∧ Same H (off G F) ∧ G F = some (.lst ys) ∧ ys.length ≤ i ∧ Paired (GrAt H (off G F)) gs ys ∧ G S = some (.lst (numsV so)) ∧ MkAt G D (pgs ds) (wrtM ds m wl) ∧ D ≠ F ∧ Lt ds m C wl gs ∧ ((remL C wl).length + i ≤ C.length ∨ frF (wq ds m) (remL C wl) = []))
      ⟨[], [], [], D, none, none, none, rfl, oH, hF, Nat.le_refl _, .nil, hS3, by rw [wrt_nil]; exact hD3, nDF, lt_start rt _, .inl (List.length_filter_le _ _)⟩ (fun i σ G _ _ => trivial) ?_ ?_
    · rintro i y σ G G' hi ⟨ys, wl, gs, D, v6, v7, v8, rfl, sG, hFG, ly, py, hSG, hDG, nDF, lt, cnt⟩ ⟨rfl, rfl⟩
      have hi' : i < C.length + 1 := by
        rw [← en]
        exact hi
      have sHG : Same H G' := sG.trans (off_le _ _)
      refine ⟨_, rfl, _, rfl, a, D, ds, pgs ds, wrtM ds m wl, rfl, hL.same sHG, hG, bd, hDG, pk, lt.rt, fun q G2 s2 nq hq => ?_⟩
      refine ⟨q, rfl, ⟨_, SqL.of hq⟩, fun E hE => ?_⟩
      have lot40 : (frK (pgs ds) ds (wrtM ds m wl)).length ≤ 40 := by
        have h1 := List.length_filter_le (fun p => !waitsB ds (wrtM ds m wl) p) (offK (pgs ds) ds (wrtM ds m wl))
        have h2 := List.length_filter_le (fun p => !decide (wrtM ds m wl p = nwN ds p)) (pgs ds)
        show ((offK (pgs ds) ds (wrtM ds m wl)).filter fun p => !waitsB ds (wrtM ds m wl) p).length ≤ 40
        unfold offK at h1 ⊢
        omega
      refine lc_nums (fun p => decide (p ∈ C)) (by omega) hq hE ?_ ?_
      · intro p G4 Qy Qn mpp sg ky_ kn
        refine ⟨rfl, _, rfl, _, rfl, S, _, rfl, .inl (SqL.of (sg _ _ (s2 _ _ hSG))), rfl, flat_nums2 _, _, rfl, ?_⟩
        rw [inV_nums2]
        by_cases c : p ∈ C
        · rw [decide_eq_true c] at ky_ kn
          rw [decide_eq_true ((mso' p).mpr c)]
          exact iteT ⟨_, rfl, ky_ _ (Same.refl _) rfl⟩
        · rw [decide_eq_false c] at ky_ kn
          rw [decide_eq_false (fun z => c ((mso' p).mp z))]
          exact iteF (kn _ (Same.refl _) rfl)
      intro G3 s3 hE3
      have ef : (frK (pgs ds) ds (wrtM ds m wl)).filter (fun p => decide (p ∈ C)) = frF (wq ds m) (remL C wl) := by
        refine asc_uniq ((((pgs_asc ds).filter _).filter _).filter _) (((ca.filter _).filter _)) fun p => ?_
        rw [List.mem_filter, decide_eq_true_eq]
        constructor
        · exact fun h => (lot_iff hG pk cs h.2).mp h.1
        · exact fun h => ⟨(lot_iff hG pk cs (rem_mem.mp (fr_mem.mp h).1).1).mpr h, (rem_mem.mp (fr_mem.mp h).1).1⟩
      rw [ef] at hE3
      have nE : H E = none := none_back (sHG.trans s2) hE
      have nEF : E ≠ F := (ne_of_none (s2 _ _ hFG) hE).symm
      refine ⟨_, rfl, Nat.zero_le _, fun E2 hE2 => ?_⟩
      have s4 := Same.updf (o := .lst []) hE2
      refine ⟨E, E2, _, rfl, rfl, SqL.of (s4 _ _ hE3), SqL.of upd_same, _, rfl, ?_⟩
      have s24 := s2.trans (s3.trans s4)
      have hE4 := s4 _ _ hE3
      generalize upd G3 E2 (.lst []) = G4 at *
      have hF4 := s24 _ _ hFG
      have so4 : Same (off G' F) (off G4 F) := off_same F s24
      have hD4 : MkAt G4 D (pgs ds) (wrtM ds m wl) := s24 _ _ hDG
      have lfr : (frF (wq ds m) (remL C wl)).length ≤ 30 := Nat.le_trans (List.length_filter_le _ _) (Nat.le_trans (List.length_filter_le _ _) c30)
      by_cases fe : frF (wq ds m) (remL C wl) = []
      · rw [fe]
        exact iteF ⟨ys, wl, gs, D, _, _, _, rfl, sG.trans so4, hF4, by omega, paired_mono (fun g y h => h.same so4) py, s24 _ _ hSG, hD4, nDF, lt, .inr fe⟩
      · have ne : (((numsV (frF (wq ds m) (remL C wl))).isEmpty) != true) = true := by
          cases h : frF (wq ds m) (remL C wl) with
          | nil => exact absurd h fe
          | cons x r => rfl
        rw [ne]
        refine iteT ⟨_, rfl, .inl ⟨rfl, _, SqL.of hF4⟩, _, rfl, _, _, _, rfl, rfl, hF4, by omega, ?_⟩
        have oA : off (upd G4 F (.lst (ys ++ [.ref E]))) F = off G4 F := off_upd _ _ _
        have hA : upd G4 F (.lst (ys ++ [.ref E])) F = _ := upd_same
        have hEA : upd G4 F (.lst (ys ++ [.ref E])) E = _ := (upd_ne nEF).trans hE4
        have hDA : MkAt (upd G4 F (.lst (ys ++ [.ref E]))) D (pgs ds) (wrtM ds m wl) := (upd_ne nDF).trans hD4
        have hSA : upd G4 F (.lst (ys ++ [.ref E])) S = _ := (upd_ne nSF).trans (s24 _ _ hSG)
        generalize upd G4 F (.lst (ys ++ [.ref E])) = A1 at *
        have sA0 : Same H (off A1 F) := by
          rw [oA]
          exact sG.trans so4
        have sA : Same H A1 := sA0.trans (off_le _ _)
        refine ⟨_, rfl, _, rfl, _, rfl, a, D, E, ds, pgs ds, wrtM ds m wl, _, rfl, hL.same sA, hG, bd, hDA, pk, hEA, by omega, fun D' A2 s5 nD' hD' => ?_⟩
        rw [wrt_wrt] at hD'
        obtain ⟨lt', less⟩ := lt.step hG cs (fun p => Iff.rfl) fe
        have so5 : Same (off G' F) (off A2 F) := by
          refine so4.trans ?_
          rw [← oA]
          exact off_same F s5
        refine ⟨ys ++ [.ref E], _, _, D', _, _, _, rfl, sA0.trans (off_same F s5), s5 _ _ hA, by rw [List.length_append, List.length_singleton]; omega, ?_, s5 _ _ hSA, hD', (ne_of_none hA nD').symm, lt', ?_⟩
        · refine paired_snoc (paired_mono (fun g y h => h.same so5) py) ⟨E, rfl, nE, ?_⟩
          rw [off_at nEF]
          exact s5 _ _ hEA
        · rcases cnt with c | c
          · exact .inl (by omega)
          · exact absurd c fe
    · rintro σ G ⟨ys, wl, gs, D, v6, v7, v8, rfl, sG, hFG, ly, py, hSG, hDG, nDF, lt, cnt⟩
      have sHG : Same H G := sG.trans (off_le _ _)
      have fe : frF (wq ds m) (remL C wl) = [] := by
        rcases cnt with c | c
        · rw [en] at c
          omega
        · exact c
      refine ⟨_, rfl, kk F ys G sHG HF hFG ?_⟩
      rw [lt.end_ fe]
      exact paired_mono (fun g y h => h.same (off_le _ _)) py
abbrev s_next_deed : Stmt := top 70
abbrev N_next_deed : List Str := ["_law_purse_here", "_law_log_here", "_law_pages", "_law_page", "_law_reads", "_law_late"]
theorem sc_next_deed : FnScope N_next_deed ["_law_purse_here", "_law_log_here", "_law_pages"] (defScope s_next_deed) := ⟨rfl, rfl, rfl, by decide +kernel, rfl, by decide +kernel, by decide +kernel⟩
theorem ok_next_deed {f : Addr} {fd : FuncData} (F : FnP K "_law_next_deed" s_next_deed f fd) (Z : FreeS mg)
    {f_one_of : Addr} {d_one_of : FuncData} (g_one_of : mg "_law_one_of" = some (.ref f_one_of)) (F_one_of : FnP K "_law_one_of" s_one_of f_one_of d_one_of) (G_one_of : FnOk P w K mg base CX0 3 f_one_of d_one_of ["_law_purse_here", "_law_some"] (spOne K))
    {f_draw : Addr} {d_draw : FuncData} (g_draw : mg "_law_draw" = some (.ref f_draw)) (F_draw : FnP K "_law_draw" s_draw f_draw d_draw) (G_draw : FnOk P w K mg base CX0 2 f_draw d_draw ["_law_purse_here", "_law_many"] spDraw) :
    FnOk P w K mg base CX0 4 f fd ["_law_purse_here", "_law_log_here", "_law_pages"] spNextL := by
  have b_one_of : Binds K d_one_of ["_law_purse_here", "_law_some"] [] := F_one_of.bindsN fun _ _ _ _ _ _ us hl => match us, hl with | [_, _], _ => rfl
  have b_draw : Binds K d_draw ["_law_purse_here", "_law_many"] [] := F_draw.bindsN fun _ _ _ _ _ _ us hl => match us, hl with | [_, _], _ => rfl
  refine F.ok sc_next_deed (fun vs H Q E h => ?_) (fun cdv A outer s H vs Q E hr h => ?_)
  · obtain ⟨pu, a, pg, N, ds, ps, rfl, _⟩ := h
    rfl
  · obtain ⟨pu, a, pg, N, ds, ps, rfl, hP, hN, hL, dne, hG, n100, npg, hpg, p1, p6, ap, k⟩ := h
    have mx : ∀ m : Int, 1 ≤ m → m < 100 → mixes m = 1 := fun m h1 h2 => mixes_one h1 (by omega)
    have one : ∀ m : Int, 1 ≤ m → m < 100 → ∀ M, M ≤ 2 ^ 41 → M + mixes m ≤ 2 ^ 50 ∧ mixes m ≤ 2 ^ 50 := fun m h1 h2 M hM => by
      rw [mx m h1 h2]
      omega
    have sl : (2000 : Nat) ≤ sizeLine := by decide
    have nd := sc_next_deed.nd
    refine ⟨_, PSs.nox (pss_cons (ps_set (i := 3) nd rfl (Or.inr rfl) (pe_call G_one_of (hr.mono (by decide)) rfl g_one_of F_one_of.kp b_one_of .nil pass0 (pa_cons (pv 0) (pa_cons (pv 2) (pa_nil)))))
      (pss_cons (ps_set (i := 4) nd rfl (Or.inl rfl) (pe_callB (cr_sorted) (by rfl) Z.sorted (by decide +kernel) (pa_cons (pe_op op_cat (pe_lst (pa_cons (pv 3) (pa_nil))) (pe_lc (own := [("_law_late", 5)]) (g := gName 5) (tt := tAnd (tTest (tOp rNe (tVar 5) (tVar 3))) (tTest (tOp rEq (tCall spDraw [] E0 (tCons (tVar 0) (tCons (tC (.int 2)) (tNil)))) (tC (.int 0))))) (te := tVar 5) (by rfl) nd (pi_list (pv 2))
          (blkOk_by (own := [("_law_late", 5)]) (N := N_next_deed) (sc := defScope s_next_deed) (by decide +kernel)) (fun _ _ _ _ _ => pg_name (i := 5) nd rfl (Or.inl rfl)) (fun _ _ _ _ _ => pts_one (PW.pt (pw_and (pt_cmpR op_ne (pv 5) (pv 3) (nomark _)) (pw_and1 (pt_cmpR op_eq (pe_call G_draw (hr.mono (by decide)) rfl g_draw F_draw.kp b_draw .nil pass0 (pa_cons (pv 0) (pa_cons (pe_int) (pa_nil)))) (pe_int) (nomark _))))))
          (fun _ _ _ _ _ => pv 5))) (pa_nil))))
      (pss_one (ps_ret (pe_tup (pa_cons (pe_op op_add (pe_op op_add (pe_ix ix_tup (pe_ix ix_list (pv 1) (pe_un un_neg (pe_int)) (fun _ _ => rfl)) (pe_int) (fun _ _ => rfl)) (pe_int)) (pe_call G_draw (hr.mono (by decide)) rfl g_draw F_draw.kp b_draw .nil pass0 (pa_cons (pv 0) (pa_cons (pe_int) (pa_nil))))) (pa_cons (pv 3) (pa_cons (pv 4) (pa_cons (pe_tup (pa_cons (pe_str) (pa_nil))) (pa_nil)))))))))), ?_⟩
    have dr : ∀ m : Int, 1 ≤ m → m < 100 → ∀ M, M ≤ N + 2000 → ∀ H', Purse H' pu M → 1 ≤ m ∧ m.natAbs.log2 < 9000 ∧ Purse H' pu M ∧ M + mixes m ≤ 2 ^ 50 ∧ mixes m ≤ 2 ^ 50 := fun m h1 h2 M hM H' hP' =>
      ⟨h1, log_small h1 (by omega), hP', (one m h1 h2 M (by omega)).1, (one m h1 h2 0 (by omega)).2⟩
    have lnp : (numsV ps).length = ps.length := List.length_map _
    refine ⟨_, rfl, _, rfl, pu, pg, numsV ps, N, rfl, npg, SqL.of hpg, by omega, by omega, hP, by omega, fun x G3 hxm b3 P3 => ?_⟩
    obtain ⟨pp, mpp, rfl⟩ := List.mem_map.mp hxm
    have hp3 := b3 _ _ npg hpg
    refine ⟨_, rfl, (by show 1 ≤ sizeLine; omega), fun A1 hA1 => ?_⟩
    have s4 := Same.updf (o := .lst [V.int (pp : Int)]) hA1
    have nA1 : A1 ≠ pu := fresh_ne P3 hA1
    refine ⟨_, rfl, pg, rfl, ⟨_, SqL.of (s4 _ _ hp3)⟩, fun D hD => ?_⟩
    have P4 : Purse (upd (upd G3 A1 (.lst [.int (pp : Int)])) D (.lst [])) pu (N + 1) := (P3.same s4).same (Same.updf hD)
    refine lc_it (walk_list (K := K) (a := pg) (xs := numsV ps)) (fun j H5 => But pu (upd G3 A1 (.lst [.int (pp : Int)])) H5 ∧ (∃ M', Purse H5 pu M' ∧ M' ≤ N + 1 + j) ∧ ∃ ys : List Nat, H5 D = some (.lst (numsV ys)) ∧ ys.Sublist (ps.take j) ∧ pp ∉ ys)
      ⟨But.of (Same.updf hD), ⟨_, P4, Nat.le_refl _⟩, [], upd_same, List.nil_sublist _, fun h => nomatch h⟩ (fun j H5 _ hh => SqL.of (hh.1 _ _ npg (s4 _ _ hp3))) ?_ ?_
    · rintro j x H5 H6 hj ⟨b5, ⟨M', P5, lM'⟩, ys, hys, sy, ny⟩ ⟨rfl, hv⟩
      have lj : j < ps.length := by omega
      unfold numsV at hv
      rw [List.getElem?_map, List.getElem?_eq_getElem lj] at hv
      obtain rfl := Option.some.inj hv
      have tk : ps.take (j + 1) = ps.take j ++ [ps[j]] := by
        rw [List.take_succ, List.getElem?_eq_getElem lj]
        rfl
      have nD : D ≠ pu := fresh_ne (P3.same s4) hD
      have ly : ys.length ≤ 6 := by
        have := sy.length_le
        rw [List.length_take] at this
        omega
      have stay : ∀ {H7 : Hp} {M7 : Nat}, But pu H6 H7 → Purse H7 pu M7 → M7 ≤ N + 1 + (j + 1) → But pu (upd G3 A1 (.lst [.int (pp : Int)])) H7 ∧ (∃ M', Purse H7 pu M' ∧ M' ≤ N + 1 + (j + 1)) ∧ ∃ ys : List Nat, H7 D = some (.lst (numsV ys)) ∧ ys.Sublist (ps.take (j + 1)) ∧ pp ∉ ys := fun b7 P7 l7 =>
        ⟨b5.trans b7, ⟨_, P7, l7⟩, ys, b7 _ _ nD hys, by rw [tk]; exact sy.trans (List.sublist_append_left _ _), ny⟩
      refine ⟨rfl, _, rfl, _, rfl, ⟨rfl, _, rfl, ?_⟩⟩
      by_cases e : ps[j] = pp
      · rw [e]
        simp only [decide_true, Bool.not_true]
        exact iteF (iteF (stay (But.refl _ _) P5 (by omega)))
      · have e1 : (!decide (V.int (ps[j] : Int) = V.int (pp : Int))) = true := by
          simp
          omega
        rw [e1]
        obtain ⟨d1, d2, d3, d4, d5⟩ := dr 2 (by decide) (by decide) M' (by omega) _ P5
        refine iteT ⟨_, rfl, pu, 2, M', rfl, d1, d2, d3, d4, d5, fun r3 H7 r30 r31 b7 P7 => ?_⟩
        rw [mx 2 (by decide) (by decide)] at P7
        refine ⟨rfl, _, rfl, ?_⟩
        by_cases e3 : r3 = 0
        · subst e3
          refine iteT ⟨_, rfl, numsV ys, b7 _ _ nD hys, (by unfold numsV; rw [List.length_map]; omega), ?_⟩
          refine ⟨fun c o n e => ?_, ⟨_, P7.same' (upd_ne nD.symm), by omega⟩, ys ++ [ps[j]], ?_, ?_, ?_⟩
          · rw [upd_ne (ne_of_none e hD)]
            exact b7 _ _ n (b5 _ _ n e)
          · rw [upd_same, numsV_snoc]
          · rw [tk]
            exact sy.append (List.Sublist.refl _)
          · intro m
            rcases List.mem_append.mp m with m | m
            · exact ny m
            · exact e (List.mem_singleton.mp m).symm
        · rw [decide_eq_false (fun z => e3 (V.int.inj z))]
          exact iteF (stay b7 P7 (by omega))
    · rintro H5 ⟨b5, ⟨M', P5, lM'⟩, ys, hys, sy, ny⟩
      rw [lnp, List.take_length] at sy
      have ly := sy.length_le
      have nyd : ys.Nodup := (ap.sublist sy).imp fun h => Nat.ne_of_lt h
      have hA5 := b5 _ _ nA1 upd_same
      refine ⟨A1, D, [.int (pp : Int)], numsV ys, rfl, rfl, hA5, hys, (by unfold numsV; rw [List.length_map]; simp; omega), fun A2 hA2 => ?_⟩
      refine ⟨A2, (pp :: ys).map fun x : Nat => (x : Int), rfl, SqL.of (by rw [nums_ints, upd_same]; rfl), (by rw [List.length_map, List.length_cons]; omega), fun ns A3 hpm hso hA3 => ?_⟩
      obtain ⟨rr, rfl⟩ : ∃ rr : List Nat, ns = rr.map fun x : Nat => (x : Int) := by
        refine ⟨ns.map Int.toNat, ?_⟩
        rw [List.map_map]
        conv => lhs; rw [← List.map_id ns]
        refine List.map_congr_left fun x mx => ?_
        obtain ⟨y, _, rfl⟩ := List.mem_map.mp (hpm.mem_iff.mp mx)
        simp
      have prr : rr.Perm (pp :: ys) := by
        have := hpm.map Int.toNat
        rw [List.map_map, List.map_map] at this
        have id1 : (Int.toNat ∘ fun x : Nat => (x : Int)) = id := by
          funext x
          simp
        rw [id1, List.map_id, List.map_id] at this
        exact this
      have ndr : rr.Nodup := prr.nodup_iff.mpr (List.nodup_cons.mpr ⟨ny, nyd⟩)
      have asr : rr.Pairwise (· < ·) := by
        have h1 : rr.Pairwise (· ≤ ·) := (List.pairwise_map.mp hso).imp fun h => by omega
        exact (h1.and ndr).imp fun h => by omega
      rw [nums_ints]
      have lrr : rr.length = ys.length + 1 := by
        have := prr.length_eq
        simpa using this
      have s7 := Same.updf (o := .lst ([.int (pp : Int)] ++ numsV ys)) hA2
      have s6 := s7.trans (Same.updf (o := .lst (numsV rr)) hA3)
      have nA3 : A3 ≠ pu := fresh_ne (P5.same s7) hA3
      have hA3' : upd (upd H5 A2 (.lst ([.int (pp : Int)] ++ numsV ys))) A3 (.lst (numsV rr)) A3 = some (.lst (numsV rr)) := upd_same
      have P6 := P5.same s6
      generalize upd (upd H5 A2 (.lst ([.int (pp : Int)] ++ numsV ys))) A3 (.lst (numsV rr)) = H6 at *
      have bH6 : But pu H H6 := (b3.trans (But.of s4)).trans (b5.trans (But.of s6))
      have hL6 : LogAt H6 a ds := (hL.same (but_off bH6)).same (off_le _ _)
      obtain ⟨xs, ha, lx, hxs⟩ := id hL6
      have lds : 0 < ds.length := List.length_pos_iff.mpr dne
      have hlast : xs.getLast? = some (xs[xs.length - 1]'(by omega)) := by
        rw [List.getLast?_eq_getElem?]
        exact List.getElem?_eq_getElem _
      obtain ⟨t, rd, tw, et, ht, _, _⟩ := hxs (xs.length - 1) _ _ (List.getElem?_eq_getElem (by omega)) (List.getElem?_eq_getElem (show xs.length - 1 < ds.length by omega))
      rw [et] at hlast
      generalize hld : ds[xs.length - 1]'(by omega) = dl at *
      have mdl : dl ∈ ds := hld ▸ List.getElem_mem _
      have max : ∀ e ∈ ds, e.n ≤ dl.n := fun e he => by
        obtain ⟨i, li, rfl⟩ := List.getElem_of_mem he
        by_cases c : i = xs.length - 1
        · subst c
          rw [hld]
          exact Nat.le_refl _
        · have := List.pairwise_iff_getElem.mp hG.asc i (xs.length - 1) li (by omega) (by omega)
          rw [hld] at this
          omega
      obtain ⟨d1, d2, d3, d4, d5⟩ := dr 3 (by decide) (by decide) M' (by omega) _ P6
      refine ⟨_, rfl, _, rfl, a, xs, -1, .ref t, rfl, rfl, SqL.of ha, atI_last hlast, t, _, 0, _, rfl, rfl, SqT.of ht, rfl, _, _, rfl, rfl, _, rfl, pu, 3, M', rfl, d1, d2, d3, d4, d5, fun r3 H7 r30 r31 b7 P7 => ?_⟩
      rw [mx 3 (by decide) (by decide)] at P7
      obtain ⟨r3, rfl⟩ : ∃ q : Nat, r3 = (q : Int) := ⟨r3.toNat, by omega⟩
      refine ⟨_, _, rfl, rfl, _, rfl, _, rfl, (by show 1 ≤ sizeLine; omega), fun W hW => ⟨(by show 4 ≤ sizeLine; omega), fun T hT => ?_⟩⟩
      have sW := Same.updf (o := .tup [V.str "mix"]) hW
      have hWW : upd H7 W (.tup [V.str "mix"]) W = some (.tup [V.str "mix"]) := upd_same
      have PW := P7.same sW
      have nW : W ≠ pu := fresh_ne P7 hW
      generalize upd H7 W (.tup [V.str "mix"]) = H8 at *
      have eN : ((dl.n : Int) + 1 + (r3 : Int)) = ((dl.n + 1 + r3 : Nat) : Int) := by omega
      show Q (.ref T) (upd H8 T (.tup [.int ((dl.n : Int) + 1 + (r3 : Int)), .int (pp : Int), .ref A3, .ref W]))
      rw [eN]
      have nT : T ≠ pu := fresh_ne PW hT
      have sT := Same.updf (o := .tup [.int ((dl.n + 1 + r3 : Nat) : Int), .int (pp : Int), .ref A3, .ref W]) hT
      have d100 := n100 dl mdl
      refine k (.ref T) ⟨dl.n + 1 + r3, pp, rr, [.str "mix"]⟩ _ (bH6.trans (b7.trans ((But.of sW).trans (But.of sT)))) ((PW.same sT).mono (by omega)) ⟨T, A3, W, rfl, ?_, ?_, ?_⟩ ⟨by show 1 ≤ dl.n + 1 + r3; omega, asr, prr.mem_iff.mpr List.mem_cons_self, by show rr.length ≤ 20; omega, show okWs [PyData.str "mix"] = true by decide +kernel, show szWs [PyData.str "mix"] ≤ 100 by decide +kernel⟩ (fun e he => ?_) (fun y hy => ?_) ?_
      · rw [off_at nT]
        exact upd_same
      · rw [off_at nA3]
        exact sT _ _ (sW _ _ (b7 _ _ nA3 hA3'))
      · refine Tr.tup (by rw [off_at nW]; exact sT _ _ hWW) rfl (show [PyData.str "mix"].length ≤ 1000 by decide) fun i u e h1 h2 => ?_
        match i, h1, h2 with
        | 0, h1, h2 =>
          cases h1
          cases h2
          exact .flat (.str _)
      · have := max e he
        show e.n < dl.n + 1 + r3
        omega
      · rcases List.mem_cons.mp (prr.mem_iff.mp hy) with rfl | hy
        · exact mpp
        · exact sy.mem hy
      · show dl.n + 1 + r3 ≤ 110
        omega
end
end K27
set_option Elab.async false
set_option linter.all false
set_option maxRecDepth 100000
set_option maxHeartbeats 2000000
namespace K27
open PySem PySem.Spec PyProof.Rows L2 KB LiI StX
def spClosing : Sp := fun vs H Q _ => ∃ (z : V) (a b : Addr) (x : V) (ds : List Dd) (m : Nat → Nat) (d : Dd), vs = [z, .ref a, .ref b, x] ∧ LogAt H a ds ∧ Lg (ds ++ [d]) ∧ Bd (ds ++ [d]) ∧ ds.length ≤ 10 ∧ (pgs ds).length ≤ 6 ∧ MkAt H b (pgs ds) m ∧ Mk ds m ∧ Rt ds m ∧ rg ds m = [] ∧ DeedAt H x d ∧
  ∀ H', Same H H' → Q (.bl true) H'
theorem norm {a b : TS} {D : Ends} {σ σ' : L2.St} {G : Hp} (e : σ = σ') (h : tSeq a b D σ' G) : tSeq a b D σ G := e ▸ h
theorem ite_tail {c : Bool} {A B X : Prop} (ha : X → A) (hb : X → B) (x : X) : if c = true then A else B := by
  split
  · exact ha x
  · exact hb x
theorem itePos {c : Bool} {A B : Prop} (h : c = true) (a : A) : if c = true then A else B := (if_pos h).symm ▸ a
theorem iteNeg {c : Bool} {A B : Prop} (h : ¬ c = true) (b : B) : if c = true then A else B := (if_neg h).symm ▸ b
theorem mergeS {J R : Hp → Addr → Prop} {goal : Prop} (a : (∀ G q, J G q → R G q) → goal) (b : ∀ G q, J G q → R G q) : goal := a b
theorem mergeQ {J R : Hp → L2.St → Prop} {goal : Prop} (a : (∀ G q, J G q → R G q) → goal) (b : ∀ G q, J G q → R G q) : goal := a b
theorem LogAt.more {G : Hp} {M : Addr} {xs : List V} {x : V} {ds : List Dd} {d : Dd} (hM : G M = some (.lst (xs ++ [x]))) (lx : xs.length = ds.length) (hxs : ∀ (i : Nat) (y : V) (e : Dd), xs[i]? = some y → ds[i]? = some e → DeedAt G y e) (hx : DeedAt G x d) : LogAt G M (ds ++ [d]) := by
  refine ⟨xs ++ [x], hM, by simp [lx], fun i y e h1 h2 => ?_⟩
  by_cases li : i < xs.length
  · rw [List.getElem?_append_left li] at h1
    rw [List.getElem?_append_left (by omega)] at h2
    exact hxs i y e h1 h2
  · rw [List.getElem?_append_right (by omega)] at h1 h2
    have z : i - xs.length = 0 := by
      have := (List.getElem?_eq_some_iff.mp h1).1
      simp at this
      omega
    rw [z] at h1
    rw [show i - ds.length = 0 by omega] at h2
    obtain rfl := Option.some.inj h1
    obtain rfl := Option.some.inj h2
    exact hx
theorem stuck_args {σ : L2.St} {G : Hp} {a D : Addr} {x : V} {ds : List Dd} {m' : Nat → Nat} {d : Dd} {i : Nat} {Q' : VK} (e1 : σ[1]? = some (some (.ref a))) (e3 : σ[3]? = some (some x)) (ei : σ[i]? = some (some (.ref D))) (hL : LogAt G a ds) (hx : DeedAt G x d) (hG : Lg (ds ++ [d])) (bd : Bd (ds ++ [d])) (hD : MkAt G D (pgs ds) m') (mk : Mk ds m') (rt : Rt ds m')
    (k : ∀ G', Same G G' → Q' (.bl (!(rg (ds ++ [d]) (mX (pgs ds) m')).isEmpty)) G') : tCall spStuck [] E0 (tCons (tOp rCat (tVar 1) (tLst (tCons (tVar 3) tNil))) (tCons (tCall spWith [] E0 (tCons (tVar i) (tCons (tVar 3) tNil))) tNil)) σ G Q' := by
  have sl : (3000 : Nat) ≤ sizeLine := by decide
  obtain ⟨xs, ha, lx, hxs⟩ := id hL
  have l60 := hG.len
  rw [List.length_append, List.length_singleton] at l60
  have okd := hG.ok d (List.mem_append_right _ List.mem_cons_self)
  have rnd : d.r.Nodup := okd.asc.imp fun h => Nat.ne_of_lt h
  have pl := (lg_init hG).pl
  refine ⟨_, e1, _, e3, (by show 1 ≤ sizeLine; omega), fun E hE => ?_⟩
  have s1 := Same.updf (o := .lst [x]) hE
  refine ⟨a, E, xs, [x], rfl, rfl, s1 _ _ ha, upd_same, (by rw [List.length_singleton]; omega), fun M hM => ?_⟩
  have s2 := Same.updf (o := .lst (xs ++ [x])) hM
  have s12 := s1.trans s2
  have hLM := LogAt.more (G := upd (upd G E (.lst [x])) M (.lst (xs ++ [x]))) upd_same lx (fun i y e h1 h2 => (hxs i y e h1 h2).same s12) (hx.same s12)
  generalize upd (upd G E (.lst [x])) M (.lst (xs ++ [x])) = G2 at *
  refine ⟨_, ei, _, e3, D, x, pgs ds, m', d, rfl, s12 _ _ hD, hx.same s12, rnd, okd.len, by omega, fun D' G3 s3 nD' hD' => ?_⟩
  exact ⟨M, D', ds ++ [d], kwL (pgs ds) d.r, mX (pgs ds) m', rfl, hLM.same s3, hG, bd, hD', kw_perm (List.Perm.refl _) rnd, rt_more hG (List.Perm.refl _) mk rt, fun G4 s4 => k G4 (s12.trans (s3.trans s4))⟩
theorem paired_monoM {α β : Type} {F G : α → β → Prop} : ∀ {xs : List α} {ys : List β}, (∀ x ∈ xs, ∀ y, F x y → G x y) → Paired F xs ys → Paired G xs ys
  | _, _, _, .nil => .nil
  | _, _, h, .cons a r => .cons (h _ List.mem_cons_self _ a) (paired_monoM (fun x hx => h x (List.mem_cons_of_mem _ hx)) r)
def grsD (gs : List (List Nat)) : PyData := .list (gs.map fun g => .list (numsD g))
theorem grs_td {H0 F : Hp} {A : Addr} {gs : List (List Nat)} {ys : List V} (h : F A = some (.lst ys)) (p : Paired (GrAt H0 F) gs ys) (l : gs.length ≤ 40) (b : ∀ g ∈ gs, g.length ≤ 40) : TD F 2 (.ref A) (grsD gs) :=
  td_list h (paired_monoM (fun g hg y ⟨c, e, _, hc⟩ => by
    rw [e]
    exact nums_td hc (by have := b g hg; omega)) p) (by omega)
theorem lay_glen (A : Nat → List Nat) : ∀ (k : Nat) (l : List Nat), (layF A k l).1.length ≤ l.length ∧ (∀ g ∈ (layF A k l).1, g.length ≤ l.length) ∧ ∀ p, p ∈ l ↔ p ∈ (layF A k l).1.flatten ∨ p ∈ (layF A k l).2
  | 0, l => ⟨Nat.zero_le _, (fun g h => nomatch h), fun p => ⟨.inr, fun h => h.elim (fun h => nomatch h) id⟩⟩
  | k + 1, l => by
    rw [lay_succ]
    by_cases e : frF A l = []
    · rw [if_pos e]
      exact ⟨Nat.zero_le _, (fun g h => nomatch h), fun p => ⟨.inr, fun h => h.elim (fun h => nomatch h) id⟩⟩
    · rw [if_neg e]
      obtain ⟨h1, h2, h3⟩ := lay_glen A k (rsF A l)
      have h4 := fr_rs A l
      have h5 := List.length_pos_iff.mpr e
      refine ⟨by rw [List.length_cons]; omega, fun g hg => ?_, fun p => ?_⟩
      · rcases List.mem_cons.mp hg with rfl | hg
        · omega
        · have := h2 g hg
          omega
      · rw [List.flatten_cons, List.mem_append, or_assoc, ← h3 p]
        constructor
        · intro hp
          by_cases c : p ∈ frF A l
          · exact .inl c
          · refine .inr ?_
            rw [← rs_next]
            exact List.mem_filter.mpr ⟨hp, by simpa using c⟩
        · rintro (h | h)
          · exact (List.mem_filter.mp h).1
          · exact (List.mem_filter.mp h).1
/-- what is written of a lot that waits for its own alone -/
theorem rt_closed {ds : List Dd} (hG : Lg ds) {m : Nat → Nat} {C wl : List Nat} (c : Cs ds m C) (rt : Rt ds m) (e : ∀ p, p ∈ wl ↔ p ∈ C) : Rt ds (wrtM ds m wl) := by
  refine rt_iff.mpr fun d hd h p hp => ?_
  unfold wrtM at h ⊢
  by_cases c1 : d.p ∈ wl
  · rw [if_pos c1] at h
    have := nw_max hG hd
    omega
  · rw [if_neg c1] at h
    have h1 := rt_iff.mp rt d hd h p hp
    by_cases c2 : p ∈ wl
    · rw [if_pos c2]
      refine Classical.byContradiction fun n => c1 ((e _).mpr (c.cl p ((e p).mp c2) d.p ⟨d, hd, rfl, h, hp, fun z => c1 (z ▸ c2), h1, by omega⟩))
    · rw [if_neg c2]
      exact h1
open Classical in
noncomputable def rcB (ds : List Dd) (m : Nat → Nat) (y x : Nat) : Bool := decide (Rc (W ds m) x y)
open Classical in
theorem rcB_iff {ds : List Dd} {m : Nat → Nat} {y x : Nat} : rcB ds m y x = true ↔ Rc (W ds m) x y := by
  unfold rcB
  rw [decide_eq_true_eq]
/-- the makers of a page -/
def mkB (m : Nat → Nat) (P : Nat) (e : Dd) : Bool := decide (e.p ≠ P ∧ P ∈ e.r ∧ m P < e.n ∧ m e.p < e.n)
theorem sel_dd (c : Dd → Bool) (l : List Dd) : ((List.range l.length).filterMap fun i => (l[i]?).bind fun e => if c e = true then some (V.int (e.p : Int)) else none) = numsV ((l.filter c).map (·.p)) := by
  induction l with
  | nil => rfl
  | cons x l ih =>
    rw [List.length_cons, List.range_succ_eq_map, List.filterMap_cons, List.filterMap_map, List.filter_cons]
    have e : ((fun i => ((x :: l)[i]?).bind fun e => if c e = true then some (V.int (e.p : Int)) else none) ∘ Nat.succ) = fun i => (l[i]?).bind fun e => if c e = true then some (V.int (e.p : Int)) else none := rfl
    rw [e, ih]
    by_cases h : c x = true
    · simp [h, numsV]
    · simp [h, numsV]
theorem mX_rev (ds : List Dd) (m : Nat → Nat) : mX (pgs ds).reverse m = mX (pgs ds) m := by
  funext p
  unfold mX
  simp
section
variable {P : Program} {w : World} {K : PySem.W.Frag} {mg : Str → Option Value} {base : Heap}
abbrev s_closing_right : Stmt := top 73
abbrev N_closing_right : List Str := ["_law_purse_here", "_law_log_here", "_law_marks_here", "_law_deed", "_law_handed", "_law_lent", "_law_last", "_law_due", "_law_told", "_law_ahead", "_law_page", "_law_newest", "_law_makers", "_law_by_path", "_law_all_ahead", "_law_group", "_law_some", "_law_here", "_law_number", "_law_other", "_law_reads", "_law_words_here", "_law_late"]
theorem sc_closing_right : FnScope N_closing_right ["_law_purse_here", "_law_log_here", "_law_marks_here", "_law_deed"] (defScope s_closing_right) := ⟨rfl, rfl, rfl, by decide +kernel, rfl, by decide +kernel, by decide +kernel⟩
theorem ok_closing_right {f : Addr} {fd : FuncData} (F : FnP K "_law_closing_right" s_closing_right f fd) (Z : FreeS mg)
    {f_is_stuck : Addr} {d_is_stuck : FuncData} (g_is_stuck : mg "_law_is_stuck" = some (.ref f_is_stuck)) (F_is_stuck : FnP K "_law_is_stuck" s_is_stuck f_is_stuck d_is_stuck) (G_is_stuck : FnOk P w K mg base CX0 7 f_is_stuck d_is_stuck ["_law_log_here", "_law_marks_here"] spStuck)
    {f_same : Addr} {d_same : FuncData} (g_same : mg "_law_same" = some (.ref f_same)) (F_same : FnP K "_law_same" s_same f_same d_same) (GA_same : ∀ n : Nat, FnOk P w K mg base CX0 (n + 1) f_same d_same ["_law_thing"] (spSame n))
    {f_with : Addr} {d_with : FuncData} (g_with : mg "_law_with" = some (.ref f_with)) (F_with : FnP K "_law_with" s_with f_with d_with) (G_with : FnOk P w K mg base CX0 2 f_with d_with ["_law_marks_here", "_law_deed"] spWith)
    {f_closes_ring : Addr} {d_closes_ring : FuncData} (g_closes_ring : mg "closes_ring" = some (.ref f_closes_ring)) (F_closes_ring : FnP K "closes_ring" s_closes_ring f_closes_ring d_closes_ring) (G_closes_ring : FnOk P w K mg base CX0 12 f_closes_ring d_closes_ring ["deeds", "stamps", "deed"] spCloses)
    {f_ahead_of : Addr} {d_ahead_of : FuncData} (g_ahead_of : mg "ahead_of" = some (.ref f_ahead_of)) (F_ahead_of : FnP K "ahead_of" s_ahead_of f_ahead_of d_ahead_of) (G_ahead_of : FnOk P w K mg base CX0 12 f_ahead_of d_ahead_of ["deeds", "stamps", "deed"] spAhead)
    {f_ahead_due : Addr} {d_ahead_due : FuncData} (g_ahead_due : mg "_law_ahead_due" = some (.ref f_ahead_due)) (F_ahead_due : FnP K "_law_ahead_due" s_ahead_due f_ahead_due d_ahead_due) (G_ahead_due : FnOk P w K mg base CX0 7 f_ahead_due d_ahead_due ["_law_log_here", "_law_marks_here", "_law_deed"] spAheadD)
    {f_exact : Addr} {d_exact : FuncData} (g_exact : mg "_law_exact" = some (.ref f_exact)) (F_exact : FnP K "_law_exact" s_exact f_exact d_exact) (GA_exact : ∀ n : Nat, FnOk P w K mg base CX0 (n + 1) f_exact d_exact ["_law_mine", "_law_theirs"] (spExactD n))
    {f_marks : Addr} {d_marks : FuncData} (g_marks : mg "_law_marks" = some (.ref f_marks)) (F_marks : FnP K "_law_marks" s_marks f_marks d_marks) (G_marks : FnOk P w K mg base CX0 3 f_marks d_marks ["_law_log_here"] spMarks)
    {f_lists : Addr} {d_lists : FuncData} (g_lists : mg "_law_lists" = some (.ref f_lists)) (F_lists : FnP K "_law_lists" s_lists f_lists d_lists) (G_lists : FnOk P w K mg base CX0 1 f_lists d_lists ["_law_things"] spLists)
    {f_written : Addr} {d_written : FuncData} (g_written : mg "_law_written" = some (.ref f_written)) (F_written : FnP K "_law_written" s_written f_written d_written) (G_written : FnOk P w K mg base CX0 4 f_written d_written ["_law_log_here", "_law_marks_here", "_law_some"] spWritten)
    {f_up : Addr} {d_up : FuncData} (g_up : mg "_law_up" = some (.ref f_up)) (F_up : FnP K "_law_up" s_up f_up d_up) (G_up : FnOk P w K mg base CX0 6 f_up d_up ["_law_log_here", "_law_marks_here", "_law_page"] spUp)
    {f_too_new : Addr} {d_too_new : FuncData} (g_too_new : mg "_law_too_new" = some (.ref f_too_new)) (F_too_new : FnP K "_law_too_new" s_too_new f_too_new d_too_new) (G_too_new : FnOk P w K mg base CX0 1 f_too_new d_too_new ["_law_log_here", "_law_marks_here"] spTooNew) :
    FnOk P w K mg base CX0 13 f fd ["_law_purse_here", "_law_log_here", "_law_marks_here", "_law_deed"] spClosing := by
  have b_is_stuck : Binds K d_is_stuck ["_law_log_here", "_law_marks_here"] [] := F_is_stuck.bindsN fun _ _ _ _ _ _ us hl => match us, hl with | [_, _], _ => rfl
  have b_same : Binds K d_same ["_law_thing"] [] := F_same.bindsN fun _ _ _ _ _ _ us hl => match us, hl with | [_], _ => rfl
  have b_with : Binds K d_with ["_law_marks_here", "_law_deed"] [] := F_with.bindsN fun _ _ _ _ _ _ us hl => match us, hl with | [_, _], _ => rfl
  have b_closes_ring : Binds K d_closes_ring ["deeds", "stamps", "deed"] [] := F_closes_ring.bindsN fun _ _ _ _ _ _ us hl => match us, hl with | [_, _, _], _ => rfl
  have b_ahead_of : Binds K d_ahead_of ["deeds", "stamps", "deed"] [] := F_ahead_of.bindsN fun _ _ _ _ _ _ us hl => match us, hl with | [_, _, _], _ => rfl
  have b_ahead_due : Binds K d_ahead_due ["_law_log_here", "_law_marks_here", "_law_deed"] [] := F_ahead_due.bindsN fun _ _ _ _ _ _ us hl => match us, hl with | [_, _, _], _ => rfl
  have b_exact : Binds K d_exact ["_law_mine", "_law_theirs"] [] := F_exact.bindsN fun _ _ _ _ _ _ us hl => match us, hl with | [_, _], _ => rfl
  have b_marks : Binds K d_marks ["_law_log_here"] [] := F_marks.bindsN fun _ _ _ _ _ _ us hl => match us, hl with | [_], _ => rfl
  have b_lists : Binds K d_lists ["_law_things"] [] := F_lists.bindsN fun _ _ _ _ _ _ us hl => match us, hl with | [_], _ => rfl
  have b_written : Binds K d_written ["_law_log_here", "_law_marks_here", "_law_some"] [] := F_written.bindsN fun _ _ _ _ _ _ us hl => match us, hl with | [_, _, _], _ => rfl
  have b_up : Binds K d_up ["_law_log_here", "_law_marks_here", "_law_page"] [] := F_up.bindsN fun _ _ _ _ _ _ us hl => match us, hl with | [_, _, _], _ => rfl
  have b_too_new : Binds K d_too_new ["_law_log_here", "_law_marks_here"] [] := F_too_new.bindsN fun _ _ _ _ _ _ us hl => match us, hl with | [_, _], _ => rfl
  refine F.ok sc_closing_right (fun vs H Q E h => ?_) (fun cdv A outer s H vs Q E hr h => ?_)
  · obtain ⟨z, a, b, x, ds, m, d, rfl, _⟩ := h
    rfl
  · obtain ⟨z, a, b, x, ds, m, d, rfl, hL, hG, bd, l10, p6, hb, mk, rt, nr, hx, k⟩ := h
    have sl : (3000 : Nat) ≤ sizeLine := by decide
    have hu65 : _ + 65 < cLine := Nat.lt_of_le_of_lt (Nat.add_le_add_left (by decide : 65 ≤ 200) _) (Nat.lt_of_le_of_lt (Nat.add_le_add_right (Nat.le_add_right _ _) _) hr.un)
    have hu := Nat.lt_of_le_of_lt (Nat.add_le_add_left (by decide : 1 ≤ 65) _) hu65
    have hu0 := Nat.lt_of_succ_lt hu
    have nd := sc_closing_right.nd
    refine ⟨_, PSs.nox (pss_cons (ps_par3 (i := 4) (j := 5) (l := 6) rfl nd rfl rfl rfl (by decide) (by decide) (by decide) rfl rfl rfl (pa_cons (pe_call (GA_same 7) (hr.mono (by decide)) rfl g_same F_same.kp b_same .nil pass0 (pa_cons (pv 1) pa_nil)) (pa_cons (pe_callTy (call_dictPR rfl) (by rfl) Z.tdict (by decide +kernel) (pa_cons (pe_revL (pe_listItems rfl (pv 2) (by rfl) Z.tlist rfl)) (pa_nil))) (pa_cons (pe_call (GA_same 6) (hr.mono (by decide)) rfl g_same F_same.kp b_same .nil pass0 (pa_cons (pv 3) pa_nil)) (pa_nil)))) rfl)
      (pss_cons (ps_set (i := 7) nd rfl (Or.inl rfl) (pe_call G_is_stuck (hr.mono (by decide)) rfl g_is_stuck F_is_stuck.kp b_is_stuck .nil pass0 (pa_cons (pe_op op_cat (pv 1) (pe_lst (pa_cons (pv 3) (pa_nil)))) (pa_cons (pe_call G_with (hr.mono (by decide)) rfl g_with F_with.kp b_with .nil pass0 (pa_cons (pv 2) (pa_cons (pv 3) (pa_nil)))) (pa_nil)))))
      (pss_cons (ps_set (i := 8) nd rfl (Or.inl rfl) (pe_lst (pa_cons (pe_call G_closes_ring (hr.mono (by decide)) rfl g_closes_ring F_closes_ring.kp b_closes_ring .nil pass0 (pa_cons (pv 4) (pa_cons (pv 5) (pa_cons (pv 6) (pa_nil))))) (pa_cons (pe_call G_ahead_of (hr.mono (by decide)) rfl g_ahead_of F_ahead_of.kp b_ahead_of .nil pass0 (pa_cons (pv 4) (pa_cons (pv 5) (pa_cons (pv 6) (pa_nil))))) (pa_nil)))))
      (pss_cons (ps_set (i := 9) nd rfl (Or.inl rfl) (pe_ifExp (pt_truth (pv 7) (fun _ => rfl)) (pe_call G_ahead_due (hr.mono (by decide)) rfl g_ahead_due F_ahead_due.kp b_ahead_due .nil pass0 (pa_cons (pv 1) (pa_cons (pv 2) (pa_cons (pv 3) (pa_nil))))) (pe_lst (pa_nil))))
      (pss_cons (ps_if (pt_not (pt_val (pe_call (GA_exact 8) (hr.mono (by decide)) rfl g_exact F_exact.kp b_exact .nil pass0 (pa_cons (pe_lst (pa_cons (pv 8) (pa_cons (pv 4) (pa_cons (pe_cmpR (op_eq_dictA hu0) (pv 5) (pv 2) (nomark _)) (pa_cons (pv 6) (pa_nil)))))) (pa_cons (pe_lst (pa_cons (pe_lst (pa_cons (pv 7) (pa_cons (pv 9) (pa_nil)))) (pa_cons (pv 1) (pa_cons (pe_bl) (pa_cons (pv 3) (pa_nil)))))) (pa_nil)))))) (pss_one (ps_ret (pe_bl))) (pss_nil))
      (pss_cons (ps_asg (pe_tup (pa_cons (pe_ix ix_tup (pv 3) (pe_int) (fun _ _ => rfl)) (pa_cons (pe_call G_marks (hr.mono (by decide)) rfl g_marks F_marks.kp b_marks .nil pass0 (pa_cons (pv 1) (pa_nil))) (pa_nil)))) (pg_tup rfl (pgs_cons (pg_name (i := 10) nd rfl (Or.inr rfl)) (pgs_cons (pg_name (i := 11) nd rfl (Or.inl rfl)) (pgs_nil)))))
      (pss_cons (ps_setLc (i := 12) (own := [("_law_number", 18), ("_law_other", 19), ("_law_reads", 20), ("_law_words_here", 21)]) (g := gTup K 4 (gCons (gName 18) (gCons (gName 19) (gCons (gName 20) (gCons (gName 21) (gNil)))))) (tt := tAnd (tTest (tOp rNe (tVar 19) (tVar 10))) (tAnd (tTest (tOp (rIn K false) (tVar 10) (tVar 20))) (tAnd (tTest (tOp (rI0 fun i j => .bl (decide (j < i))) (tVar 18) (tDGet (tVar 2) (tVar 10)))) (tTest (tOp (rI0 fun i j => .bl (decide (i < j))) (tDGet (tVar 2) (tVar 19)) (tVar 18)))))) (te := tVar 19) (by rfl) nd rfl rfl rfl (pi_list (pv 1))
          (blkOk_by (own := [("_law_number", 18), ("_law_other", 19), ("_law_reads", 20), ("_law_words_here", 21)]) (N := N_closing_right) (sc := defScope s_closing_right) (by decide +kernel)) (fun _ _ _ _ _ => pg_tup rfl (pgs_cons (pg_name (i := 18) nd rfl (Or.inl rfl)) (pgs_cons (pg_name (i := 19) nd rfl (Or.inl rfl)) (pgs_cons (pg_name (i := 20) nd rfl (Or.inl rfl)) (pgs_cons (pg_name (i := 21) nd rfl (Or.inl rfl)) (pgs_nil)))))) (fun _ _ _ _ _ => pts_one (PW.pt (pw_and (pt_cmpR op_ne (pv 19) (pv 10) (nomark _)) (pw_and (pt_cmpR op_in_seq (pv 10) (pv 20) (by rfl)) (pw_and (pt_cmpR op_gt (pv 18) (pe_dget hu (pv 2) (pv 10) (fun _ _ => rfl)) (nomark _)) (pw_and1 (pt_cmpR op_lt (pe_dget hu (pv 2) (pv 19) (fun _ _ => rfl)) (pv 18) (nomark _))))))))
          (fun _ _ _ _ _ => pv 19))
      (pss_cons (ps_set (i := 13) nd rfl (Or.inl rfl) (pe_callB (cr_any rfl) (by rfl) Z.any (by decide +kernel) (pa_cons (pe_lc (own := [("_law_other", 19)]) (g := gName 19) (tt := tYes) (te := tOp (rIn K false) (tVar 10) (tCall spUp [] E0 (tCons (tVar 1) (tCons (tVar 2) (tCons (tVar 19) (tNil)))))) (by rfl) nd (pi_list (pv 12))
          (blkOk_by (own := [("_law_other", 19)]) (N := N_closing_right) (sc := defScope s_closing_right) (by decide +kernel)) (fun _ _ _ _ _ => pg_name (i := 19) nd rfl (Or.inl rfl)) (fun _ _ _ _ _ => pts_nil)
          (fun _ _ _ _ _ => pe_cmpR op_in_seq (pv 10) (pe_call G_up (hr.mono (by decide)) rfl g_up F_up.kp b_up .nil pass0 (pa_cons (pv 1) (pa_cons (pv 2) (pa_cons (pv 19) (pa_nil))))) (by rfl))) (pa_nil))))
      (pss_cons (ps_if (PW.pt (pw_and (pt_cmp (pc_din hu (pv 10) (pv 2))) (pw_and1 (pt_cmpR op_ne (pv 7) (pv 13) (nomark _))))) (pss_one (ps_ret (pe_bl))) (pss_nil))
      (pss_cons (ps_if (pt_truth (pv 7) (fun _ => rfl)) (pss_cons (ps_set (i := 14) nd rfl (Or.inl rfl) (pe_callTy call_dictDR (by rfl) Z.tdict (by decide +kernel) (pa_cons (pv 2) (pa_nil))))
      (pss_cons (ps_for PassesOwn.never rfl (pi_list (pv 9)) (pg_name (i := 15) nd rfl (Or.inl rfl))
        (pss_one (ps_set (i := 14) nd rfl (Or.inl rfl) (pe_call G_written (hr.mono (by decide)) rfl g_written F_written.kp b_written .nil pass0 (pa_cons (pv 1) (pa_cons (pv 14) (pa_cons (pv 15) (pa_nil))))))))
      (pss_cons (ps_if (PW.pt (pw_or (pt_val (pe_call G_is_stuck (hr.mono (by decide)) rfl g_is_stuck F_is_stuck.kp b_is_stuck .nil pass0 (pa_cons (pe_op op_cat (pv 1) (pe_lst (pa_cons (pv 3) (pa_nil)))) (pa_cons (pe_call G_with (hr.mono (by decide)) rfl g_with F_with.kp b_with .nil pass0 (pa_cons (pv 14) (pa_cons (pv 3) (pa_nil)))) (pa_nil))))) (pw_or1 (pt_cmpR (op_neE hu0) (pe_call G_too_new (hr.mono (by decide)) rfl g_too_new F_too_new.kp b_too_new .nil pass0 (pa_cons (pv 1) (pa_cons (pv 14) (pa_nil)))) (pe_lst (pa_nil)) (nomark _))))) (pss_one (ps_ret (pe_bl))) (pss_nil))
      (pss_one (ps_for PassesOwn.never rfl (pi_list (pe_call G_lists (hr.mono (by decide)) rfl g_lists F_lists.kp b_lists .nil pass0 (pa_cons (pe_lock (pe_lc (own := [("_law_late", 22)]) (g := gName 22) (tt := tTest (tOp rNe (tVar 22) (tVar 10))) (te := tVar 22) (by rfl) nd (pi_keys (pv 2))
          (blkOk_by (own := [("_law_late", 22)]) (N := N_closing_right) (sc := defScope s_closing_right) (by decide +kernel)) (fun _ _ _ _ _ => pg_name (i := 22) nd rfl (Or.inl rfl)) (fun _ _ _ _ _ => pts_one (pt_cmpR op_ne (pv 22) (pv 10) (nomark _)))
          (fun _ _ _ _ _ => pv 22))) (pa_nil)))) (pg_name (i := 16) nd rfl (Or.inl rfl))
        (pss_cons (ps_set (i := 17) nd rfl (Or.inl rfl) (pe_call G_written (hr.mono (by decide)) rfl g_written F_written.kp b_written .nil pass0 (pa_cons (pv 1) (pa_cons (pv 2) (pa_cons (pv 16) (pa_nil))))))
      (pss_one (ps_if (PW.pt (pw_and (pt_cmpR (op_eqE hu0) (pe_call G_too_new (hr.mono (by decide)) rfl g_too_new F_too_new.kp b_too_new .nil pass0 (pa_cons (pv 1) (pa_cons (pv 17) (pa_nil)))) (pe_lst (pa_nil)) (nomark _)) (pw_and1 (pt_not (pt_val (pe_call G_is_stuck (hr.mono (by decide)) rfl g_is_stuck F_is_stuck.kp b_is_stuck .nil pass0 (pa_cons (pe_op op_cat (pv 1) (pe_lst (pa_cons (pv 3) (pa_nil)))) (pa_cons (pe_call G_with (hr.mono (by decide)) rfl g_with F_with.kp b_with .nil pass0 (pa_cons (pv 17) (pa_cons (pv 3) (pa_nil)))) (pa_nil))))))))) (pss_one (ps_ret (pe_bl))) (pss_nil))))))))) (pss_nil))
      (pss_cons (ps_for PassesOwn.never rfl (pi_list (pe_ix ix_list (pv 8) (pe_int) (fun _ _ => rfl))) (pg_name (i := 15) nd rfl (Or.inl rfl))
        (pss_one (ps_expr (pe_bm PySem.F.plainAttrs_list PySem.F.slot_list_append PySem.F.type_list_append mt_append (pv 15) (pa_cons (pe_str) (pa_nil))))))
      (pss_cons (ps_expr (pe_bm PySem.F.plainAttrs_list PySem.F.slot_list_append PySem.F.type_list_append mt_append (pe_ix ix_list (pv 8) (pe_int) (fun _ _ => rfl)) (pa_cons (pe_str) (pa_nil))))
      (pss_one (ps_ret (pe_and (pe_call (GA_exact 8) (hr.mono (by decide)) rfl g_exact F_exact.kp b_exact .nil pass0 (pa_cons (pe_call G_ahead_of (hr.mono (by decide)) rfl g_ahead_of F_ahead_of.kp b_ahead_of .nil pass0 (pa_cons (pv 1) (pa_cons (pv 2) (pa_cons (pv 3) (pa_nil))))) (pa_cons (pv 9) (pa_nil)))) (pe_one (pe_cmpR (op_eq_dictA hu0) (pv 11) (pe_call G_marks (hr.mono (by decide)) rfl g_marks F_marks.kp b_marks .nil pass0 (pa_cons (pv 4) (pa_nil))) (nomark _)))))))))))))))))), ?_⟩
    have hG0 := lg_init hG
    have pR : (pgs ds).reverse.Perm (pgs ds) := List.reverse_perm _
    have l30 := hG0.pl
    have okd := hG.ok d (List.mem_append_right _ List.mem_cons_self)
    -- the copies
    refine ⟨_, rfl, .ref a, logD ds, rfl, hL.tr hG0, fun yh G1 s1 trh => ?_⟩
    obtain ⟨a', rfl, hL'⟩ := log_of_tr trh
    have hL1 : LogAt G1 a' ds := hL'.same (nw_le _ _)
    refine ⟨_, rfl, b, _, rfl, s1 _ _ hb, fun G2 pl ts s2 npl nts nin hpl pts => ⟨pl, _, rfl, SqL.of hpl, fun A3 hA3 => ?_⟩⟩
    have s3 := Same.updf (o := .lst (ts.map V.ref).reverse) hA3
    refine ⟨A3, ts.reverse, (mV (pgs ds) m).reverse, rfl, SqL.of (by rw [upd_same, List.map_reverse]), paired_mono (fun t q h => SqT.of (s3 _ _ h)) (paired_rev pts), fun ln hln => ?_⟩
    have erev : (mV (pgs ds) m).reverse = mV (pgs ds).reverse m := by
      unfold mV dV
      rw [List.map_reverse]
    rw [erev, merge_dV0 (pR.nodup_iff.mpr (pgs_nd ds))]
    have s4 := Same.updf (o := .dK (mV (pgs ds).reverse m)) hln
    have s24 := (show Same G1 G2 from s2).trans (s3.trans s4)
    have hS4 : Same H _ := s1.trans s24
    have hln4 : upd (upd G2 A3 (.lst (ts.map V.ref).reverse)) ln (.dK (mV (pgs ds).reverse m)) ln = some (.dK (mV (pgs ds).reverse m)) := upd_same
    have hL4 := hL1.same s24
    generalize upd (upd G2 A3 (.lst (ts.map V.ref).reverse)) ln (.dK (mV (pgs ds).reverse m)) = G4 at *
    refine ⟨_, rfl, x, deedD d, rfl, (hx.same hS4).tr okd.len, fun x' G5 s5 trx => ?_⟩
    have hx5 : DeedAt G5 x' d := (deed_of_tr trx).same (nw_le _ _)
    have hS5 := hS4.trans s5
    have hL5 := hL4.same s5
    have hln5 := s5 _ _ hln4
    refine ⟨_, _, _, rfl, ?_⟩
    refine stuck_args rfl rfl rfl (hL.same hS5) (hx.same hS5) hG bd (hS5 _ _ hb) mk rt fun G6 s6 => ?_
    have hS6 := hS5.trans s6
    have hL6 := hL5.same s6
    have hln6 := s6 _ _ hln5
    have hx6 := hx5.same s6
    refine ⟨_, rfl, _, rfl, _, rfl, a', ln, x', ds, (pgs ds).reverse, m, d, rfl, hL6, hG, hln6, pR, mk, rt, nr, hx6, fun G7 s7 => ?_⟩
    refine ⟨_, rfl, _, rfl, _, rfl, a', ln, x', ds, (pgs ds).reverse, m, d, rfl, hL6.same s7, hG, s7 _ _ hln6, pR, mk, rt, nr, hx6.same s7, fun A7 ys G8 s8 nA7 hA7 pA7 => ⟨(by show 2 ≤ sizeLine; omega), fun td htd => ?_⟩⟩
    have egs : ahG ds (pgs ds).reverse m d = ahG ds (pgs ds) m d := by
      unfold ahG
      rw [mX_rev]
    rw [egs] at pA7
    rw [mX_rev]
    have hBv : (!(rg (ds ++ [d]) (mX (pgs ds) m)).isEmpty) = true ↔ rg (ds ++ [d]) (mX (pgs ds) m) ≠ [] := by
      cases rg (ds ++ [d]) (mX (pgs ds) m) <;> simp
    obtain ⟨Bv, eBv⟩ : ∃ Bv, Bv = !(rg (ds ++ [d]) (mX (pgs ds) m)).isEmpty := ⟨_, rfl⟩
    rw [← eBv] at hBv ⊢
    have pk : (pgs ds).Perm (pgs ds) := List.Perm.refl _
    have hoff := ring_off hG (mX_in pk m) nr
    have hmk := ring_makers hG pk nr
    have hkept := fun so h1 h2 => ring_kept hG (m := m) (so := so) pk nr h1 h2
    have hwrit := fun wl h1 => ring_written hG (m := m) (wl := wl) pk nr h1
    have cs := cl_cs hG0 m d.p
    have lay2 := cl_whole hG0 nr cs
    have gl := lay_glen (wq ds m) (cl (wq ds m) (offL ds m) d.p).length (cl (wq ds m) (offL ds m) d.p)
    have c30 : (cl (wq ds m) (offL ds m) d.p).length ≤ 30 := Nat.le_trans (List.length_filter_le _ _) (Nat.le_trans (List.length_filter_le _ _) l30)
    have cself : d.p ∈ offL ds m → d.p ∈ cl (wq ds m) (offL ds m) d.p := fun h => cl_mem.mpr ⟨h, .refl _⟩
    have gsT : Bv = true → ahG ds (pgs ds) m d = upG ds m d.p := fun h => by
      unfold ahG
      rw [if_neg]
      intro z
      rw [eBv, z] at h
      cases h
    have gsF : ¬ Bv = true → ahG ds (pgs ds) m d = [] := fun h => by
      unfold ahG
      rw [if_pos]
      refine Classical.byContradiction fun z => h ?_
      rw [eBv]
      cases hz : (rg (ds ++ [d]) (mX (pgs ds) m)).isEmpty with
      | true => exact absurd hz z
      | false => rfl
    have gsl : (ahG ds (pgs ds) m d).length ≤ 40 ∧ ∀ g ∈ ahG ds (pgs ds) m d, g.length ≤ 40 := by
      by_cases h : Bv = true
      · rw [gsT h]
        refine ⟨?_, fun g hg => ?_⟩
        · show (layF (wq ds m) _ _).1.length ≤ 40
          omega
        · have := gl.2.1 g hg
          omega
      · rw [gsF h]
        exact ⟨Nat.zero_le _, fun g hg => nomatch hg⟩
    have gsC : Bv = true → ∀ p, p ∈ (ahG ds (pgs ds) m d).flatten ↔ p ∈ cl (wq ds m) (offL ds m) d.p := fun h p => by
      rw [gsT h]
      have := gl.2.2 p
      have l2 : (layF (wq ds m) (cl (wq ds m) (offL ds m) d.p).length (cl (wq ds m) (offL ds m) d.p)).2 = [] := lay2
      rw [l2] at this
      exact ⟨fun h => this.mpr (.inl h), fun h => (this.mp h).elim id fun h => nomatch h⟩
    clear gl lay2 egs
    generalize hgs : ahG ds (pgs ds) m d = gs at *
    have s9 := Same.updf (o := .lst [V.bl Bv, V.ref A7]) htd
    have htd9 : upd G8 td (.lst [V.bl Bv, V.ref A7]) td = some (.lst [V.bl Bv, V.ref A7]) := upd_same
    generalize upd G8 td (.lst [V.bl Bv, V.ref A7]) = G9 at *
    have hA79 := s9 _ _ hA7
    have pA9 : Paired (GrAt G7 G9) gs ys := paired_mono (fun g y h => h.same s9) pA7
    have s79 := s8.trans s9
    have hS7 := hS6.trans s7
    have hS9 := hS7.trans s79
    have hL7 := hL6.same s7
    have hx7 := hx6.same s7
    have hln7 := s7 _ _ hln6
    refine ⟨_, rfl, _, rfl, ?_⟩
    apply mergeS (J := fun G q => Same G9 G ∧ G9 q = none ∧ ∃ ys8, G q = some (.lst ys8) ∧ Paired (GrAt G9 G) gs ys8)
    · intro rest
      by_cases hB : Bv = true
      · exact itePos hB ⟨_, rfl, _, rfl, _, rfl, a, b, x, ds, m, d, rfl, hL.same hS9, hG0, fun e he => bd e (List.mem_append_left _ he), hS9 _ _ hb, rt, hx.same hS9, hoff (hBv.mp hB), fun A ys' G' s' n' h' p' => rest G' A ⟨s', n', ys', h', by rw [gsT hB]; exact p'⟩⟩
      · exact iteNeg hB ⟨Nat.zero_le _, fun A hA => rest _ A ⟨Same.updf hA, hA, [], upd_same, by rw [gsF hB]; exact .nil⟩⟩
    rintro G10 q8 ⟨s10, n8, ys8, h8, p8⟩
    have hS10 := hS9.trans s10
    have s710 := s79.trans s10
    obtain ⟨t, rd, tw, rfl, ht, _, _⟩ := id hx
    have dat : ∀ (F : Hp) (A A5 A6 A8 : Addr) (y5 y6 : List V), Same G10 F → F A5 = some (.lst [.ref td, .ref a', .bl true, x']) → F A6 = some (.lst [.bl Bv, .ref q8]) → F A8 = some (.lst [.ref A6, .ref a, .bl true, .ref t]) →
        TD F 8 (.ref A5) (.list [.list [.bool Bv, grsD gs], logD ds, .bool true, deedD d]) ∧ TD F 8 (.ref A8) (.list [.list [.bool Bv, grsD gs], logD ds, .bool true, deedD d]) := fun F A A5 A6 A8 y5 y6 sF h5 h6 h8' => by
      have g1 : TD F 2 (.ref A7) (grsD gs) := grs_td (sF _ _ (s10 _ _ hA79)) (paired_mono (fun g y h => h.same (s10.trans sF)) pA9) gsl.1 gsl.2
      have g2 : TD F 2 (.ref q8) (grsD gs) := grs_td (sF _ _ h8) (paired_mono (fun g y h => h.same sF) p8) gsl.1 gsl.2
      refine ⟨TD.lst h5 rfl (by simp) (td_cons (TD.lst (sF _ _ (s10 _ _ htd9)) rfl (by simp) (td_cons (TD.flat (.bl _)) (td_cons (td_le g1 4) td_nil))) (td_cons (TD.of ((hL7.same (s710.trans sF)).tr hG0)) (td_cons (TD.flat (.bl _)) (td_cons (td_le (TD.of ((hx7.same (s710.trans sF)).tr okd.len)) 1) td_nil)))), ?_⟩
      exact TD.lst h8' rfl (by simp) (td_cons (TD.lst h6 rfl (by simp) (td_cons (TD.flat (.bl _)) (td_cons (td_le g2 4) td_nil))) (td_cons (TD.of ((hL.same (hS10.trans sF)).tr hG0)) (td_cons (TD.flat (.bl _)) (td_cons (td_le (TD.of ((hx.same (hS10.trans sF)).tr okd.len)) 1) td_nil))))
    refine norm (σ' := [some z, some (.ref a), some (.ref b), some (.ref t), some (.ref a'), some (.ref ln), some x', some (.bl Bv), some (.ref td), some (.ref q8), none, none, none, none, none, none, none, none, none, none, none, none, none]) rfl ?_
    have lrev : (mV (pgs ds).reverse m).length = (mV (pgs ds) m).length := by
      unfold mV
      rw [dV_len, dV_len, List.length_reverse]
    have vrev : ∀ p ∈ mV (pgs ds).reverse m, valV (mV (pgs ds) m) p.1 = some p.2 ∧ flatB p.2 = true := fun p hp => by
      obtain ⟨q, hq, rfl⟩ := List.mem_map.mp hp
      exact ⟨mV_val (List.mem_reverse.mp hq), rfl⟩
    refine ⟨_, rfl, _, rfl, _, rfl, _, rfl, ln, b, _, _, rfl, rfl, (s710 _ _ hln7), hS10 _ _ hb, lrev, vrev, _, rfl, (by show 4 ≤ sizeLine; omega), fun A5 hA5 => ?_⟩
    have s11 := Same.updf (o := .lst [V.ref td, V.ref a', V.bl true, x']) hA5
    refine ⟨_, rfl, _, rfl, (by show 2 ≤ sizeLine; omega), fun A6 hA6 => ?_⟩
    have s12 := Same.updf (o := .lst [V.bl Bv, V.ref q8]) hA6
    refine ⟨_, rfl, _, rfl, (by show 4 ≤ sizeLine; omega), fun A8 hA8 => ?_⟩
    have s13 := Same.updf (o := .lst [V.ref A6, V.ref a, V.bl true, V.ref t]) hA8
    obtain ⟨e1, e2⟩ := dat _ A5 A5 A6 A8 [] [] (s11.trans (s12.trans s13)) ((s12.trans s13) _ _ upd_same) (s13 _ _ upd_same) upd_same
    refine ⟨.ref A5, .ref A8, _, rfl, e1, e2, fun G11 s14 => ⟨true, rfl, iteF ?_⟩⟩
    clear e1 e2 dat
    have s1011 := (s11.trans (s12.trans s13)).trans s14
    clear s11 s12 s13 s14 hA5 hA6 hA8
    have hS11 := hS10.trans s1011
    -- the page, the newest marks
    refine ⟨_, rfl, t, _, 1, _, rfl, rfl, SqT.of (hS11 _ _ ht), rfl, _, rfl, a, ds, rfl, hL.same hS11, hG0, fun nq G12 s12 nnq hnq => ⟨(by show 2 ≤ sizeLine; omega), fun T0 nT0 => ?_⟩⟩
    have sT0 := Same.updf (o := .tup [V.int (d.p : Int), V.ref nq]) nT0
    refine ⟨T0, [_, _], rfl, .inl (.inl upd_same), rfl, _, [_], rfl, _, [], rfl, rfl, ?_⟩
    have s1113 := s12.trans sT0
    have hnq13 := sT0 _ _ hnq
    generalize upd G12 T0 (.tup [V.int (d.p : Int), V.ref nq]) = G13 at *
    refine norm (σ' := [some z, some (.ref a), some (.ref b), some (.ref t), some (.ref a'), some (.ref ln), some x', some (.bl Bv), some (.ref td), some (.ref q8), some (.int (d.p : Int)), some (.ref nq), none, none, none, none, none, none, none, none, none, none, none]) rfl ?_
    have hS13 := hS11.trans s1113
    have nnq10 : G10 nq = none := none_back s1011 nnq
    have s1013 := s1011.trans s1113
    -- makers
    obtain ⟨xs, ha, lx, hxs⟩ := id hL
    have l60 := hG0.len
    refine ⟨_, rfl, _, rfl, ⟨_, SqL.of (hS13 _ _ ha)⟩, fun D1 nD1 => ?_⟩
    refine lc_sel (n := xs.length) (walk_list (K := K) (a := a) (xs := xs)) (fun i => (ds[i]?).bind fun e => if mkB m d.p e = true then some (V.int (e.p : Int)) else none) (by omega) nD1 (fun G s => SqL.of (s _ _ (hS13 _ _ ha))) ?_ ?_
    · rintro i y G14 G15 Qy Qn hi sg ⟨rfl, hv⟩ ky_ kn
      have li : i < ds.length := by omega
      have md := List.getElem_mem li
      have sHG := hS13.trans sg
      obtain ⟨t2, rd2, tw2, rfl, ht2, hr2, _⟩ := (hxs i y _ hv (List.getElem?_eq_getElem li)).same sHG
      rw [List.getElem?_eq_getElem li, Option.bind_some] at ky_ kn
      have dgm : ∀ {p : Nat}, p ∈ pgs ds → DGet G15 b (.int (p : Int)) (some (.int (m p : Int))) := fun {p} hp => by
        have := DGet.k (k := ky p) (sHG _ _ hb)
        rw [mV_val hp] at this
        exact this
      refine ⟨t2, [_, _, _, _], rfl, .inl (.inl ht2), rfl, _, [_, _, _], rfl, _, [_, _], rfl, _, [_], rfl, _, [], rfl, rfl, ?_⟩
      refine ⟨rfl, _, rfl, _, rfl, rfl, _, rfl, ?_⟩
      by_cases c1 : ds[i].p = d.p
      · have z : mkB m d.p ds[i] = false := decide_eq_false fun h => h.1 c1
        rw [z] at kn
        rw [show (!decide (V.int (ds[i].p : Int) = V.int (d.p : Int))) = false by rw [c1]; simp]
        exact iteF (iteF (kn _ (Same.refl _) rfl))
      · rw [show (!decide (V.int (ds[i].p : Int) = V.int (d.p : Int))) = true by simp; omega]
        refine iteT ⟨_, rfl, _, rfl, rd2, _, rfl, .inl (SqL.of hr2), rfl, flat_nums2 _, _, rfl, ?_⟩
        rw [inV_nums2]
        by_cases c2 : d.p ∈ ds[i].r
        · rw [decide_eq_true c2]
          have mp : d.p ∈ pgs ds := pgs_mem.mpr ⟨ds[i], md, c2⟩
          refine iteT ⟨_, rfl, _, rfl, _, rfl, b, _, rfl, dgm mp, _, _, rfl, rfl, _, rfl, ?_⟩
          by_cases c3 : m d.p < ds[i].n
          · rw [decide_eq_true (show (m d.p : Int) < (ds[i].n : Int) by omega)]
            refine iteT ⟨_, rfl, _, rfl, b, _, rfl, dgm (pgs_mem.mpr ⟨ds[i], md, (hG0.ok _ md).own⟩), _, rfl, _, _, rfl, rfl, _, rfl, ?_⟩
            by_cases c4 : m ds[i].p < ds[i].n
            · rw [decide_eq_true (show (m ds[i].p : Int) < (ds[i].n : Int) by omega)]
              have z : mkB m d.p ds[i] = true := decide_eq_true ⟨c1, c2, c3, c4⟩
              rw [z] at ky_
              exact iteT ⟨_, rfl, ky_ _ _ (Same.refl _) rfl⟩
            · rw [decide_eq_false (show ¬ (m ds[i].p : Int) < (ds[i].n : Int) by omega)]
              have z : mkB m d.p ds[i] = false := decide_eq_false fun h => c4 h.2.2.2
              rw [z] at kn
              exact iteF (kn _ (Same.refl _) rfl)
          · rw [decide_eq_false (show ¬ (m d.p : Int) < (ds[i].n : Int) by omega)]
            have z : mkB m d.p ds[i] = false := decide_eq_false fun h => c3 h.2.2.1
            rw [z] at kn
            exact iteF (iteF (kn _ (Same.refl _) rfl))
        · rw [decide_eq_false c2]
          have z : mkB m d.p ds[i] = false := decide_eq_false fun h => c2 h.2.1
          rw [z] at kn
          exact iteF (iteF (kn _ (Same.refl _) rfl))
    intro G14 s14 hD1
    rw [lx, sel_dd] at hD1
    have lml : ((ds.filter (mkB m d.p)).map (·.p)).length ≤ 60 := by
      rw [List.length_map]
      exact Nat.le_trans (List.length_filter_le _ _) l60
    have eby : (((ds.filter (mkB m d.p)).map (·.p)).map (rcB ds m d.p)).any id = Bv := by
      rw [Bool.eq_iff_iff, hBv, hmk, List.any_eq_true]
      constructor
      · rintro ⟨c, hc, h⟩
        obtain ⟨y, hy, rfl⟩ := List.mem_map.mp hc
        obtain ⟨e, he, rfl⟩ := List.mem_map.mp hy
        obtain ⟨he, k1⟩ := List.mem_filter.mp he
        obtain ⟨k1, k2, k3, k4⟩ := of_decide_eq_true k1
        exact ⟨e, he, k1, k2, k3, k4, rcB_iff.mp h⟩
      · rintro ⟨e, he, k1, k2, k3, k4, k5⟩
        exact ⟨_, List.mem_map.mpr ⟨_, List.mem_map.mpr ⟨e, List.mem_filter.mpr ⟨he, decide_eq_true ⟨k1, k2, k3, k4⟩⟩, rfl⟩, rfl⟩, rcB_iff.mpr k5⟩
    generalize (ds.filter (mkB m d.p)).map (·.p) = ml at *
    have hS14 := hS13.trans s14
    have bd0 : Bd ds := fun e he => bd e (List.mem_append_left _ he)
    refine norm (σ' := [some z, some (.ref a), some (.ref b), some (.ref t), some (.ref a'), some (.ref ln), some x', some (.bl Bv), some (.ref td), some (.ref q8), some (.int (d.p : Int)), some (.ref nq), some (.ref D1), none, none, none, none, none, none, none, none, none, none]) rfl ?_
    -- a way
    refine ⟨_, rfl, _, rfl, ⟨_, SqL.of hD1⟩, fun D2 nD2 => ?_⟩
    refine lc_bools (rcB ds m d.p) (by omega) hD1 nD2 ?_ ?_
    · intro y G Qy Qn my sg ky_
      have sHG := hS14.trans sg
      refine ⟨rfl, _, rfl, _, rfl, _, rfl, _, rfl, a, b, ds, pgs ds, m, y, rfl, hL.same sHG, hG0, bd0, sHG _ _ hb, pk, fun U l G' s' nU hU ll nl ml' => ?_⟩
      refine ⟨U, _, rfl, .inl (SqL.of hU), rfl, flat_nums2 _, ?_⟩
      have := ky_ G' s'
      have e : inV (V.int (d.p : Int)) (numsV l) = rcB ds m d.p y := by
        rw [inV_nums2, Bool.eq_iff_iff, decide_eq_true_eq, ml', rcB_iff]
      rw [← e] at this
      exact this
    intro G15 s15 hD2
    refine ⟨D2, _, rfl, SqL.of hD2, ?_⟩
    rw [eby]
    have hS15 := hS14.trans s15
    refine norm (σ' := [some z, some (.ref a), some (.ref b), some (.ref t), some (.ref a'), some (.ref ln), some x', some (.bl Bv), some (.ref td), some (.ref q8), some (.int (d.p : Int)), some (.ref nq), some (.ref D1), some (.bl Bv), none, none, none, none, none, none, none, none, none]) rfl ?_
    -- known or not: told alike
    have dgP : DGet G15 b (.int (d.p : Int)) (valV (mV (pgs ds) m) (ky d.p)) := DGet.k (k := ky d.p) (hS15 _ _ hb)
    have enx : (!decide (V.bl Bv = V.bl Bv)) = false := by simp
    refine ⟨_, rfl, _, rfl, b, _, rfl, dgP, _, rfl, ?_⟩
    apply ite_tail
    · intro rest
      refine ⟨_, rfl, _, rfl, rfl, _, rfl, ?_⟩
      rw [enx]
      exact iteF rest
    · intro rest
      exact iteF rest
    refine norm (σ' := [some z, some (.ref a), some (.ref b), some (.ref t), some (.ref a'), some (.ref ln), some x', some (.bl Bv), some (.ref td), some (.ref q8), some (.int (d.p : Int)), some (.ref nq), some (.ref D1), some (.bl Bv), none, none, none, none, none, none, none, none, none]) rfl ?_
    refine ⟨_, rfl, Bv, rfl, ?_⟩
    have s1015 := s1013.trans (s14.trans s15)
    have l8 := paired_len p8
    apply mergeQ (J := fun G σ => Same G15 G ∧ ∃ v14 v15 v16 v17, σ = [some z, some (.ref a), some (.ref b), some (.ref t), some (.ref a'), some (.ref ln), some x', some (.bl Bv), some (.ref td), some (.ref q8), some (.int (d.p : Int)), some (.ref nq), some (.ref D1), some (.bl Bv), v14, v15, v16, v17, none, none, none, none, none])
    · intro rest
      by_cases hB : Bv = true
      · refine itePos hB ?_
        have hd := hoff (hBv.mp hB)
        have hC := gsC hB
        refine ⟨_, rfl, b, _, rfl, Rd.of (hS15 _ _ hb), fun D nD => ?_⟩
        have s16 := Same.updf (o := .dK (mV (pgs ds) m)) nD
        have hD16 : MkAt (upd G15 D (.dK (mV (pgs ds) m))) D (pgs ds) m := upd_same
        generalize upd G15 D (.dK (mV (pgs ds) m)) = G16 at *
        refine ⟨_, rfl, q8, rfl, ⟨_, SqL.of (s16 _ _ (s1015 _ _ h8))⟩, ?_⟩
        refine for_it (walk_list (K := K) (a := q8) (xs := ys8)) (fun i σ G => Same G15 G ∧ ∃ D v15, MkAt G D (pgs ds) (wrtM ds m (gs.take i).flatten) ∧ σ = [some z, some (.ref a), some (.ref b), some (.ref t), some (.ref a'), some (.ref ln), some x', some (.bl Bv), some (.ref td), some (.ref q8), some (.int (d.p : Int)), some (.ref nq), some (.ref D1), some (.bl Bv), some (.ref D), v15, none, none, none, none, none, none, none])
          ⟨s16, D, none, by rw [List.take_zero, List.flatten_nil, wrt_nil]; exact hD16, rfl⟩ (fun i σ G _ hh => SqL.of (hh.1 _ _ (s1015 _ _ h8))) ?_ ?_
        · rintro i y σ G G' hi ⟨sG, D, v15, hDG, rfl⟩ ⟨rfl, hv⟩
          obtain ⟨g, eg, c, rfl, nc, hc⟩ := paired_get2 p8 hv
          have sHG := hS15.trans sG
          refine ⟨_, rfl, _, rfl, _, rfl, a, D, c, ds, pgs ds, _, g, rfl, hL.same sHG, hG0, bd0, hDG, pk, sG _ _ (s1015 _ _ hc), gsl.2 g (List.mem_of_getElem? eg), fun D' G2 s2 nD' hD' => ?_⟩
          rw [wrt_wrt] at hD'
          have etk : (gs.take (i + 1)).flatten = (gs.take i).flatten ++ g := by
            rw [List.take_succ, eg]
            simp
          refine ⟨sG.trans s2, D', _, ?_, rfl⟩
          rw [etk]
          exact hD'
        · rintro σ G ⟨sG, D, v15, hDG, rfl⟩
          rw [← l8, List.take_length] at hDG
          have sHG := hS15.trans sG
          have rtw := rt_closed hG0 cs rt hC
          have mkw := wrt_mk hG0 mk gs.flatten
          have hP : d.p ∈ gs.flatten := (hC _).mpr (cself hd)
          have ewr := hwrit _ hP
          refine stuck_args rfl rfl rfl (hL.same sHG) (hx.same sHG) hG bd hDG mkw rtw fun G2 s2 => ?_
          rw [ewr]
          refine ⟨_, rfl, iteF ?_⟩
          have sH2 := sHG.trans s2
          refine ⟨_, rfl, _, rfl, a, D, ds, pgs ds, _, rfl, hL.same sH2, hG0, s2 _ _ hDG, pk, fun q3 ys3 G3 s3 nq3 hq3 py3 => ⟨Nat.zero_le _, fun E3 hE3 => ?_⟩⟩
          rw [show wr ds (wrtM ds m gs.flatten) = [] from rtw] at py3
          cases py3
          have s4 := Same.updf (o := .lst []) hE3
          refine ⟨q3, E3, [], rfl, rfl, SqL.of (s4 _ _ hq3), SqL.of upd_same, _, rfl, iteF ?_⟩
          have s34 := s3.trans s4
          generalize upd G3 E3 (.lst []) = G4 at *
          have sH4 := sH2.trans s34
          have s154 := sG.trans (s2.trans s34)
          have hb4 := sH4 _ _ hb
          refine ⟨b, _, hb4, trivial, fun od => ⟨_, rfl, b, od, rfl, .inl ⟨_, upd_same, fun D3 hD3 => ?_⟩⟩⟩
          have fb : upd G4 b (.frz od (.dK (mV (pgs ds) m))) b = some (.frz od (.dK (mV (pgs ds) m))) := upd_same
          have back : ∀ {G2 : Hp}, Same (upd G4 b (.frz od (.dK (mV (pgs ds) m)))) G2 → Same G4 (upd G2 b (.dK (mV (pgs ds) m))) := fun s => unlock_same hb4 s
          generalize upd G4 b (.frz od (.dK (mV (pgs ds) m))) = F at *
          have lk : (mV (pgs ds) m).length = (pgs ds).length := dV_len _ _
          refine lc_sel (n := (mV (pgs ds) m).length) (walk_keys (d := b) (o := od) (kvs := mV (pgs ds) m)) (fun i => ((pgs ds)[i]?).bind fun p => if (!decide (p = d.p)) = true then some (V.int (p : Int)) else none) (by omega) hD3 (fun G s2 => s2 _ _ fb) ?_ ?_
          · rintro i y G5 G6 Qy Qn hi s5 ⟨rfl, k', v', ek, rfl⟩ ky_ kn
            have li : i < (pgs ds).length := by omega
            have ei : (mV (pgs ds) m)[i]? = some (ky (pgs ds)[i], .int (m (pgs ds)[i] : Int)) := by
              unfold mV dV
              rw [List.getElem?_map, List.getElem?_eq_getElem li]
              rfl
            rw [ei] at ek
            cases ek
            rw [List.getElem?_eq_getElem li, Option.bind_some] at ky_ kn
            refine ⟨rfl, _, rfl, _, rfl, rfl, _, rfl, ?_⟩
            have ed : decide (kV (ky (pgs ds)[i]) = V.int (d.p : Int)) = decide ((pgs ds)[i] = d.p) := by
              rw [Bool.eq_iff_iff]
              show decide (V.int ((pgs ds)[i] : Int) = V.int (d.p : Int)) = true ↔ _
              simp
              omega
            rw [ed]
            cases hc : !decide ((pgs ds)[i] = d.p) with
            | true =>
              rw [hc] at ky_
              exact iteT ⟨_, rfl, ky_ _ _ (Same.refl _) rfl⟩
            | false =>
              rw [hc] at kn
              exact iteF (kn _ (Same.refl _) rfl)
          · intro G5 s5 hR
            rw [lk, sel_bool] at hR
            have nDb : D3 ≠ b := fun z => by
              have := s5 _ _ fb
              rw [← z, hR] at this
              cases this
            have sb := back s5
            refine ⟨s5 _ _ fb, D3, (pgs ds).filter (fun p => !decide (p = d.p)), rfl, (upd_ne nDb).trans hR, Nat.le_trans (List.length_filter_le _ _) p6, fun lq lys G6 s6 nlq hlq hly l64 => ⟨lq, rfl, ⟨_, SqL.of hlq⟩, ?_⟩⟩
            have s156 := s154.trans (sb.trans s6)
            refine for_it (walk_list (K := K) (a := lq) (xs := lys)) (fun i σ G => Same G6 G ∧ ∃ v16 v17, σ = [some z, some (.ref a), some (.ref b), some (.ref t), some (.ref a'), some (.ref ln), some x', some (.bl Bv), some (.ref td), some (.ref q8), some (.int (d.p : Int)), some (.ref nq), some (.ref D1), some (.bl Bv), some (.ref D), v15, v16, v17, none, none, none, none, none])
              ⟨Same.refl _, _, _, rfl⟩ (fun i σ G _ hh => SqL.of (hh.1 _ _ hlq)) ?_ ?_
            · rintro i y σ G7 G8' hi ⟨s7', v16, v17, rfl⟩ ⟨rfl, hv⟩
              obtain ⟨lb, ls, rfl, hlb, l6', hls⟩ := hly y (List.mem_of_getElem? hv)
              have sH8 := hS15.trans (s156.trans s7')
              have nP : d.p ∉ ls := fun z => by
                have := (List.mem_filter.mp (hls _ z)).2
                simp at this
              refine ⟨_, rfl, _, rfl, _, rfl, a, b, lb, ds, pgs ds, m, ls, rfl, hL.same sH8, hG0, bd0, sH8 _ _ hb, pk, s7' _ _ hlb, by omega, fun D5 G9' s9' nD5 hD5 => ?_⟩
              have sH9 := sH8.trans s9'
              refine ⟨_, rfl, _, rfl, a, D5, ds, pgs ds, _, rfl, hL.same sH9, hG0, hD5, pk, fun q6 ys6 Ga sa nq6 hq6 py6 => ⟨Nat.zero_le _, fun E6 hE6 => ?_⟩⟩
              have sc := Same.updf (o := .lst []) hE6
              refine ⟨q6, E6, ys6, rfl, rfl, SqL.of (sc _ _ hq6), SqL.of upd_same, _, rfl, ?_⟩
              have sac := sa.trans sc
              generalize upd Ga E6 (.lst []) = Gc at *
              by_cases hw : wr ds (wrtM ds m ls) = []
              · rw [hw] at py6
                cases py6
                have rtl : Rt ds (wrtM ds m ls) := hw
                have ne := hkept ls rtl nP (hBv.mp hB)
                have sHc := sH9.trans sac
                refine iteT ?_
                refine stuck_args rfl rfl rfl (hL.same sHc) (hx.same sHc) hG bd (sac _ _ hD5) (wrt_mk hG0 mk ls) rtl fun Gd sd => ?_
                have e1 : (!(rg (ds ++ [d]) (mX (pgs ds) (wrtM ds m ls))).isEmpty) = true := by
                  cases h : rg (ds ++ [d]) (mX (pgs ds) (wrtM ds m ls)) with
                  | nil => exact absurd h ne
                  | cons u v => rfl
                rw [e1]
                exact ⟨_, rfl, iteF ⟨s7'.trans (s9'.trans (sac.trans sd)), _, _, rfl⟩⟩
              · have l6 := paired_len py6
                cases ys6 with
                | nil => exact absurd (List.length_eq_zero_iff.mp l6) hw
                | cons u v => exact iteF (iteF ⟨s7'.trans (s9'.trans sac), _, _, rfl⟩)
            · rintro σ G7 ⟨s7', v16, v17, eσ⟩
              exact rest G7 σ ⟨s156.trans s7', _, _, _, _, eσ⟩
      · exact iteNeg hB (rest G15 _ ⟨Same.refl _, none, none, none, none, rfl⟩)
    rintro G16 σ ⟨s16, v14, v15, v16, v17, rfl⟩
    have s1016 := s1015.trans s16
    have s916 := s10.trans s1016
    -- what was told is spoilt
    have lys := paired_len pA9
    have notin : ∀ c, G9 c = none → V.ref c ∉ ys := fun c hc hm => by
      obtain ⟨i, li, e⟩ := List.getElem_of_mem hm
      obtain ⟨g, _, c', e', _, h'⟩ := paired_get2 pA9 (List.getElem?_eq_getElem li)
      rw [e] at e'
      cases e'
      rw [hc] at h'
      cases h'
    have tdn : V.ref td ∉ ys := fun hm => by
      obtain ⟨i, li, e⟩ := List.getElem_of_mem hm
      obtain ⟨g, _, c', e', _, h'⟩ := paired_get2 pA7 (List.getElem?_eq_getElem li)
      rw [e] at e'
      cases e'
      rw [htd] at h'
      cases h'
    have Hn : ∀ c o, G7 c = some o → V.ref c ∉ ys := fun c o ec hm => by
      obtain ⟨i, li, e⟩ := List.getElem_of_mem hm
      obtain ⟨g, _, c', e', n', h'⟩ := paired_get2 pA9 (List.getElem?_eq_getElem li)
      rw [e] at e'
      cases e'
      rw [ec] at n'
      cases n'
    have A7n : V.ref A7 ∉ ys := fun hm => by
      obtain ⟨i, li, e⟩ := List.getElem_of_mem hm
      obtain ⟨g, _, c', e', n', h'⟩ := paired_get2 pA9 (List.getElem?_eq_getElem li)
      rw [e] at e'
      cases e'
      rw [hA79] at h'
      have e2 : ys = numsV g := HO.lst.inj (Option.some.inj h')
      rw [e2] at hm
      obtain ⟨_, _, e3⟩ := List.mem_map.mp hm
      cases e3
    refine ⟨_, rfl, td, _, 1, _, rfl, rfl, SqL.of (s916 _ _ htd9), rfl, A7, rfl, ⟨_, SqL.of (s916 _ _ hA79)⟩, ?_⟩
    refine for_it (walk_list (K := K) (a := A7) (xs := ys)) (fun i σ G => (∀ c o, V.ref c ∉ ys → G16 c = some o → G c = some o) ∧ (∀ y ∈ ys, ∃ c xs, y = V.ref c ∧ G c = some (.lst xs) ∧ xs.length ≤ 40 + i) ∧ ∃ v15, σ = [some z, some (.ref a), some (.ref b), some (.ref t), some (.ref a'), some (.ref ln), some x', some (.bl Bv), some (.ref td), some (.ref q8), some (.int (d.p : Int)), some (.ref nq), some (.ref D1), some (.bl Bv), v14, v15, v16, v17, none, none, none, none, none])
      ⟨fun c o _ e => e, fun y hy => by
        obtain ⟨i, li, rfl⟩ := List.getElem_of_mem hy
        obtain ⟨g, eg, c, e, _, h⟩ := paired_get2 pA9 (List.getElem?_eq_getElem li)
        exact ⟨c, _, e, s916 _ _ h, by
          unfold numsV
          rw [List.length_map]
          exact gsl.2 g (List.mem_of_getElem? eg)⟩, _, rfl⟩ (fun i σ G _ hh => SqL.of (hh.1 _ _ A7n (s916 _ _ hA79))) ?_ ?_
    · rintro i y σ G G' hi ⟨k1, k2, v15', rfl⟩ ⟨rfl, hv⟩
      have mv := List.mem_of_getElem? hv
      obtain ⟨c, xs', rfl, hc, lc⟩ := k2 y mv
      have l40 := gsl.1
      refine ⟨_, rfl, .inl ⟨rfl, _, SqL.of hc⟩, c, xs', _, rfl, rfl, hc, by omega, ?_⟩
      refine ⟨fun c' o n e => ?_, fun y' hy' => ?_, _, rfl⟩
      · rw [upd_ne (fun z => n (by rw [z]; exact mv))]
        exact k1 c' o n e
      · obtain ⟨c', xs2, rfl, h2, l2⟩ := k2 y' hy'
        by_cases e : c' = c
        · subst e
          exact ⟨c', _, rfl, upd_same, by rw [List.length_append, List.length_singleton]; omega⟩
        · exact ⟨c', xs2, rfl, (upd_ne e).trans h2, by omega⟩
    · rintro σ G ⟨k1, k2, v15', rfl⟩
      have hA7G := k1 _ _ A7n (s916 _ _ hA79)
      have l40 := gsl.1
      refine ⟨_, rfl, td, _, 1, _, rfl, rfl, SqL.of (k1 _ _ tdn (s916 _ _ htd9)), rfl, .inl ⟨rfl, _, SqL.of hA7G⟩, A7, ys, _, rfl, rfl, hA7G, by omega, ?_⟩
      have kf : ∀ c o, V.ref c ∉ ys → c ≠ A7 → G16 c = some o → upd G A7 (.lst (ys ++ [V.str "more"])) c = some o := fun c o n1 n2 e => by
        rw [upd_ne n2]
        exact k1 c o n1 e
      generalize upd G A7 (.lst (ys ++ [V.str "more"])) = GF at *
      have s7F : Same G7 GF := fun c o e => kf c o (Hn c o e) (fun z => by
        rw [z, nA7] at e
        cases e) (s79.trans s916 c o e)
      have kf9 : ∀ c o, G9 c = none → G16 c = some o → GF c = some o := fun c o h e => kf c o (notin c h) (fun z => by
        rw [z, hA79] at h
        cases h) e
      have hSF := hS7.trans s7F
      refine ⟨_, rfl, _, rfl, _, rfl, a, b, .ref t, ds, pgs ds, m, d, rfl, hL.same hSF, hG, hSF _ _ hb, pk, mk, rt, nr, hx.same hSF, fun A9 ys9 G17 s17 n9 h9 p9 => ?_⟩
      rw [hgs] at p9
      have p8F : Paired (GrAt G9 GF) gs ys8 := paired_mono (fun g y ⟨c, e, n, h⟩ => ⟨c, e, n, kf9 c _ n (s1016 _ _ h)⟩) p8
      have h8F := kf9 _ _ n8 (s1016 _ _ h8)
      refine ⟨_, rfl, .ref A9, .ref q8, grsD gs, rfl, td_le (grs_td h9 p9 gsl.1 gsl.2) 6, td_le (grs_td (s17 _ _ h8F) (paired_mono (fun g y h => h.same s17) p8F) gsl.1 gsl.2) 6, fun G18 s18 => ⟨true, rfl, itePos rfl ?_⟩⟩
      have s178 := s17.trans s18
      have hnqF := kf9 _ _ (none_back s10 nnq10) (s14.trans (s15.trans s16) _ _ hnq13)
      refine ⟨_, rfl, _, rfl, a', ds, rfl, hL7.same (s7F.trans s178), hG0, fun mq G19 s19 nmq hmq => ?_⟩
      refine ⟨nq, mq, _, _, rfl, rfl, s19 _ _ (s178 _ _ hnqF), hmq, rfl, fun p hp => ?_, k G19 (hSF.trans (s178.trans s19))⟩
      obtain ⟨q, hq, rfl⟩ := List.mem_map.mp hp
      exact ⟨mV_val hq, rfl⟩
end
end K27
set_option Elab.async false
set_option linter.all false
set_option maxRecDepth 100000
set_option maxHeartbeats 2000000
namespace K27
open PySem PySem.Spec PyProof.Rows L2 KB LiI StX
abbrev s_purses : Stmt := sPurses
def spLaw (K : PySem.W.Frag) : Sp := fun vs H Q _ => ∃ (a : Addr) (ns : List Int), vs = [.ref a] ∧ SqL K H a (ns.map V.int) ∧ ∀ H', Q (.bl true) H'
theorem getLast_asc {l : List Nat} (h : l.Pairwise (· < ·)) : ∀ {x : Nat}, x ∈ l → x ≤ l.getLastD 0 := fun {x} m => lt_last h x m
theorem mkAt_ge {ds : List Dd} (hG : Lg ds) {n : Int} {d : Dd} (hd : d ∈ ds) (h : (d.n : Int) ≤ n) : d.n ≤ mkAt ds n d.p := by
  unfold mkAt
  refine getLast_asc ?_ (List.mem_map.mpr ⟨d, List.mem_filter.mpr ⟨hd, decide_eq_true ⟨rfl, h⟩⟩, rfl⟩)
  exact List.pairwise_map.mpr (hG.asc.filter _)
theorem mkAt_rt {ds : List Dd} (hG : Lg ds) {n : Int} (h : 0 ≤ n) : Rt ds (mkAt ds n) := rt_iff.mpr fun d hd c p hp => by
  rcases Int.lt_or_le n (d.n : Int) with z | z
  · have := mkAt_le (ds := ds) h p
    omega
  · have := mkAt_ge hG hd z
    omega
theorem nil_lg : Lg [] := ⟨fun d h => (nomatch h), .nil, by decide, by decide⟩
theorem nil_mk (m : Nat → Nat) : Mk [] m := fun p h => (nomatch h)
def dm (n p : Nat) : Dd := ⟨n, p, [2, 3], [.str "mix"]⟩
theorem lit {G : Hp} {R W T : Addr} {n p : Nat} {i j : Int} (ei : i = (n : Int)) (ej : j = (p : Int)) (hR : G R = none) (hW : upd G R (.lst [V.int 2, V.int 3]) W = none) (hT : upd (upd G R (.lst [V.int 2, V.int 3])) W (.tup [V.str "mix"]) T = none) :
    Same G (upd (upd (upd G R (.lst [V.int 2, V.int 3])) W (.tup [V.str "mix"])) T (.tup [V.int i, V.int j, V.ref R, V.ref W])) ∧ DeedAt (upd (upd (upd G R (.lst [V.int 2, V.int 3])) W (.tup [V.str "mix"])) T (.tup [V.int i, V.int j, V.ref R, V.ref W])) (.ref T) (dm n p) := by
  subst ei ej
  have s1 := Same.updf (o := .lst [V.int 2, V.int 3]) hR
  have s2 := Same.updf (o := .tup [V.str "mix"]) hW
  have s3 := Same.updf (o := .tup [V.int (n : Int), V.int (p : Int), V.ref R, V.ref W]) hT
  refine ⟨s1.trans (s2.trans s3), T, R, W, rfl, upd_same, (s2.trans s3) _ _ upd_same, Tr.tup (s3 _ _ upd_same) rfl (show [PyData.str "mix"].length ≤ 1000 by decide) fun i u e h1 h2 => ?_⟩
  match i, h1, h2 with
  | 0, h1, h2 =>
    cases h1
    cases h2
    exact .flat (.str _)
def dz : Dd := ⟨1, 4, [4, 7], []⟩
theorem lit0 {G : Hp} {R W T : Addr} (hR : G R = none) (hW : upd G R (.lst [V.int 4, V.int 7]) W = none) (hT : upd (upd G R (.lst [V.int 4, V.int 7])) W (.tup []) T = none) :
    Same G (upd (upd (upd G R (.lst [V.int 4, V.int 7])) W (.tup [])) T (.tup [V.int 1, V.int 4, V.ref R, V.ref W])) ∧ DeedAt (upd (upd (upd G R (.lst [V.int 4, V.int 7])) W (.tup [])) T (.tup [V.int 1, V.int 4, V.ref R, V.ref W])) (.ref T) dz := by
  have s1 := Same.updf (o := .lst [V.int 4, V.int 7]) hR
  have s2 := Same.updf (o := .tup []) hW
  have s3 := Same.updf (o := .tup [V.int 1, V.int 4, V.ref R, V.ref W]) hT
  exact ⟨s1.trans (s2.trans s3), T, R, W, rfl, upd_same, (s2.trans s3) _ _ upd_same, Tr.tup (s3 _ _ upd_same) rfl (show ([] : List PyData).length ≤ 1000 by decide) fun i u e h1 h2 => by simp at h1⟩
def m2 (u v p : Nat) : Nat := if p = 2 then u else v
theorem disp_two {H : Hp} {d : Addr} {u v : Nat} (h : H d = none) : Same H (upd (upd H d (.dK [])) d (.dK (mergeK [] [(ky 2, .int (u : Int)), (ky 3, .int (v : Int))]))) ∧ MkAt (upd (upd H d (.dK [])) d (.dK (mergeK [] [(ky 2, .int (u : Int)), (ky 3, .int (v : Int))]))) d [2, 3] (m2 u v) :=
  ⟨fun c o e => by rw [upd_ne (ne_of_none e h), upd_ne (ne_of_none e h)]; exact e, by
    show upd _ d _ d = _
    rw [upd_same]
    exact congrArg (fun z => some (HO.dK z)) (merge_dV0 (qs := [2, 3]) (f := fun p => .int (m2 u v p : Int)) (by decide))⟩
theorem dz_ok : dz.Ok := ⟨by decide, show [4, 7].Pairwise (· < ·) by decide, show 4 ∈ [4, 7] by decide, show [4, 7].length ≤ 20 by decide, rfl, show szWs [] ≤ 100 by decide +kernel⟩
theorem lgz : Lg ([] ++ [dz]) := ⟨fun d hd => by
  rw [List.mem_singleton.mp hd]
  exact dz_ok, List.pairwise_singleton _ _, by decide, by decide +kernel⟩
theorem rg_nil (m : Nat → Nat) : rg [] m = [] := by
  refine Classical.byContradiction fun ne => ?_
  obtain ⟨T, ⟨p, hp⟩, hT⟩ := rg_bad.mp ne
  obtain ⟨q, hq, d, hd, _⟩ := hT p hp
  cases hd
theorem rgz : rg ([] ++ [dz]) (mX [] fun _ => 0) = [] := by
  refine Classical.byContradiction fun ne => ?_
  obtain ⟨e, he, _⟩ := (ring_makers lgz (m := fun _ => 0) (ks := []) (List.Perm.refl _) (rg_nil _)).mp ne
  cases he
def d2 : List Dd := [dm 1 2, dm 2 3]
theorem pgs2 : pgs d2 = [2, 3] := by decide +kernel
theorem dm_ok {n p : Nat} (h : 1 ≤ n) (hp : p ∈ [2, 3]) : (dm n p).Ok := ⟨h, show [2, 3].Pairwise (· < ·) by decide, hp, show [2, 3].length ≤ 20 by decide, show okWs [PyData.str "mix"] = true by decide +kernel, show szWs [PyData.str "mix"] ≤ 100 by decide +kernel⟩
theorem lg3 {k : Nat} (hk : k ∈ [2, 3]) : Lg (d2 ++ [dm 3 k]) := by
  refine ⟨fun d hd => ?_, ?_, show 3 ≤ 60 by decide, ?_⟩
  · rcases List.mem_append.mp hd with hd | hd
    · rcases List.mem_cons.mp hd with rfl | hd
      · exact dm_ok (by decide) (by decide)
      · rw [List.mem_singleton.mp hd]
        exact dm_ok (by decide) (by decide)
    · rw [List.mem_singleton.mp hd]
      exact dm_ok (by decide) hk
  · refine List.pairwise_cons.mpr ⟨fun e he => ?_, List.pairwise_cons.mpr ⟨fun e he => ?_, List.pairwise_singleton _ _⟩⟩
    · rcases List.mem_cons.mp he with rfl | he
      · show 1 < 2
        decide
      · rw [List.mem_singleton.mp he]
        show 1 < 3
        decide
    · rw [List.mem_singleton.mp he]
      show 2 < 3
      decide
  · have : (pgs (d2 ++ [dm 3 k])).length ≤ [2, 3].length := (pgs_nd _).length_le_of_subset fun p hp => by
      obtain ⟨d, hd, h⟩ := pgs_mem.mp hp
      rcases List.mem_append.mp hd with hd | hd
      · rcases List.mem_cons.mp hd with rfl | hd
        · exact h
        · rw [List.mem_singleton.mp hd] at h
          exact h
      · rw [List.mem_singleton.mp hd] at h
        exact h
    exact Nat.le_trans this (by decide)
theorem w2 {m : Nat → Nat} {p q : Nat} (h : W d2 m p q) : p = 3 ∧ q = 2 := by
  obtain ⟨d, hd, rfl, h1, h2, h3, h4, h5⟩ := h
  rcases List.mem_cons.mp hd with rfl | hd
  · have h2' : p ∈ [2, 3] := h2
    rcases List.mem_cons.mp h2' with rfl | h2'
    · exact absurd rfl h3
    · exact ⟨List.mem_singleton.mp h2', rfl⟩
  · have e := List.mem_singleton.mp hd
    rw [e] at h2 h3 h5
    have h2' : p ∈ [2, 3] := h2
    rcases List.mem_cons.mp h2' with rfl | h2'
    · have n2 : nwN d2 2 = 1 := by decide +kernel
      rw [n2] at h5
      have : (2 : Nat) ≤ 1 := h5
      omega
    · exact absurd (List.mem_singleton.mp h2') h3
theorem rg2 (m : Nat → Nat) : rg d2 m = [] := by
  refine Classical.byContradiction fun ne => ?_
  obtain ⟨T, ⟨p, hp⟩, hT⟩ := rg_bad.mp ne
  obtain ⟨q, hq, r⟩ := hT p hp
  obtain ⟨q', _, r'⟩ := hT q hq
  have h1 := (w2 r).2
  have h2 := (w2 r').1
  omega
theorem mk2 {u v : Nat} (hu : u = 0 ∨ u = 1) (hv : v = 0 ∨ v = 2) : Mk d2 (m2 u v) := fun p hp => by
  rw [pgs2] at hp
  have n2 : nbp d2 2 = [0, 1] := by decide +kernel
  have n3 : nbp d2 3 = [0, 2] := by decide +kernel
  rcases List.mem_cons.mp hp with rfl | hp
  · rw [n2]
    show u ∈ [0, 1]
    rcases hu with rfl | rfl <;> decide
  · rw [List.mem_singleton.mp hp, n3]
    show v ∈ [0, 2]
    rcases hv with rfl | rfl <;> decide
theorem rt2 {u v : Nat} (h : u = 0 ∧ v = 0 ∨ u = 1 ∧ v = 0 ∨ u = 1 ∧ v = 2) : Rt d2 (m2 u v) := rt_iff.mpr fun d hd c p hp => by
  have cases2 : d = dm 1 2 ∨ d = dm 2 3 := by
    rcases List.mem_cons.mp hd with e | hd
    · exact .inl e
    · exact .inr (List.mem_singleton.mp hd)
  rcases cases2 with rfl | rfl
  · have c' : u < 1 := c
    have hp' : p ∈ [2, 3] := hp
    show m2 u v p < 1
    unfold m2
    split <;> omega
  · have c' : v < 2 := c
    show m2 u v p < 2
    unfold m2
    split <;> omega
section
variable {P : Program} {w : World} {K : PySem.W.Frag} {mg : Str → Option Value} {base : Heap}
abbrev s_law : Stmt := top 74
abbrev N_law : List Str := ["_law_script", "_law_purse_here", "_law_late", "_law_pages", "_law_log_here", "_law_marks_here", "_law_spin", "_law_both", "_law_page"]
theorem sc_law : FnScope N_law ["_law_script"] (defScope s_law) := ⟨rfl, rfl, rfl, by decide +kernel, rfl, by decide +kernel, by decide +kernel⟩
theorem ok_law {f : Addr} {fd : FuncData} (F : FnP K "law" s_law f fd) (Z : FreeS mg)
    {f_purses : Addr} {d_purses : FuncData} (g_purses : mg "_law_purses" = some (.ref f_purses)) (F_purses : FnP K "_law_purses" s_purses f_purses d_purses) (G_purses : FnOk P w K mg base CX0 2 f_purses d_purses ["_law_script", "_law_few"] (spPurses K))
    {f_exact : Addr} {d_exact : FuncData} (g_exact : mg "_law_exact" = some (.ref f_exact)) (F_exact : FnP K "_law_exact" s_exact f_exact d_exact) (GA_exact : ∀ n : Nat, FnOk P w K mg base CX0 (n + 1) f_exact d_exact ["_law_mine", "_law_theirs"] (spExactD n))
    {f_sheets : Addr} {d_sheets : FuncData} (g_sheets : mg "_law_sheets" = some (.ref f_sheets)) (F_sheets : FnP K "_law_sheets" s_sheets f_sheets d_sheets) (G_sheets : FnOk P w K mg base CX0 3 f_sheets d_sheets ["_law_purse_here", "_law_many"] spSheets)
    {f_log : Addr} {d_log : FuncData} (g_log : mg "_law_log" = some (.ref f_log)) (F_log : FnP K "_law_log" s_log f_log d_log) (G_log : FnOk P w K mg base CX0 6 f_log d_log ["_law_purse_here", "_law_many", "_law_pages"] spLog)
    {f_closes_ring : Addr} {d_closes_ring : FuncData} (g_closes_ring : mg "closes_ring" = some (.ref f_closes_ring)) (F_closes_ring : FnP K "closes_ring" s_closes_ring f_closes_ring d_closes_ring) (G_closes_ring : FnOk P w K mg base CX0 12 f_closes_ring d_closes_ring ["deeds", "stamps", "deed"] spCloses)
    {f_ahead_of : Addr} {d_ahead_of : FuncData} (g_ahead_of : mg "ahead_of" = some (.ref f_ahead_of)) (F_ahead_of : FnP K "ahead_of" s_ahead_of f_ahead_of d_ahead_of) (G_ahead_of : FnOk P w K mg base CX0 12 f_ahead_of d_ahead_of ["deeds", "stamps", "deed"] spAhead)
    {f_right_marks : Addr} {d_right_marks : FuncData} (g_right_marks : mg "_law_right_marks" = some (.ref f_right_marks)) (F_right_marks : FnP K "_law_right_marks" s_right_marks f_right_marks d_right_marks) (G_right_marks : FnOk P w K mg base CX0 5 f_right_marks d_right_marks ["_law_purse_here", "_law_log_here"] spRightM)
    {f_marks_at : Addr} {d_marks_at : FuncData} (g_marks_at : mg "_law_marks_at" = some (.ref f_marks_at)) (F_marks_at : FnP K "_law_marks_at" s_marks_at f_marks_at d_marks_at) (G_marks_at : FnOk P w K mg base CX0 2 f_marks_at d_marks_at ["_law_log_here", "_law_number"] spMarksAt)
    {f_draw : Addr} {d_draw : FuncData} (g_draw : mg "_law_draw" = some (.ref f_draw)) (F_draw : FnP K "_law_draw" s_draw f_draw d_draw) (G_draw : FnOk P w K mg base CX0 2 f_draw d_draw ["_law_purse_here", "_law_many"] spDraw)
    {f_closing_right : Addr} {d_closing_right : FuncData} (g_closing_right : mg "_law_closing_right" = some (.ref f_closing_right)) (F_closing_right : FnP K "_law_closing_right" s_closing_right f_closing_right d_closing_right) (G_closing_right : FnOk P w K mg base CX0 13 f_closing_right d_closing_right ["_law_purse_here", "_law_log_here", "_law_marks_here", "_law_deed"] spClosing)
    {f_is_stuck : Addr} {d_is_stuck : FuncData} (g_is_stuck : mg "_law_is_stuck" = some (.ref f_is_stuck)) (F_is_stuck : FnP K "_law_is_stuck" s_is_stuck f_is_stuck d_is_stuck) (G_is_stuck : FnOk P w K mg base CX0 7 f_is_stuck d_is_stuck ["_law_log_here", "_law_marks_here"] spStuck)
    {f_next_deed : Addr} {d_next_deed : FuncData} (g_next_deed : mg "_law_next_deed" = some (.ref f_next_deed)) (F_next_deed : FnP K "_law_next_deed" s_next_deed f_next_deed d_next_deed) (G_next_deed : FnOk P w K mg base CX0 4 f_next_deed d_next_deed ["_law_purse_here", "_law_log_here", "_law_pages"] spNextL) :
    FnOk P w K mg base CX0 14 f fd ["_law_script"] (spLaw K) := by
  have b_purses : Binds K d_purses ["_law_script", "_law_few"] [] := F_purses.bindsN fun _ _ _ _ _ _ us hl => match us, hl with | [_, _], _ => rfl
  have b_exact : Binds K d_exact ["_law_mine", "_law_theirs"] [] := F_exact.bindsN fun _ _ _ _ _ _ us hl => match us, hl with | [_, _], _ => rfl
  have b_sheets : Binds K d_sheets ["_law_purse_here", "_law_many"] [] := F_sheets.bindsN fun _ _ _ _ _ _ us hl => match us, hl with | [_, _], _ => rfl
  have b_log : Binds K d_log ["_law_purse_here", "_law_many", "_law_pages"] [] := F_log.bindsN fun _ _ _ _ _ _ us hl => match us, hl with | [_, _, _], _ => rfl
  have b_closes_ring : Binds K d_closes_ring ["deeds", "stamps", "deed"] [] := F_closes_ring.bindsN fun _ _ _ _ _ _ us hl => match us, hl with | [_, _, _], _ => rfl
  have b_ahead_of : Binds K d_ahead_of ["deeds", "stamps", "deed"] [] := F_ahead_of.bindsN fun _ _ _ _ _ _ us hl => match us, hl with | [_, _, _], _ => rfl
  have b_right_marks : Binds K d_right_marks ["_law_purse_here", "_law_log_here"] [] := F_right_marks.bindsN fun _ _ _ _ _ _ us hl => match us, hl with | [_, _], _ => rfl
  have b_marks_at : Binds K d_marks_at ["_law_log_here", "_law_number"] [] := F_marks_at.bindsN fun _ _ _ _ _ _ us hl => match us, hl with | [_, _], _ => rfl
  have b_draw : Binds K d_draw ["_law_purse_here", "_law_many"] [] := F_draw.bindsN fun _ _ _ _ _ _ us hl => match us, hl with | [_, _], _ => rfl
  have b_closing_right : Binds K d_closing_right ["_law_purse_here", "_law_log_here", "_law_marks_here", "_law_deed"] [] := F_closing_right.bindsN fun _ _ _ _ _ _ us hl => match us, hl with | [_, _, _, _], _ => rfl
  have b_is_stuck : Binds K d_is_stuck ["_law_log_here", "_law_marks_here"] [] := F_is_stuck.bindsN fun _ _ _ _ _ _ us hl => match us, hl with | [_, _], _ => rfl
  have b_next_deed : Binds K d_next_deed ["_law_purse_here", "_law_log_here", "_law_pages"] [] := F_next_deed.bindsN fun _ _ _ _ _ _ us hl => match us, hl with | [_, _, _], _ => rfl
  refine F.ok sc_law (fun vs H Q E h => ?_) (fun cdv A outer s H vs Q E hr h => ?_)
  · obtain ⟨a, ns, rfl, _⟩ := h
    rfl
  · obtain ⟨a, ns, rfl, hS, k⟩ := h
    have sl : (100000 : Nat) ≤ sizeLine := by decide
    have nd := sc_law.nd
    refine ⟨_, PSs.nox (pss_cons (ps_for PassesOwn.never rfl (pi_list (pe_call G_purses (hr.mono (by decide)) rfl g_purses F_purses.kp b_purses .nil pass0 (pa_cons (pv 0) (pa_cons (pe_int) (pa_nil))))) (pg_name (i := 1) nd rfl (Or.inl rfl))
        (pss_cons (ps_for PassesOwn.never rfl (pi_range1 (by rfl) Z.range (pa_cons (pe_int) (pa_nil))) (pg_name (i := 2) nd rfl (Or.inl rfl))
        (pss_cons (ps_set (i := 3) nd rfl (Or.inl rfl) (pe_call G_sheets (hr.mono (by decide)) rfl g_sheets F_sheets.kp b_sheets .nil pass0 (pa_cons (pv 1) (pa_cons (pe_op op_add (pe_int) (pe_call G_draw (hr.mono (by decide)) rfl g_draw F_draw.kp b_draw .nil pass0 (pa_cons (pv 1) (pa_cons (pe_int) (pa_nil))))) (pa_nil)))))
      (pss_cons (ps_set (i := 4) nd rfl (Or.inl rfl) (pe_call G_log (hr.mono (by decide)) rfl g_log F_log.kp b_log .nil pass0 (pa_cons (pv 1) (pa_cons (pe_op op_add (pe_int) (pe_call G_draw (hr.mono (by decide)) rfl g_draw F_draw.kp b_draw .nil pass0 (pa_cons (pv 1) (pa_cons (pe_int) (pa_nil))))) (pa_cons (pv 3) (pa_nil))))))
      (pss_one (ps_for PassesOwn.never rfl (pi_list (pe_lst (pa_cons (pe_call G_right_marks (hr.mono (by decide)) rfl g_right_marks F_right_marks.kp b_right_marks .nil pass0 (pa_cons (pv 1) (pa_cons (pv 4) (pa_nil)))) (pa_cons (pe_call G_marks_at (hr.mono (by decide)) rfl g_marks_at F_marks_at.kp b_marks_at .nil pass0 (pa_cons (pv 4) (pa_cons (pe_int) (pa_nil)))) (pa_nil))))) (pg_name (i := 5) nd rfl (Or.inl rfl))
        (pss_one (ps_for PassesOwn.never rfl (pi_range1 (by rfl) Z.range (pa_cons (pe_int) (pa_nil))) (pg_name (i := 6) nd rfl (Or.inl rfl))
        (pss_one (ps_if (PW.pt (pw_and (pt_not (pt_val (pe_call G_is_stuck (hr.mono (by decide)) rfl g_is_stuck F_is_stuck.kp b_is_stuck .nil pass0 (pa_cons (pv 4) (pa_cons (pv 5) (pa_nil)))))) (pw_and1 (pt_not (pt_val (pe_call G_closing_right (hr.mono (by decide)) rfl g_closing_right F_closing_right.kp b_closing_right .nil pass0 (pa_cons (pv 1) (pa_cons (pv 4) (pa_cons (pv 5) (pa_cons (pe_call G_next_deed (hr.mono (by decide)) rfl g_next_deed F_next_deed.kp b_next_deed .nil pass0 (pa_cons (pv 1) (pa_cons (pv 4) (pa_cons (pv 3) (pa_nil))))) (pa_nil))))))))))) (pss_one (ps_ret (pe_bl))) (pss_nil))))))))))
      (pss_cons (ps_set (i := 7) nd rfl (Or.inl rfl) (pe_lst (pa_cons (pe_tup (pa_cons (pe_int) (pa_cons (pe_int) (pa_cons (pe_lst (pa_cons (pe_int) (pa_cons (pe_int) (pa_nil)))) (pa_cons (pe_tup (pa_cons (pe_str) (pa_nil))) (pa_nil)))))) (pa_cons (pe_tup (pa_cons (pe_int) (pa_cons (pe_int) (pa_cons (pe_lst (pa_cons (pe_int) (pa_cons (pe_int) (pa_nil)))) (pa_cons (pe_tup (pa_cons (pe_str) (pa_nil))) (pa_nil)))))) (pa_nil)))))
      (pss_one (ps_for PassesOwn.never rfl (pi_tup (pe_tup (pa_cons (pe_disp (pps_cons (pe_int) (pe_int) (pps_cons (pe_int) (pe_int) (pps_nil))) rfl rfl (fun h => nomatch h) (by decide)) (pa_cons (pe_disp (pps_cons (pe_int) (pe_int) (pps_cons (pe_int) (pe_int) (pps_nil))) rfl rfl (fun h => nomatch h) (by decide)) (pa_cons (pe_disp (pps_cons (pe_int) (pe_int) (pps_cons (pe_int) (pe_int) (pps_nil))) rfl rfl (fun h => nomatch h) (by decide)) (pa_nil)))))) (pg_name (i := 5) nd rfl (Or.inl rfl))
        (pss_one (ps_for PassesOwn.never rfl (pi_tup (pe_tup (pa_cons (pe_int) (pa_cons (pe_int) (pa_nil))))) (pg_name (i := 8) nd rfl (Or.inl rfl))
        (pss_one (ps_if (pt_not (pt_val (pe_call G_closing_right (hr.mono (by decide)) rfl g_closing_right F_closing_right.kp b_closing_right .nil pass0 (pa_cons (pv 1) (pa_cons (pv 7) (pa_cons (pv 5) (pa_cons (pe_tup (pa_cons (pe_int) (pa_cons (pv 8) (pa_cons (pe_lst (pa_cons (pe_int) (pa_cons (pe_int) (pa_nil)))) (pa_cons (pe_tup (pa_cons (pe_str) (pa_nil))) (pa_nil)))))) (pa_nil)))))))) (pss_one (ps_ret (pe_bl))) (pss_nil))))))))))
      (pss_one (ps_ret (pe_call (GA_exact 8) (hr.mono (by decide)) rfl g_exact F_exact.kp b_exact .nil pass0 (pa_cons (pe_lst (pa_cons (pe_call G_closes_ring (hr.mono (by decide)) rfl g_closes_ring F_closes_ring.kp b_closes_ring .nil pass0 (pa_cons (pe_lst (pa_nil)) (pa_cons (pe_dnewK) (pa_cons (pe_tup (pa_cons (pe_int) (pa_cons (pe_int) (pa_cons (pe_lst (pa_cons (pe_int) (pa_cons (pe_int) (pa_nil)))) (pa_cons (pe_tup (pa_nil)) (pa_nil)))))) (pa_nil))))) (pa_cons (pe_call G_ahead_of (hr.mono (by decide)) rfl g_ahead_of F_ahead_of.kp b_ahead_of .nil pass0 (pa_cons (pe_lst (pa_nil)) (pa_cons (pe_dnewK) (pa_cons (pe_tup (pa_cons (pe_int) (pa_cons (pe_int) (pa_cons (pe_lst (pa_cons (pe_int) (pa_cons (pe_int) (pa_nil)))) (pa_cons (pe_tup (pa_nil)) (pa_nil)))))) (pa_nil))))) (pa_nil)))) (pa_cons (pe_lst (pa_cons (pe_bl) (pa_cons (pe_lst (pa_nil)) (pa_nil)))) (pa_nil))))))), ?_⟩
    have mx : ∀ m : Int, 1 ≤ m → m < 100 → mixes m = 1 := fun m h1 h2 => mixes_one h1 (by omega)
    have dr : ∀ m : Int, 1 ≤ m → m < 100 → ∀ M, M ≤ 2 ^ 35 → ∀ H' pu, Purse H' pu M → 1 ≤ m ∧ m.natAbs.log2 < 9000 ∧ Purse H' pu M ∧ M + mixes m ≤ 2 ^ 50 ∧ mixes m ≤ 2 ^ 50 := fun m h1 h2 M hM H' pu hP' => by
      have e := mx m h1 h2
      exact ⟨h1, log_small h1 (by omega), hP', by omega, by omega⟩
    refine ⟨_, rfl, a, ns, rfl, hS, fun q0 pu H1 s1 npu nq0 nqp hq0 P1 => ⟨q0, rfl, ⟨_, SqL.of hq0⟩, ?_⟩⟩
    refine for_it (n := 1) (walk_list (K := K) (a := q0) (xs := [V.ref pu])) (fun i σ G => G q0 = some (.lst [V.ref pu]) ∧ (i = 0 → G = H1) ∧ ∃ v1 v2 v3 v4 v5 v6 v7 v8, σ = [some (.ref a), v1, v2, v3, v4, v5, v6, v7, v8])
      ⟨hq0, fun _ => rfl, _, _, _, _, _, _, _, _, rfl⟩ (fun i σ G _ hh => SqL.of hh.1) ?_ ?_
    · rintro i x σ G G' hi ⟨hq, eG, v1, v2, v3, v4, v5, v6, v7, v8, rfl⟩ ⟨rfl, hv⟩
      obtain rfl : i = 0 := by omega
      obtain rfl := eG rfl
      cases hv
      refine ⟨4, rfl, by decide, by decide, ?_⟩
      refine for_it (n := 4) (walk_range (lo := 0) (n := 4)) (fun i σ G => But pu G' G ∧ (∃ M, Purse G pu M ∧ M ≤ 1000 * i) ∧ ∃ v2 v3 v4 v5 v6, σ = [some (.ref a), some (.ref pu), v2, v3, v4, v5, v6, v7, v8])
        ⟨But.refl _ _, ⟨_, P1, Nat.le_refl _⟩, _, _, _, _, _, rfl⟩ (fun i σ G _ _ => trivial) ?_ ?_
      · rintro i x σ G G2 hi ⟨b2, ⟨M, P2, lM⟩, v2, v3, v4, v5, v6, rfl⟩ ⟨rfl, rfl⟩
        obtain ⟨d1, d2_, d3, d4, d5⟩ := dr 3 (by decide) (by decide) M (by omega) _ _ P2
        refine ⟨_, rfl, _, rfl, pu, 3, M, rfl, d1, d2_, d3, d4, d5, fun r1 G3 r10 r11 b3 P3 => ?_⟩
        rw [mx 3 (by decide) (by decide)] at P3
        obtain ⟨r1, rfl⟩ : ∃ q : Nat, r1 = (q : Int) := ⟨r1.toNat, by omega⟩
        refine ⟨_, _, rfl, rfl, pu, 2 + r1, M + 1, by
          show [V.ref pu, V.int (2 + (r1 : Int))] = [V.ref pu, V.int ((2 + r1 : Nat) : Int)]
          rw [show (2 : Int) + (r1 : Int) = ((2 + r1 : Nat) : Int) by omega], by omega, P3, by omega, fun p ps G4 b4 P4 np hp lp ap p30 => ?_⟩
        have npp : p ≠ pu := fresh_ne P3 np
        obtain ⟨d1, d2_, d3, d4, d5⟩ := dr 6 (by decide) (by decide) (M + 11) (by omega) _ _ P4
        refine ⟨_, rfl, _, rfl, pu, 6, M + 11, rfl, d1, d2_, d3, d4, d5, fun r2 G5 r20 r21 b5 P5 => ?_⟩
        rw [mx 6 (by decide) (by decide)] at P5
        obtain ⟨r2, rfl⟩ : ∃ q : Nat, r2 = (q : Int) := ⟨r2.toNat, by omega⟩
        refine ⟨_, _, rfl, rfl, _, rfl, pu, p, 1 + r2, M + 12, ps, by
          show [V.ref pu, V.int (1 + (r2 : Int)), V.ref p] = [V.ref pu, V.int ((1 + r2 : Nat) : Int), V.ref p]
          rw [show (1 : Int) + (r2 : Int) = ((1 + r2 : Nat) : Int) by omega], by omega, P5, by omega, npp, b5 _ _ npp hp, by omega, by omega, ap, fun q ds G6 b6 P6 nq hL hG lds hps bd => ?_⟩
        have bd9 : Bd ds := fun d hd => Nat.le_trans (bd d hd) (by decide)
        have hp6 := b6 _ _ npp (b5 _ _ npp hp)
        have lpg : (pgs ds).length ≤ ps.length := List.Nodup.length_le_of_subset (pgs_nd ds) fun x m => by
          obtain ⟨d, hd, hx⟩ := pgs_mem.mp m
          exact hps d hd x hx
        have dne : ds ≠ [] := fun z => by
          rw [z] at lds
          have : 0 = 1 + r2 := lds
          omega
        refine ⟨_, rfl, _, rfl, pu, q, ds, _, rfl, P6, by omega, hL, hG, by omega, fun qm m1 G7 b7 P7 nqm hm mk1 rt1 => ?_⟩
        have hL7 : LogAt (off G7 pu) q ds := hL.same (but_off b7)
        refine ⟨_, rfl, q, 0, ds, rfl, hL7.same (off_le _ _), hG, fun w2_ G8 s8 nw2 hw2 => ⟨(by show 2 ≤ sizeLine; omega), fun Lm hLm => ⟨Lm, rfl, ⟨_, SqL.of upd_same⟩, ?_⟩⟩⟩
        have s9 := Same.updf (o := .lst [V.ref qm, V.ref w2_]) hLm
        have s89 := s8.trans s9
        have hLm9 : upd G8 Lm (.lst [V.ref qm, V.ref w2_]) Lm = some (.lst [V.ref qm, V.ref w2_]) := upd_same
        have P9 := P7.same s89
        have nqmp : qm ≠ pu := fresh_ne P6 nqm
        have nw2p : w2_ ≠ pu := fresh_ne P7 nw2
        have nLmp : Lm ≠ pu := fresh_ne (P7.same s8) hLm
        have mws : ∀ y ∈ [V.ref qm, V.ref w2_], ∃ b m, y = V.ref b ∧ b ≠ pu ∧ MkAt (upd G8 Lm (.lst [V.ref qm, V.ref w2_])) b (pgs ds) m ∧ Mk ds m ∧ Rt ds m := fun y my => by
          rcases List.mem_cons.mp my with rfl | my
          · exact ⟨qm, m1, rfl, nqmp, s89 _ _ hm, mk1, rt1⟩
          · rw [List.mem_singleton.mp my]
            exact ⟨w2_, _, rfl, nw2p, s9 _ _ hw2, mkAt_mk _ _, mkAt_rt hG (by decide)⟩
        have b69 : But pu G2 (upd G8 Lm (.lst [V.ref qm, V.ref w2_])) := ((b3.trans b4).trans (b5.trans b6)).trans (b7.trans (But.of s89))
        have hL9 : LogAt (off (upd G8 Lm (.lst [V.ref qm, V.ref w2_])) pu) q ds := hL7.same (off_same pu s89)
        have hp9 := (But.of s89 : But pu _ _) _ _ npp (b7 _ _ npp hp6)
        clear s8 s9 s89 hm hw2
        generalize upd G8 Lm (.lst [V.ref qm, V.ref w2_]) = G9 at *
        refine for_it (walk_list (K := K) (a := Lm) (xs := [V.ref qm, V.ref w2_])) (fun j σ G => But pu G9 G ∧ (∃ M', Purse G pu M' ∧ M' ≤ M + 12 + 100 * (1 + r2) + 30 + 100 * j) ∧ ∃ v5 v6, σ = [some (.ref a), some (.ref pu), some (.int (0 + (i : Int))), some (.ref p), some (.ref q), v5, v6, v7, v8])
          ⟨But.refl _ _, ⟨_, P9, by omega⟩, _, _, rfl⟩ (fun j σ G _ hh => SqL.of (hh.1 _ _ nLmp hLm9)) ?_ ?_
        · rintro j y σ G10 G11 hj ⟨b11, ⟨M2, P11, lM2⟩, v5', v6', rfl⟩ ⟨rfl, hv2⟩
          obtain ⟨b, m, rfl, nb, hb9, mk, rt⟩ := mws y (List.mem_of_getElem? hv2)
          have hj' : j < 2 := hj
          refine ⟨3, rfl, by decide, by decide, ?_⟩
          refine for_it (n := 3) (walk_range (lo := 0) (n := 3)) (fun l σ G => But pu G9 G ∧ (∃ M', Purse G pu M' ∧ M' ≤ M2 + 20 * l) ∧ ∃ v6, σ = [some (.ref a), some (.ref pu), some (.int (0 + (i : Int))), some (.ref p), some (.ref q), some (.ref b), v6, v7, v8])
            ⟨b11, ⟨_, P11, Nat.le_refl _⟩, _, rfl⟩ (fun l σ G _ _ => trivial) ?_ ?_
          · rintro l y σ G12 G13 hl ⟨b13, ⟨M3, P13, lM3⟩, v6'', rfl⟩ ⟨rfl, rfl⟩
            have hL13 := hL9.same (but_off b13)
            have hb13 : MkAt G13 b (pgs ds) m := b13 _ _ nb hb9
            refine ⟨_, rfl, _, rfl, q, b, ds, pgs ds, m, rfl, hL13.same (off_le _ _), hG, bd9, hb13, List.Perm.refl _, rt, fun G14 s14 => ⟨_, rfl, ?_⟩⟩
            have b14 : But pu G9 G14 := b13.trans (But.of s14)
            by_cases hr0 : rg ds m = []
            · rw [hr0]
              refine iteT ⟨_, rfl, _, rfl, _, rfl, _, rfl, _, rfl, _, rfl, pu, q, p, M3, ds, ps, rfl, P13.same s14, by omega, hL13.same (off_same pu s14), dne, hG, bd, npp, b14 _ _ npp hp9, by omega, by omega, ap, fun x d G15 b15 P15 hx okd lt hsub d110 => ?_⟩
              have hG2 : Lg (ds ++ [d]) := by
                refine ⟨fun e he => ?_, List.pairwise_append.mpr ⟨hG.asc, List.pairwise_singleton _ _, fun e he f hf => by rw [List.mem_singleton.mp hf]; exact lt e he⟩, ?_, ?_⟩
                · rcases List.mem_append.mp he with he | he
                  · exact hG.ok e he
                  · rw [List.mem_singleton.mp he]
                    exact okd
                · rw [List.length_append, List.length_singleton]
                  omega
                · have : (pgs (ds ++ [d])).length ≤ ps.length := (pgs_nd _).length_le_of_subset fun y hy => by
                    obtain ⟨e, he, h⟩ := pgs_mem.mp hy
                    rcases List.mem_append.mp he with he | he
                    · exact hps e he y h
                    · rw [List.mem_singleton.mp he] at h
                      exact hsub y h
                  omega
              have b9F := b14.trans b15
              refine ⟨.ref pu, q, b, x, ds, m, d, rfl, (hL9.same (but_off b9F)).same (off_le _ _), hG2, fun e he => ?_, by omega, by omega, b9F _ _ nb hb9, mk, rt, hr0, hx.same (off_le _ _), fun G16 s16 => ⟨true, rfl, iteF ⟨b9F.trans (But.of s16), ⟨_, P15.same s16, by omega⟩, _, rfl⟩⟩⟩
              rcases List.mem_append.mp he with he | he
              · exact bd9 e he
              · rw [List.mem_singleton.mp he]
                exact Nat.le_trans d110 (by decide)
            · have e1 : (!(rg ds m).isEmpty) = true := by
                cases h : rg ds m with
                | nil => exact absurd h hr0
                | cons u v => rfl
              rw [e1]
              exact iteF (iteF ⟨b14, ⟨_, P13.same s14, by omega⟩, _, rfl⟩)
          · rintro σ G12 ⟨b12, ⟨M3, P12, lM3⟩, v6'', rfl⟩
            exact ⟨b12, ⟨_, P12, by omega⟩, _, _, rfl⟩
        · rintro σ G10 ⟨b10, ⟨M2, P10, lM2⟩, v5', v6', rfl⟩
          have l2 : [V.ref qm, V.ref w2_].length = 2 := rfl
          exact ⟨b2.trans (b69.trans b10), ⟨_, P10, by omega⟩, _, _, _, _, _, rfl⟩
      · rintro σ G ⟨bG, ⟨M, PG, lM⟩, v2, v3, v4, v5, v6, rfl⟩
        have hqG := bG _ _ nqp.symm hq
        refine ⟨(by show 2 ≤ sizeLine; omega), fun R1 hR1 => ⟨(by show 1 ≤ sizeLine; omega), fun W1 hW1 => ⟨(by show 4 ≤ sizeLine; omega), fun T1 hT1 => ?_⟩⟩⟩
        obtain ⟨u1, x1⟩ := lit (n := 1) (p := 2) (i := 1) (j := 2) rfl rfl hR1 hW1 hT1
        generalize upd (upd (upd G R1 (.lst [V.int 2, V.int 3])) W1 (.tup [V.str "mix"])) T1 (.tup [V.int 1, V.int 2, V.ref R1, V.ref W1]) = G1 at *
        refine ⟨(by show 2 ≤ sizeLine; omega), fun R2 hR2 => ⟨(by show 1 ≤ sizeLine; omega), fun W2 hW2 => ⟨(by show 4 ≤ sizeLine; omega), fun T2 hT2 => ?_⟩⟩⟩
        obtain ⟨u2, x2⟩ := lit (n := 2) (p := 3) (i := 2) (j := 3) rfl rfl hR2 hW2 hT2
        generalize upd (upd (upd G1 R2 (.lst [V.int 2, V.int 3])) W2 (.tup [V.str "mix"])) T2 (.tup [V.int 2, V.int 3, V.ref R2, V.ref W2]) = G2 at *
        refine ⟨(by show 2 ≤ sizeLine; omega), fun B hB => ?_⟩
        have u3 := Same.updf (o := .lst [V.ref T1, V.ref T2]) hB
        have hLB : LogAt (upd G2 B (.lst [V.ref T1, V.ref T2])) B d2 := ⟨[V.ref T1, V.ref T2], upd_same, rfl, fun i y e h1 h2 => by
          match i, h1, h2 with
          | 0, h1, h2 =>
            cases h1
            cases h2
            exact x1.same (u2.trans u3)
          | 1, h1, h2 =>
            cases h1
            cases h2
            exact x2.same u3⟩
        have sGB := u1.trans (u2.trans u3)
        clear x1 x2 hR1 hW1 hT1 hR2 hW2 hT2
        generalize upd G2 B (.lst [V.ref T1, V.ref T2]) = G3 at *
        have hqB := sGB _ _ hqG
        refine fun a1 ha1 => ⟨upd_same, [(ky 2, .int ((0 : Nat) : Int)), (ky 3, .int ((0 : Nat) : Int))], rfl, (by decide), ?_⟩
        obtain ⟨t1, m1⟩ := disp_two (u := 0) (v := 0) ha1
        generalize upd (upd G3 a1 (.dK [])) a1 (.dK (mergeK [] [(ky 2, .int ((0 : Nat) : Int)), (ky 3, .int ((0 : Nat) : Int))])) = G4 at *
        refine fun a2 ha2 => ⟨upd_same, [(ky 2, .int ((1 : Nat) : Int)), (ky 3, .int ((0 : Nat) : Int))], rfl, (by decide), ?_⟩
        obtain ⟨t2, n2⟩ := disp_two (u := 1) (v := 0) ha2
        generalize upd (upd G4 a2 (.dK [])) a2 (.dK (mergeK [] [(ky 2, .int ((1 : Nat) : Int)), (ky 3, .int ((0 : Nat) : Int))])) = G5 at *
        refine fun a3 ha3 => ⟨upd_same, [(ky 2, .int ((1 : Nat) : Int)), (ky 3, .int ((2 : Nat) : Int))], rfl, (by decide), ?_⟩
        obtain ⟨t3, n3⟩ := disp_two (u := 1) (v := 2) ha3
        generalize upd (upd G5 a3 (.dK [])) a3 (.dK (mergeK [] [(ky 2, .int ((1 : Nat) : Int)), (ky 3, .int ((2 : Nat) : Int))])) = G6 at *
        refine ⟨(by show 3 ≤ sizeLine; omega), fun TT hTT => ⟨TT, rfl, ⟨_, SqT.of upd_same⟩, ?_⟩⟩
        have t4 := Same.updf (o := .tup [V.ref a1, V.ref a2, V.ref a3]) hTT
        have hTT7 : upd G6 TT (.tup [V.ref a1, V.ref a2, V.ref a3]) TT = some (.tup [V.ref a1, V.ref a2, V.ref a3]) := upd_same
        have mws : ∀ y ∈ [V.ref a1, V.ref a2, V.ref a3], ∃ b u v, y = V.ref b ∧ MkAt (upd G6 TT (.tup [V.ref a1, V.ref a2, V.ref a3])) b [2, 3] (m2 u v) ∧ (u = 0 ∧ v = 0 ∨ u = 1 ∧ v = 0 ∨ u = 1 ∧ v = 2) := fun y my => by
          rcases List.mem_cons.mp my with rfl | my
          · exact ⟨a1, 0, 0, rfl, (t2.trans (t3.trans t4)) _ _ m1, .inl ⟨rfl, rfl⟩⟩
          · rcases List.mem_cons.mp my with rfl | my
            · exact ⟨a2, 1, 0, rfl, (t3.trans t4) _ _ n2, .inr (.inl ⟨rfl, rfl⟩)⟩
            · rw [List.mem_singleton.mp my]
              exact ⟨a3, 1, 2, rfl, t4 _ _ n3, .inr (.inr ⟨rfl, rfl⟩)⟩
        have s37 := (t1.trans t2).trans (t3.trans t4)
        have hq7 := s37 _ _ hqB
        have hL7 := hLB.same s37
        clear t1 t2 t3 t4 m1 n2 n3
        generalize upd G6 TT (.tup [V.ref a1, V.ref a2, V.ref a3]) = G7 at *
        refine for_it (n := 3) (walk_tup (K := K) (a := TT) (xs := [V.ref a1, V.ref a2, V.ref a3])) (fun i σ G => Same G7 G ∧ ∃ v5 v8, σ = [some (.ref a), some (.ref pu), v2, v3, v4, v5, v6, some (.ref B), v8])
          ⟨Same.refl _, _, _, rfl⟩ (fun i σ G _ hh => SqT.of (hh.1 _ _ hTT7)) ?_ ?_
        · rintro i y σ G8 G9 hi ⟨s8, v5', v8', rfl⟩ ⟨rfl, hv2⟩
          obtain ⟨b, u, v, rfl, hb7, huv⟩ := mws y (List.mem_of_getElem? hv2)
          have hb9 := s8 _ _ hb7
          have hL9 := hL7.same s8
          refine ⟨(by show 2 ≤ sizeLine; omega), fun T5 hT5 => ⟨T5, rfl, ⟨_, SqT.of upd_same⟩, ?_⟩⟩
          have t5 := Same.updf (o := .tup [V.int 2, V.int 3]) hT5
          have hT55 : upd G9 T5 (.tup [V.int 2, V.int 3]) T5 = some (.tup [V.int 2, V.int 3]) := upd_same
          refine for_it (n := 2) (walk_tup (K := K) (a := T5) (xs := [V.int 2, V.int 3])) (fun j σ G => Same (upd G9 T5 (.tup [V.int 2, V.int 3])) G ∧ ∃ v8, σ = [some (.ref a), some (.ref pu), v2, v3, v4, some (.ref b), v6, some (.ref B), v8])
            ⟨Same.refl _, _, rfl⟩ (fun i σ G _ hh => SqT.of (hh.1 _ _ hT55)) ?_ ?_
          · rintro j y σ G10 G11 hj ⟨s10, v8'', rfl⟩ ⟨rfl, hv3⟩
            obtain ⟨kk, hk, rfl⟩ : ∃ kk : Nat, kk ∈ [2, 3] ∧ y = V.int (kk : Int) := by
              have my := List.mem_of_getElem? hv3
              rcases List.mem_cons.mp my with rfl | my
              · exact ⟨2, by decide, rfl⟩
              · rw [List.mem_singleton.mp my]
                exact ⟨3, by decide, rfl⟩
            have s911 := t5.trans s10
            refine ⟨_, rfl, _, rfl, _, rfl, _, rfl, (by show 2 ≤ sizeLine; omega), fun R4 hR4 => ⟨(by show 1 ≤ sizeLine; omega), fun W4 hW4 => ⟨(by show 4 ≤ sizeLine; omega), fun T4 hT4 => ?_⟩⟩⟩
            obtain ⟨u4, x4⟩ := lit (n := 3) (p := kk) (i := 3) (j := (kk : Int)) rfl rfl hR4 hW4 hT4
            generalize upd (upd (upd G11 R4 (.lst [V.int 2, V.int 3])) W4 (.tup [V.str "mix"])) T4 (.tup [V.int 3, V.int (kk : Int), V.ref R4, V.ref W4]) = G12 at *
            have s912 := s911.trans u4
            refine ⟨.ref pu, B, b, .ref T4, d2, m2 u v, dm 3 kk, rfl, hL9.same s912, lg3 hk, fun d hd => ?_, (by decide), by rw [pgs2]; decide, by rw [pgs2]; exact s912 _ _ hb9, mk2 (by omega) (by omega), rt2 huv, rg2 _, x4, fun G13 s13 => ⟨true, rfl, iteF ⟨s10.trans (u4.trans s13), _, rfl⟩⟩⟩
            rcases List.mem_append.mp hd with hd | hd
            · rcases List.mem_cons.mp hd with rfl | hd
              · show 1 ≤ 1000000000
                decide
              · rw [List.mem_singleton.mp hd]
                show 2 ≤ 1000000000
                decide
            · rw [List.mem_singleton.mp hd]
              show 3 ≤ 1000000000
              decide
          · rintro σ G10 ⟨s10, v8'', rfl⟩
            exact ⟨s8.trans (t5.trans s10), _, _, rfl⟩
        · rintro σ G8 ⟨s8, v5', v8', rfl⟩
          exact ⟨s8 _ _ hq7, fun z => absurd z (by decide), _, _, _, _, _, _, _, _, rfl⟩
    · rintro σ G ⟨hq, eG, v1, v2, v3, v4, v5, v6, v7, v8, rfl⟩
      have nl : ∀ (G : Hp) (q : Addr), G q = some (.lst []) → LogAt G q [] := fun G q h => ⟨[], h, rfl, fun i x d e => by simp at e⟩
      have r0 : Rt [] fun _ => 0 := rfl
      have eg : ahG [] [] (fun _ => 0) dz = [] := by
        unfold ahG
        rw [rgz]
        rfl
      refine ⟨Nat.zero_le _, fun E1 hE1 => fun d1 hd1 => ⟨(by show 2 ≤ sizeLine; omega), fun R1 hR1 => ⟨Nat.zero_le _, fun W1 hW1 => ⟨(by show 4 ≤ sizeLine; omega), fun T1 hT1 => ?_⟩⟩⟩⟩
      have g1 := Same.updf (o := .dK []) hd1
      obtain ⟨u1, x1⟩ := lit0 hR1 hW1 hT1
      have hE1' := u1 _ _ (g1 _ _ (upd_same (H := G) (a := E1) (o := .lst [])))
      have hd1' := u1 _ _ (upd_same (H := upd G E1 (.lst [])) (a := d1) (o := .dK []))
      refine ⟨E1, d1, .ref T1, [], [], fun _ => 0, dz, rfl, nl _ _ hE1', lgz, hd1', List.Perm.refl _, nil_mk _, r0, rg_nil _, x1, fun F1 f1 => ?_⟩
      rw [rgz]
      clear u1 x1 hE1' hd1'
      refine ⟨Nat.zero_le _, fun E2 hE2 => fun d2' hd2 => ⟨(by show 2 ≤ sizeLine; omega), fun R2 hR2 => ⟨Nat.zero_le _, fun W2 hW2 => ⟨(by show 4 ≤ sizeLine; omega), fun T2 hT2 => ?_⟩⟩⟩⟩
      have g2 := Same.updf (o := .dK []) hd2
      obtain ⟨u2, x2⟩ := lit0 hR2 hW2 hT2
      have hE2' := u2 _ _ (g2 _ _ (upd_same (H := F1) (a := E2) (o := .lst [])))
      have hd2' := u2 _ _ (upd_same (H := upd F1 E2 (.lst [])) (a := d2') (o := .dK []))
      refine ⟨E2, d2', .ref T2, [], [], fun _ => 0, dz, rfl, nl _ _ hE2', lgz, hd2', List.Perm.refl _, nil_mk _, r0, rg_nil _, x2, fun A1 ys F2 f2 nA1 hA1 pA1 => ⟨(by show 2 ≤ sizeLine; omega), fun A7 hA7 => ?_⟩⟩
      rw [eg] at pA1
      cases pA1
      have f3 := Same.updf (o := .lst [V.bl (!([] : List Nat).isEmpty), V.ref A1]) hA7
      refine ⟨Nat.zero_le _, fun d4 hd4 => ⟨(by show 2 ≤ sizeLine; omega), fun A8 hA8 => ?_⟩⟩
      have f5 := Same.updf (o := .lst []) hd4
      have f6 := Same.updf (o := .lst [V.bl false, V.ref d4]) hA8
      have nl2 : ∀ (J : Hp) (q : Addr), J q = some (.lst []) → TD J 7 (.ref q) (.list []) := fun J q h => td_le (TD.lst (n := 0) h rfl (by simp) td_nil) 6
      refine ⟨.ref A7, .ref A8, .list [.bool false, .list []], rfl, ?_, ?_, fun F9 f9 => k F9⟩
      · exact TD.lst ((f5.trans f6) _ _ upd_same) rfl (by simp) (td_cons (TD.flat (.bl _)) (td_cons (nl2 _ _ ((f3.trans (f5.trans f6)) _ _ hA1)) td_nil))
      · exact TD.lst upd_same rfl (by simp) (td_cons (TD.flat (.bl _)) (td_cons (nl2 _ _ (f6 _ _ upd_same)) td_nil))
end
end K27
set_option Elab.async false
set_option linter.all false
set_option maxRecDepth 100000
set_option maxHeartbeats 16000000
/-! The end. -/
namespace K27
open PySem PySem.Spec PyProof.Rows L2 KB
section
variable {P : Program} {w : World} {K : PySem.W.Frag} {h : Heap} {mg : Str → Option Value} {base : Heap}
theorem facM (c : He.SaysD fa fn K) {f : He.Fa} (hf : f ∈ fa) : f.ok K = true := by
  have c1 := (He.ba (show ((fa.all fun f => f.ok K) && fn.all fun d => d.ok K) = true from congrArg (fun z : He.AlD => z.1) c)).1
  exact List.all_eq_true.mp c1 f hf
theorem facts {f : Addr} (X : K.In h) (G : h.Ns mainGlobals mg) (hfa : mg ("law" : Str) = some (.ref f)) (c : He.SaysD fa fn K) (ex : exB K = true) :
    ∃ fd : FuncData, (∀ (s : Shared) (v : Value), BindsTo s fd ⟨[v], []⟩ [("_law_script", v)]) ∧ ∀ base : Heap, K.In base → base.Ns mainGlobals mg → FnOk P w K mg base CX0 14 f fd ["_law_script"] (spLaw K) := by
  obtain ⟨d_is_whole_number, F_is_whole_number⟩ := c.def_ 0 (d := dT 9 "is_whole_number") rfl
  obtain ⟨d_is_count, F_is_count⟩ := c.def_ 1 (d := dT 10 "is_count") rfl
  obtain ⟨d_is_tuple_of, F_is_tuple_of⟩ := c.def_ 2 (d := dT 11 "is_tuple_of") rfl
  obtain ⟨d_ascends, F_ascends⟩ := c.def_ 3 (d := dT 12 "ascends") rfl
  obtain ⟨d_are_ascending_counts, F_are_ascending_counts⟩ := c.def_ 4 (d := dT 13 "are_ascending_counts") rfl
  obtain ⟨d_is_word, F_is_word⟩ := c.def_ 5 (d := dT 14 "is_word") rfl
  obtain ⟨d_are_words, F_are_words⟩ := c.def_ 6 (d := dT 16 "are_words") rfl
  obtain ⟨d_is_deed, F_is_deed⟩ := c.def_ 7 (d := dT 17 "is_deed") rfl
  obtain ⟨d_are_deeds, F_are_deeds⟩ := c.def_ 8 (d := dT 18 "are_deeds") rfl
  obtain ⟨d_need_deeds, F_need_deeds⟩ := c.def_ 9 (d := dT 19 "need_deeds") rfl
  obtain ⟨d_pages_of, F_pages_of⟩ := c.def_ 10 (d := dT 20 "pages_of") rfl
  obtain ⟨d_numbers_by_pages, F_numbers_by_pages⟩ := c.def_ 11 (d := dT 21 "numbers_by_pages") rfl
  obtain ⟨d_newest_stamps, F_newest_stamps⟩ := c.def_ 12 (d := dT 22 "newest_stamps") rfl
  obtain ⟨d_are_stamps, F_are_stamps⟩ := c.def_ 13 (d := dT 23 "are_stamps") rfl
  obtain ⟨d_need_stamps, F_need_stamps⟩ := c.def_ 14 (d := dT 24 "need_stamps") rfl
  obtain ⟨d_wrong_reads, F_wrong_reads⟩ := c.def_ 15 (d := dT 25 "wrong_reads") rfl
  obtain ⟨d_are_right, F_are_right⟩ := c.def_ 16 (d := dT 26 "are_right") rfl
  obtain ⟨d_need_right_stamps, F_need_right_stamps⟩ := c.def_ 17 (d := dT 28 "need_right_stamps") rfl
  obtain ⟨d_all_waits, F_all_waits⟩ := c.def_ 18 (d := dT 29 "all_waits") rfl
  obtain ⟨d_off_pages, F_off_pages⟩ := c.def_ 19 (d := dT 30 "off_pages") rfl
  obtain ⟨d_waited_for, F_waited_for⟩ := c.def_ 20 (d := dT 31 "waited_for") rfl
  obtain ⟨d_layers_of, F_layers_of⟩ := c.def_ 21 (d := dT 32 "layers_of") rfl
  obtain ⟨d_ring_of, F_ring_of⟩ := c.def_ 22 (d := dT 33 "ring_of") rfl
  obtain ⟨d_next_within, F_next_within⟩ := c.def_ 23 (d := dT 34 "next_within") rfl
  obtain ⟨d_need_no_ring, F_need_no_ring⟩ := c.def_ 24 (d := dT 35 "need_no_ring") rfl
  obtain ⟨d_need_next_deed, F_need_next_deed⟩ := c.def_ 25 (d := dT 36 "need_next_deed") rfl
  obtain ⟨d_need_closable, F_need_closable⟩ := c.def_ 26 (d := dT 37 "need_closable") rfl
  obtain ⟨d_has_ring_with, F_has_ring_with⟩ := c.def_ 27 (d := dT 38 "has_ring_with") rfl
  obtain ⟨d_closes_ring, F_closes_ring⟩ := c.def_ 28 (d := dT 39 "closes_ring") rfl
  obtain ⟨d_led_to, F_led_to⟩ := c.def_ 29 (d := dT 40 "led_to") rfl
  obtain ⟨d_ahead_of, F_ahead_of⟩ := c.def_ 30 (d := dT 41 "ahead_of") rfl
  obtain ⟨d_purse, F_purse⟩ := c.def_ 31 (d := dT 43 "_law_purse") rfl
  obtain ⟨d_mixed, F_mixed⟩ := c.def_ 32 (d := dT 44 "_law_mixed") rfl
  obtain ⟨d_draw, F_draw⟩ := c.def_ 33 (d := dT 45 "_law_draw") rfl
  obtain ⟨d_purses, F_purses⟩ := c.def_ 34 (d := dT 46 "_law_purses") rfl
  obtain ⟨d_one_of, F_one_of⟩ := c.def_ 35 (d := dT 47 "_law_one_of") rfl
  obtain ⟨d_same, F_same⟩ := c.def_ 36 (d := dT 48 "_law_same") rfl
  obtain ⟨d_exact, F_exact⟩ := c.def_ 37 (d := dT 49 "_law_exact") rfl
  obtain ⟨d_word, F_word⟩ := c.def_ 38 (d := dT 50 "_law_word") rfl
  obtain ⟨d_words, F_words⟩ := c.def_ 39 (d := dT 51 "_law_words") rfl
  obtain ⟨d_lists, F_lists⟩ := c.def_ 40 (d := dT 52 "_law_lists") rfl
  obtain ⟨d_speech, F_speech⟩ := c.def_ 41 (d := dT 53 "_law_speech") rfl
  obtain ⟨d_log, F_log⟩ := c.def_ 42 (d := dT 54 "_law_log") rfl
  obtain ⟨d_sheets, F_sheets⟩ := c.def_ 43 (d := dT 55 "_law_sheets") rfl
  obtain ⟨d_of_pages, F_of_pages⟩ := c.def_ 44 (d := dT 56 "_law_of_pages") rfl
  obtain ⟨d_marks_at, F_marks_at⟩ := c.def_ 45 (d := dT 57 "_law_marks_at") rfl
  obtain ⟨d_marks, F_marks⟩ := c.def_ 46 (d := dT 58 "_law_marks") rfl
  obtain ⟨d_too_new, F_too_new⟩ := c.def_ 47 (d := dT 59 "_law_too_new") rfl
  obtain ⟨d_drawn_marks, F_drawn_marks⟩ := c.def_ 48 (d := dT 60 "_law_drawn_marks") rfl
  obtain ⟨d_right_marks, F_right_marks⟩ := c.def_ 49 (d := dT 61 "_law_right_marks") rfl
  obtain ⟨d_waiting, F_waiting⟩ := c.def_ 50 (d := dT 62 "_law_waiting") rfl
  obtain ⟨d_written, F_written⟩ := c.def_ 51 (d := dT 63 "_law_written") rfl
  obtain ⟨d_behind, F_behind⟩ := c.def_ 52 (d := dT 64 "_law_behind") rfl
  obtain ⟨d_may_go, F_may_go⟩ := c.def_ 53 (d := dT 65 "_law_may_go") rfl
  obtain ⟨d_layered, F_layered⟩ := c.def_ 54 (d := dT 66 "_law_layered") rfl
  obtain ⟨d_pairs_waiting, F_pairs_waiting⟩ := c.def_ 55 (d := dT 67 "_law_pairs_waiting") rfl
  obtain ⟨d_with, F_with⟩ := c.def_ 56 (d := dT 68 "_law_with") rfl
  obtain ⟨d_is_stuck, F_is_stuck⟩ := c.def_ 57 (d := dT 69 "_law_is_stuck") rfl
  obtain ⟨d_next_deed, F_next_deed⟩ := c.def_ 58 (d := dT 70 "_law_next_deed") rfl
  obtain ⟨d_up, F_up⟩ := c.def_ 59 (d := dT 71 "_law_up") rfl
  obtain ⟨d_ahead_due, F_ahead_due⟩ := c.def_ 60 (d := dT 72 "_law_ahead_due") rfl
  obtain ⟨d_closing_right, F_closing_right⟩ := c.def_ 61 (d := dT 73 "_law_closing_right") rfl
  obtain ⟨d_law, F_law⟩ := c.def_ 62 (d := dT 74 "law") rfl
  have el : ∀ {α : Type} {l : List α} {i : Nat} {a : α}, l[i]? = some a → a ∈ l := fun h => List.mem_of_getElem? h
  have gl : ∀ {x : Str}, He.Fa.glo x ∈ fa0 → mg x = some (.ref (He.ga K x)) := fun {x} hx => He.glo_ok X G (facM c (List.mem_append_left _ hx))
  have fr : ∀ {x : Str}, He.Fa.free x ∈ fa1 → mg x = none := fun {x} hx => He.free_ok X G (facM c (List.mem_append_right _ (List.mem_append_left _ hx)))
  have f2 : ∀ {y : He.Fa}, y ∈ fa2 → y.ok K = true := fun {y} hx => facM c (List.mem_append_right _ (List.mem_append_right _ hx))
  have Z : FreeS mg := ⟨⟨fr (el (i := 0) rfl), fr (el (i := 1) rfl), fr (el (i := 2) rfl), fr (el (i := 3) rfl), fr (el (i := 4) rfl), fr (el (i := 5) rfl), fr (el (i := 6) rfl), fr (el (i := 7) rfl), fr (el (i := 8) rfl), fr (el (i := 9) rfl), fr (el (i := 10) rfl), fr (el (i := 11) rfl), fr (el (i := 12) rfl), fr (el (i := 13) rfl), fr (el (i := 14) rfl), fr (el (i := 15) rfl), fr (el (i := 16) rfl), fr (el (i := 17) rfl)⟩, fr (el (i := 18) rfl), fr (el (i := 19) rfl)⟩
  have g_is_whole_number := gl (x := "is_whole_number") (el (i := 0) rfl)
  have g_is_count := gl (x := "is_count") (el (i := 1) rfl)
  have g_is_tuple_of := gl (x := "is_tuple_of") (el (i := 2) rfl)
  have g_ascends := gl (x := "ascends") (el (i := 3) rfl)
  have g_are_ascending_counts := gl (x := "are_ascending_counts") (el (i := 4) rfl)
  have g_is_word := gl (x := "is_word") (el (i := 5) rfl)
  have g_are_words := gl (x := "are_words") (el (i := 6) rfl)
  have g_is_deed := gl (x := "is_deed") (el (i := 7) rfl)
  have g_are_deeds := gl (x := "are_deeds") (el (i := 8) rfl)
  have g_need_deeds := gl (x := "need_deeds") (el (i := 9) rfl)
  have g_pages_of := gl (x := "pages_of") (el (i := 10) rfl)
  have g_numbers_by_pages := gl (x := "numbers_by_pages") (el (i := 11) rfl)
  have g_newest_stamps := gl (x := "newest_stamps") (el (i := 12) rfl)
  have g_are_stamps := gl (x := "are_stamps") (el (i := 13) rfl)
  have g_need_stamps := gl (x := "need_stamps") (el (i := 14) rfl)
  have g_wrong_reads := gl (x := "wrong_reads") (el (i := 15) rfl)
  have g_are_right := gl (x := "are_right") (el (i := 16) rfl)
  have g_need_right_stamps := gl (x := "need_right_stamps") (el (i := 17) rfl)
  have g_all_waits := gl (x := "all_waits") (el (i := 18) rfl)
  have g_off_pages := gl (x := "off_pages") (el (i := 19) rfl)
  have g_waited_for := gl (x := "waited_for") (el (i := 20) rfl)
  have g_layers_of := gl (x := "layers_of") (el (i := 21) rfl)
  have g_ring_of := gl (x := "ring_of") (el (i := 22) rfl)
  have g_next_within := gl (x := "next_within") (el (i := 23) rfl)
  have g_need_no_ring := gl (x := "need_no_ring") (el (i := 24) rfl)
  have g_need_next_deed := gl (x := "need_next_deed") (el (i := 25) rfl)
  have g_need_closable := gl (x := "need_closable") (el (i := 26) rfl)
  have g_has_ring_with := gl (x := "has_ring_with") (el (i := 27) rfl)
  have g_closes_ring := gl (x := "closes_ring") (el (i := 28) rfl)
  have g_led_to := gl (x := "led_to") (el (i := 29) rfl)
  have g_ahead_of := gl (x := "ahead_of") (el (i := 30) rfl)
  have g_purse := gl (x := "_law_purse") (el (i := 31) rfl)
  have g_mixed := gl (x := "_law_mixed") (el (i := 32) rfl)
  have g_draw := gl (x := "_law_draw") (el (i := 33) rfl)
  have g_purses := gl (x := "_law_purses") (el (i := 34) rfl)
  have g_one_of := gl (x := "_law_one_of") (el (i := 35) rfl)
  have g_same := gl (x := "_law_same") (el (i := 36) rfl)
  have g_exact := gl (x := "_law_exact") (el (i := 37) rfl)
  have g_word := gl (x := "_law_word") (el (i := 38) rfl)
  have g_words := gl (x := "_law_words") (el (i := 39) rfl)
  have g_lists := gl (x := "_law_lists") (el (i := 40) rfl)
  have g_speech := gl (x := "_law_speech") (el (i := 41) rfl)
  have g_log := gl (x := "_law_log") (el (i := 42) rfl)
  have g_sheets := gl (x := "_law_sheets") (el (i := 43) rfl)
  have g_of_pages := gl (x := "_law_of_pages") (el (i := 44) rfl)
  have g_marks_at := gl (x := "_law_marks_at") (el (i := 45) rfl)
  have g_marks := gl (x := "_law_marks") (el (i := 46) rfl)
  have g_too_new := gl (x := "_law_too_new") (el (i := 47) rfl)
  have g_drawn_marks := gl (x := "_law_drawn_marks") (el (i := 48) rfl)
  have g_right_marks := gl (x := "_law_right_marks") (el (i := 49) rfl)
  have g_waiting := gl (x := "_law_waiting") (el (i := 50) rfl)
  have g_written := gl (x := "_law_written") (el (i := 51) rfl)
  have g_behind := gl (x := "_law_behind") (el (i := 52) rfl)
  have g_may_go := gl (x := "_law_may_go") (el (i := 53) rfl)
  have g_layered := gl (x := "_law_layered") (el (i := 54) rfl)
  have g_pairs_waiting := gl (x := "_law_pairs_waiting") (el (i := 55) rfl)
  have g_with := gl (x := "_law_with") (el (i := 56) rfl)
  have g_is_stuck := gl (x := "_law_is_stuck") (el (i := 57) rfl)
  have g_next_deed := gl (x := "_law_next_deed") (el (i := 58) rfl)
  have g_up := gl (x := "_law_up") (el (i := 59) rfl)
  have g_ahead_due := gl (x := "_law_ahead_due") (el (i := 60) rfl)
  have g_closing_right := gl (x := "_law_closing_right") (el (i := 61) rfl)
  have g_law := gl (x := "law") (el (i := 62) rfl)
  have C : Cn mg := ⟨He.str_ok X G (f2 (y := .str "LETTERS" "abcdefghijklmnopqrstuvwxyz") (el (i := 0) rfl)), He.int_ok X G (f2 (y := .int "MOST_LETTERS" 8) (el (i := 1) rfl))⟩
  have e12 := hfa.symm.trans g_law
  cases e12
  have bL := FunD.bindsA (ps := ["_law_script"]) F_law fun _ _ _ _ _ _ us hl => match us, hl with | [_], _ => rfl
  refine ⟨d_law, fun s v => bL s [v] rfl, fun base _ _ => ?_⟩
  have O_is_whole_number := ok_is_whole_number (P := P) (w := w) (base := base) F_is_whole_number Z  
  have O_is_count := ok_is_count (P := P) (w := w) (base := base) F_is_count Z g_is_whole_number F_is_whole_number O_is_whole_number 
  have O_is_tuple_of := ok_is_tuple_of (P := P) (w := w) (base := base) F_is_tuple_of Z  
  have O_ascends := ok_ascends (P := P) (w := w) (base := base) F_ascends Z  
  have O_are_ascending_counts := ok_are_ascending_counts (P := P) (w := w) (base := base) F_are_ascending_counts Z g_ascends F_ascends O_ascends g_is_count F_is_count O_is_count 
  have O_is_word := ok_is_word (P := P) (w := w) (base := base) F_is_word Z  C
  have O_are_words := ok_are_words (P := P) (w := w) (base := base) F_are_words Z g_is_count F_is_count O_is_count g_is_word F_is_word O_is_word 
  have O_is_deed := ok_is_deed (P := P) (w := w) (base := base) F_is_deed Z g_is_tuple_of F_is_tuple_of O_is_tuple_of g_are_ascending_counts F_are_ascending_counts O_are_ascending_counts g_are_words F_are_words O_are_words g_is_count F_is_count O_is_count 
  have O_are_deeds := ok_are_deeds (P := P) (w := w) (base := base) F_are_deeds Z g_ascends F_ascends O_ascends g_is_deed F_is_deed O_is_deed 
  have O_need_deeds := ok_need_deeds (P := P) (w := w) (base := base) F_need_deeds Z g_are_deeds F_are_deeds O_are_deeds 
  have O_pages_of := ok_pages_of (P := P) (w := w) (base := base) F_pages_of Z  
  have O_numbers_by_pages := ok_numbers_by_pages (P := P) (w := w) (base := base) F_numbers_by_pages Z g_pages_of F_pages_of O_pages_of 
  have O_newest_stamps := ok_newest_stamps (P := P) (w := w) (base := base) F_newest_stamps Z g_numbers_by_pages F_numbers_by_pages O_numbers_by_pages 
  have O_are_stamps := ok_are_stamps (P := P) (w := w) (base := base) F_are_stamps Z g_need_deeds F_need_deeds O_need_deeds g_numbers_by_pages F_numbers_by_pages O_numbers_by_pages g_is_count F_is_count O_is_count 
  have O_need_stamps := ok_need_stamps (P := P) (w := w) (base := base) F_need_stamps Z g_are_stamps F_are_stamps O_are_stamps 
  have O_wrong_reads := ok_wrong_reads (P := P) (w := w) (base := base) F_wrong_reads Z  
  have O_are_right := ok_are_right (P := P) (w := w) (base := base) F_are_right Z g_need_stamps F_need_stamps O_need_stamps g_wrong_reads F_wrong_reads O_wrong_reads 
  have O_need_right_stamps := ok_need_right_stamps (P := P) (w := w) (base := base) F_need_right_stamps Z g_are_right F_are_right O_are_right 
  have O_all_waits := ok_all_waits (P := P) (w := w) (base := base) F_all_waits Z g_newest_stamps F_newest_stamps O_newest_stamps 
  have O_off_pages := ok_off_pages (P := P) (w := w) (base := base) F_off_pages Z g_newest_stamps F_newest_stamps O_newest_stamps 
  have O_waited_for := ok_waited_for (P := P) (w := w) (base := base) F_waited_for Z g_all_waits F_all_waits O_all_waits g_off_pages F_off_pages O_off_pages 
  have O_layers_of := ok_layers_of (P := P) (w := w) (base := base) F_layers_of Z  
  have O_next_within := ok_next_within (P := P) (w := w) (base := base) F_next_within Z  
  have O_ring_of := ok_ring_of (P := P) (w := w) (base := base) F_ring_of Z g_layers_of F_layers_of O_layers_of g_next_within F_next_within O_next_within 
  have O_need_no_ring := ok_need_no_ring (P := P) (w := w) (base := base) F_need_no_ring Z g_ring_of F_ring_of O_ring_of g_waited_for F_waited_for O_waited_for 
  have O_need_next_deed := ok_need_next_deed (P := P) (w := w) (base := base) F_need_next_deed Z g_is_deed F_is_deed O_is_deed 
  have O_need_closable := ok_need_closable (P := P) (w := w) (base := base) F_need_closable Z g_need_right_stamps F_need_right_stamps O_need_right_stamps g_need_next_deed F_need_next_deed O_need_next_deed g_need_no_ring F_need_no_ring O_need_no_ring 
  have O_has_ring_with := ok_has_ring_with (P := P) (w := w) (base := base) F_has_ring_with Z g_ring_of F_ring_of O_ring_of g_waited_for F_waited_for O_waited_for g_pages_of F_pages_of O_pages_of 
  have O_closes_ring := ok_closes_ring (P := P) (w := w) (base := base) F_closes_ring Z g_need_closable F_need_closable O_need_closable g_has_ring_with F_has_ring_with O_has_ring_with 
  have O_led_to := ok_led_to (P := P) (w := w) (base := base) F_led_to Z  
  have O_ahead_of := ok_ahead_of (P := P) (w := w) (base := base) F_ahead_of Z g_need_closable F_need_closable O_need_closable g_waited_for F_waited_for O_waited_for g_led_to F_led_to O_led_to g_has_ring_with F_has_ring_with O_has_ring_with g_layers_of F_layers_of O_layers_of 
  have O_purse := ok_purse (P := P) (w := w) (base := base) F_purse Z.toFree
  have O_draw := ok_draw (P := P) (w := w) (base := base) F_draw Z.toFree F_mixed g_mixed
  have O_purse := ok_purse (P := P) (w := w) (base := base) F_purse Z.toFree
  have O_purses := ok_purses (P := P) (w := w) (base := base) F_purses Z.toFree O_purse F_purse g_purse
  have O_one_of := ok_one (P := P) (w := w) (base := base) F_one_of Z.toFree O_draw F_draw g_draw
  have O_same := ok_same (P := P) (w := w) (base := base) F_same Z g_same
  have O_exact := ok_exact (P := P) (w := w) (base := base) F_exact Z g_exact
  have O_word := ok_word (P := P) (w := w) (base := base) F_word Z g_draw F_draw O_draw 
  have O_words := ok_words (P := P) (w := w) (base := base) F_words Z g_word F_word O_word g_draw F_draw O_draw 
  have O_lists := ok_lists (P := P) (w := w) (base := base) F_lists Z  
  have O_speech := ok_speech (P := P) (w := w) (base := base) F_speech Z g_words F_words O_words g_one_of F_one_of O_one_of g_draw F_draw O_draw 
  have O_log := ok_log (P := P) (w := w) (base := base) F_log Z g_one_of F_one_of O_one_of g_draw F_draw O_draw g_speech F_speech O_speech 
  have O_sheets := ok_sheets (P := P) (w := w) (base := base) F_sheets Z g_draw F_draw O_draw 
  have O_of_pages := ok_of_pages (P := P) (w := w) (base := base) F_of_pages Z  
  have O_marks_at := ok_marks_at (P := P) (w := w) (base := base) F_marks_at Z g_of_pages F_of_pages O_of_pages 
  have O_marks := ok_marks (P := P) (w := w) (base := base) F_marks Z g_marks_at F_marks_at O_marks_at 
  have O_too_new := ok_too_new (P := P) (w := w) (base := base) F_too_new Z  
  have O_drawn_marks := ok_drawn_marks (P := P) (w := w) (base := base) F_drawn_marks Z g_of_pages F_of_pages O_of_pages g_one_of F_one_of O_one_of 
  have O_right_marks := ok_right_marks (P := P) (w := w) (base := base) F_right_marks Z g_drawn_marks F_drawn_marks O_drawn_marks g_too_new F_too_new O_too_new g_marks_at F_marks_at O_marks_at 
  have O_waiting := ok_waiting (P := P) (w := w) (base := base) F_waiting Z g_marks F_marks O_marks 
  have O_written := ok_written (P := P) (w := w) (base := base) F_written Z g_marks F_marks O_marks 
  have O_behind := ok_behind (P := P) (w := w) (base := base) F_behind Z g_marks F_marks O_marks 
  have O_may_go := ok_may_go (P := P) (w := w) (base := base) F_may_go Z g_behind F_behind O_behind g_too_new F_too_new O_too_new g_written F_written O_written 
  have O_layered := ok_layered (P := P) (w := w) (base := base) F_layered Z g_may_go F_may_go O_may_go g_behind F_behind O_behind g_written F_written O_written 
  have O_pairs_waiting := ok_pairs_waiting (P := P) (w := w) (base := base) F_pairs_waiting Z g_waiting F_waiting O_waiting 
  have O_with := ok_with (P := P) (w := w) (base := base) F_with Z  
  have O_is_stuck := ok_is_stuck (P := P) (w := w) (base := base) F_is_stuck Z g_layered F_layered O_layered 
  have O_next_deed := ok_next_deed (P := P) (w := w) (base := base) F_next_deed Z g_one_of F_one_of O_one_of g_draw F_draw O_draw 
  have O_up := ok_up (P := P) (w := w) (base := base) F_up Z g_pairs_waiting F_pairs_waiting O_pairs_waiting 
  have O_ahead_due := ok_ahead_due (P := P) (w := w) (base := base) F_ahead_due Z g_up F_up O_up g_written F_written O_written g_may_go F_may_go O_may_go 
  have O_closing_right := ok_closing_right (P := P) (w := w) (base := base) F_closing_right Z g_is_stuck F_is_stuck O_is_stuck g_same F_same O_same g_with F_with O_with g_closes_ring F_closes_ring O_closes_ring g_ahead_of F_ahead_of O_ahead_of g_ahead_due F_ahead_due O_ahead_due g_exact F_exact O_exact g_marks F_marks O_marks g_lists F_lists O_lists g_written F_written O_written g_up F_up O_up g_too_new F_too_new O_too_new 
  exact ok_law F_law Z g_purses F_purses O_purses g_exact F_exact O_exact g_sheets F_sheets O_sheets g_log F_log O_log g_closes_ring F_closes_ring O_closes_ring g_ahead_of F_ahead_of O_ahead_of g_right_marks F_right_marks O_right_marks g_marks_at F_marks_at O_marks_at g_draw F_draw O_draw g_closing_right F_closing_right O_closing_right g_is_stuck F_is_stuck O_is_stuck g_next_deed F_next_deed O_next_deed 
end
end K27
open PySem PySem.W PySem.Calls PyProof.Rows
theorem PySem.Challenge.cw_weavestore_k27_whole_deeds_that_close_a_holds : PySem.Challenge.rw_weavestore_k27_whole_deeds_that_close_a.Holds := by
  w_on; o_law
  refine HandSHeadRun.head_any (r := OpenLaw.row PySem.Challenge.rw_weavestore_k27_whole_deeds_that_close_a) (q := view (OpenLaw.row PySem.Challenge.rw_weavestore_k27_whole_deeds_that_close_a).prog [74]) (H := K27.hk) (ob := K27.ob) (M := 20000) (loose := K27.names) (d := HandSHeadRun.topDef (OpenLaw.row PySem.Challenge.rw_weavestore_k27_whole_deeds_that_close_a).prog 74) (kwd := []) K27.ob_eq
    (by kernel_rfl) (fun s => by kernel_rfl) K27.run (by kernel_rfl) (by kernel_rfl) (by kernel_rfl) (by rfl) (by first | assumption | decide +kernel) (by decide +kernel) ⟨rfl, rfl, rfl, rfl, rfl, by decide +kernel⟩ ?hw ?hc
  case hw => w_witness2
  case hc =>
    refine L2.walk_ofE (l := PySem.Challenge.rw_weavestore_k27_whole_deeds_that_close_a) (n := 63) (k := 14) (x := "_law_script") (CX := L2.CX0) rfl (by decide) (by kernel_rfl) ⟨rfl, by decide, by decide⟩ ?F (fun _ _ _ _ h => h)
    intro w mg fa h Y G hmg0
    obtain ⟨K, KX, c, ex⟩ := Y
    have hmg : mg ("law" : PySem.Str) = some (.ref fa) := by
      have e : (HandSHeadRun.topDef (OpenLaw.row PySem.Challenge.rw_weavestore_k27_whole_deeds_that_close_a).prog 74).name = ("law" : PySem.Str) := by kernel_rfl
      rw [← e]
      exact hmg0
    obtain ⟨fd, hb, hF⟩ := K27.facts (P := (PySem.Challenge.rw_weavestore_k27_whole_deeds_that_close_a).prog) (w := w) KX G hmg c ex
    exact ⟨K, fd, K27.spLaw K, KX, hb, fun H a ns hl _ hS => ⟨a, ns, rfl, hS, fun _ => rfl⟩, hF⟩
