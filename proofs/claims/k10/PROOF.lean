import PyProof.Rows.All
import Wide.All
import OpenK.AllK
import Wide.FinOn
import KE.KStateDown
import KE.KIsAll
import HandS.Words
import HandS.Head0
import HandS.Head1
import HandS.Head2
import HandS.HeadHook1
import HandS.HeadHook2
import PySem.Challenge.RW_weavestore_k10_whole_pages_by_number
import HandS.Ends
import HandS.HeadEnd
import HandS.Exc
import HandS.Defaults
import HandS.ForMost
import HandS.Wide
import HandS.WideBits
import HandS.Walk
import HandS.IsInst
import HandS.Style
import HandS.RevRange
import HandS.Strs
import PyProof.Rows.SetFrom
import HandS.TryOnly
import HandS.OwnEq
import PyProof.InstNe
import HandS.Conv
set_option Elab.async false
set_option linter.all false
set_option maxRecDepth 100000
set_option maxHeartbeats 0
/-! What is read of the heap that the module's top leaves, and the run of it. -/
namespace K10
open PySem PySem.Spec PyProof.Rows L2
def top (i : Nat) : Stmt := PySem.Challenge.pw_weavestore_k10_whole_pages_by_number.main.body.getD i (.Pass ⟨0, 0, 0, 0⟩)
/-- the class Line by its object, its own == and no own != -/
def neB (K : PySem.W.Frag) (C f : Addr) : Bool := match K.lookup C with
  | some ⟨.type "type", _, .cls cd, sl⟩ => (match cd.mro, sl.toList with
    | [.ref C', .type n], [_, _, _, _, some (.builtin m), _] => decide (C' = C) && (decide (n = "object") && (!cd.hasDel && (PySem.W.nsOkIn K cd.ns && (decide (PySem.W.nsIn K cd.ns "__ne__" = some none) && (decide (PySem.W.nsIn K cd.ns "__eq__" = some (some (.ref f))) && PySem.W.isFn K (.ref f))))))
    | _, _ => false)
  | _ => false
/-- isinstance of a line -/
def liB (K : PySem.W.Frag) (C : Addr) : Bool := decide (PySem.W.findIn K (.ref C) "__class__" = some (some (.builtin "object.__class__"))) && (decide (PySem.W.specialIn K (.builtin "object.__class__") "__get__" = some (some (.builtin "getset_descriptor.__get__"))) &&
  (decide (PySem.W.takesIn K (.builtin "object.__class__") = some true) && decide (PySem.W.mroIn K C (.type "object") = some true)))
def exB (K : PySem.W.Frag) : Bool := neB K (He.ga K "Line") (He.ma K (He.ga K "Line") "__eq__") && liB K (He.ga K "Line")
def dT (i : Nat) (x : Str) : He.DefD := ⟨(x, none), x, x, defArgs (top i), defBody (top i), defScope (top i), [], []⟩
def dL (j : Nat) (m q : Str) : He.DefD := ⟨("Line", some m), m, q, defArgs (inClass (top 25) j), defBody (inClass (top 25) j), defScope (inClass (top 25) j), [], []⟩
def fn0 : List He.DefD := [dT 8 "is_whole_number", dT 9 "is_count", dT 10 "is_count_below", dT 11 "ascends", dT 12 "are_ascending_counts", dT 13 "are_ascending_below", dT 15 "need_count", dT 16 "need_changed_and_unread", dT 18 "inverse", dT 19 "worth_at", dT 20 "trimmed", dT 21 "added", dT 22 "multiplied"]
def fn1 : List He.DefD := [dT 26 "is_prime_of_line", dT 27 "need_line", dT 28 "digits_of", dT 29 "number_by", dT 30 "signs_by", dT 31 "need_signs_of_page", dT 32 "is_picture_of_signs", dT 33 "digits_of_page", dT 34 "digits_by_differences", dT 35 "page_of", dT 36 "number_of", dT 37 "holds", dT 38 "many_agreeing", dT 39 "agreeing", dT 40 "mixture_of"]
def fn2 : List He.DefD := [dT 42 "_law_purse", dT 43 "_law_mixed", dT 44 "_law_draw", dT 45 "_law_purses", dT 46 "_law_one_of", dT 47 "_law_exact", dT 48 "_law_line_signs", dT 49 "_law_drawn_line", dT 50 "_law_agree", dT 51 "_law_page_right", dT 52 "law"]
def fn3 : List He.DefD := [dL 0 "__init__" "Line.__init__", dL 1 "prime" "Line.prime", dL 2 "cells" "Line.cells", dL 3 "size" "Line.size", dL 4 "__eq__" "Line.__eq__"]
def fn : List He.DefD := fn0 ++ (fn1 ++ (fn2 ++ fn3))
def nm0 : List Str := ["is_whole_number", "is_count", "is_count_below", "ascends", "are_ascending_counts", "are_ascending_below", "need_count", "need_changed_and_unread", "inverse", "worth_at", "trimmed", "added", "multiplied"]
def nm1 : List Str := ["is_prime_of_line", "need_line", "digits_of", "number_by", "signs_by", "need_signs_of_page", "is_picture_of_signs", "digits_of_page", "digits_by_differences", "page_of", "number_of", "holds", "many_agreeing", "agreeing", "mixture_of"]
def nm2 : List Str := ["_law_purse", "_law_mixed", "_law_draw", "_law_purses", "_law_one_of", "_law_exact", "_law_line_signs", "_law_drawn_line", "_law_agree", "_law_page_right"]
def fa0 : List He.Fa := (nm0 ++ (nm1 ++ (nm2 ++ (["law", "Line"] : List Str)))).map He.Fa.glo
def fa1 : List He.Fa := [.free "sum", .free "int", .free "max", .free "min", .free "len", .free "range", .free "isinstance", .free "all", .free "any", .free "zip", .free "divmod", .free "reversed", .free "enumerate", .free "set", .free "list", .free "tuple", .free "dict", .free "bool"]
def fa2 : List He.Fa := [.int "GREAT_PRIME" 2305843009213693951, .int "PRIMES_END" 1000, .cls "Line", .noat "Line" "_prime", .noat "Line" "_cells", .noat "Line" "_size", .meth "Line" "prime", .meth "Line" "cells", .meth "Line" "size", .mkr "Line", .meth "Line" "__eq__"]
def fa : List He.Fa := fa0 ++ (fa1 ++ fa2)
def nm3 : List Str := ["StoreError", "InvalidCell", "InvalidPage", "InvalidLine", "InvalidCount", "GREAT_PRIME", "PRIMES_END", "Line"]
def names : List Str := nm3 ++ (nm0 ++ (nm1 ++ nm2))
abbrev R : PySem.W.OpenRow := PySem.W.OpenLaw.row PySem.Challenge.rw_weavestore_k10_whole_pages_by_number
abbrev qv : Program := PySem.W.view R.prog [52]
abbrev AlX : Type := He.AlD × Bool
def obX (K : PySem.W.Frag) : AlX := (He.obsD fa fn K, exB K)
/-- what an object of these names, one step on -/
def tgt (g : Addr → Option Obj) (a : Addr) : List Addr := match g a with
  | some o => (match o.data with
    | .cls cd => [cd.ns]
    | .func fd => He.refV fd.code ++ He.refV fd.defaults
    | .dict es _ => es.toList.flatMap fun e => He.refV e.val
    | _ => [])
  | none => []
def as1 (g : Addr → Option Obj) : List Addr := tgt g mainGlobals
def as2 (g : Addr → Option Obj) : List Addr := (as1 g).flatMap (tgt g)
def as3 (g : Addr → Option Obj) : List Addr := (as2 g).flatMap (tgt g)
def as4 (g : Addr → Option Obj) : List Addr := (as3 g).flatMap (tgt g)
def obG (g : Addr → Option Obj) : AlX := obX (He.frG g (sysModules :: mainGlobals :: (as1 g ++ (as2 g ++ (as3 g ++ as4 g)))))
def hk : PySem.W.Hook where
  α := AlX
  obs := fun s => obG s.heap.get?
  val := fun _ => (He.valD fn, true)
  says := fun _ h => ∃ K : PySem.W.Frag, K.In h ∧ He.SaysD fa fn K ∧ exB K = true
  of := fun _ _ e => ⟨_, He.frG_in, congrArg (fun z : AlX => z.1) e, congrArg (fun z : AlX => z.2) e⟩
  keeps := fun _ _ _ ⟨K, hK, c⟩ k => ⟨K, PySem.W.Frag.In.keeps hK k, c⟩
def ob (s : PySem.W.SharedT) : AlX := obG (HandSHeadRun.getT s)
theorem ob_eq (s : PySem.W.SharedT) : ob s = hk.obs s.abs := by
  have e : HandSHeadRun.getT s = s.abs.heap.get? := funext (HandSHeadRun.getT_eq s)
  show obG (HandSHeadRun.getT s) = obG s.abs.heap.get?
  rw [e]
theorem run (w : World) : HandSHeadRun.RunEq R qv hk ob 20000 names w := by
  intro os
  kernel_rfl
end K10
set_option Elab.async false
set_option linter.all false
set_option maxRecDepth 100000
set_option maxHeartbeats 4000000
/-! The draws of the law: purse, mixed, draw. -/
namespace K10
open PySem PySem.Spec PyProof.Rows L2
abbrev FnP (K : PySem.W.Frag) (x : Str) (st : Stmt) (f : Addr) (fd : FuncData) : Prop := FunD K x x (defArgs st) (defBody st) (defScope st) [] [] f fd
abbrev sPurse : Stmt := top 42
abbrev sMixed : Stmt := top 43
abbrev sDraw : Stmt := top 44
/-- built-in names that the module leaves free -/
structure Free (mg : Str → Option Value) : Prop where
  sum : mg "sum" = none
  int : mg "int" = none
  max : mg "max" = none
  min : mg "min" = none
  len : mg "len" = none
  range : mg "range" = none
  isi : mg "isinstance" = none
  all : mg "all" = none
  any : mg "any" = none
  zip : mg "zip" = none
  divmod : mg "divmod" = none
  reversed : mg "reversed" = none
  enumerate : mg "enumerate" = none
  tset : mg "set" = none
  tlist : mg "list" = none
  ttuple : mg "tuple" = none
  tdict : mg "dict" = none
  tbool : mg "bool" = none
theorem op_powL {X : Cx} : OpR X (binaryOp .Pow) (rI (fun i n => 0 ≤ n ∧ (Builtin.Int.intBits i : Int) * n ≤ 2 ^ 27) fun i j => .int (i ^ j.toNat)) :=
  opI fun _ _ _ _ _ _ _ hc q => pow_int hc.1 hc.2 q
/-- a purse: what is left of a great number, the seed, how often it was mixed, the place -/
structure Purse (H : Hp) (p : Addr) (N : Nat) : Prop where
  at_ : ∃ A B c i : Int, H p = some (.lst [.int A, .int B, .int c, .int i]) ∧ (0 ≤ B ∧ B < 2147483648) ∧ 0 ≤ A ∧ 0 ≤ c ∧ c ≤ (N : Int)
theorem Purse.mono {H : Hp} {p : Addr} {N M : Nat} (h : Purse H p N) (l : N ≤ M) : Purse H p M := by
  obtain ⟨A, B, c, i, e, hB, h1, h2, h3⟩ := h
  exact ⟨A, B, c, i, e, hB, h1, h2, by omega⟩
theorem Purse.same {H H' : Hp} {p : Addr} {N : Nat} (k : Same H H') (h : Purse H p N) : Purse H' p N := by
  obtain ⟨A, B, c, i, e, r⟩ := h
  exact ⟨A, B, c, i, k _ _ e, r⟩
/-- all but p stands as it did -/
def But (p : Addr) (H H' : Hp) : Prop := ∀ b o, b ≠ p → H b = some o → H' b = some o
theorem But.refl (p : Addr) (H : Hp) : But p H H := fun _ _ _ e => e
theorem But.trans {p : Addr} {H H1 H2 : Hp} (a : But p H H1) (b : But p H1 H2) : But p H H2 := fun x o n e => b x o n (a x o n e)
theorem But.of {p : Addr} {H H' : Hp} (k : Same H H') : But p H H' := fun b o _ e => k b o e
theorem But.upd {p : Addr} {H : Hp} {o : HO} : But p H (L2.upd H p o) := fun b o' n e => by
  rw [upd_ne n]
  exact e
theorem Same.upd {H : Hp} {p : Addr} {o : HO} (h : H p = none) : Same H (L2.upd H p o) := fun b o' e => by
  rw [upd_ne (ne_of_none e h)]
  exact e
theorem cut_map (ns : List Int) (lo hi : Option Int) : cutV (ns.map V.int) lo hi = ((ns.drop (HT.sIx (ns.map V.int).length 0 lo)).take (HT.sIx (ns.map V.int).length (ns.map V.int).length hi - HT.sIx (ns.map V.int).length 0 lo)).map V.int := by
  unfold cutV
  rw [List.map_take, List.map_drop]
def spPurse (K : PySem.W.Frag) : Sp := fun vs H Q _ => ∃ (a : Addr) (ns : List Int) (i : Int), vs = [.ref a, .int i] ∧ SqL K H a (ns.map V.int) ∧
  ∀ p H', Same H H' → H p = none → Purse H' p 0 → Q (.ref p) H'
/-- any rest there is -/
def spMixed : Sp := fun vs H Q _ => ∃ B c i : Int, vs = [.int B, .int c, .int i] ∧ (0 ≤ c ∧ c ≤ 2 ^ 60) ∧ ∀ r : Int, 0 ≤ r → r < 2147483587 → Q (.int r) H
/-- how often a draw of one of m mixes -/
def mixes (m : Int) : Nat := (1 + (Builtin.Int.intBits m : Int) / 28).toNat
def spDraw : Sp := fun vs H Q _ => ∃ (p : Addr) (m : Int) (N : Nat), vs = [.ref p, .int m] ∧ 1 ≤ m ∧ m.natAbs.log2 < 9000 ∧ Purse H p N ∧ N + mixes m ≤ 2 ^ 50 ∧ mixes m ≤ 2 ^ 50 ∧
  ∀ (r : Int) (H' : Hp), 0 ≤ r → r < m → But p H H' → Purse H' p (N + mixes m) → Q (.int r) H'
section
variable {P : Program} {w : World} {K : PySem.W.Frag} {mg : Str → Option Value} {base : Heap} {f fM : Addr} {fd fdM : FuncData}
theorem scPurse : FnScope ["_law_script", "_law_at", "_law_seed"] ["_law_script", "_law_at"] (defScope sPurse) := ⟨rfl, rfl, rfl, by decide +kernel, rfl, by decide +kernel, by decide +kernel⟩
theorem ok_purse (F : FnP K "_law_purse" sPurse f fd) (Z : Free mg) : FnOk P w K mg base CX0 1 f fd ["_law_script", "_law_at"] (spPurse K) := by
  refine F.ok scPurse (fun vs H Q E h => ?_) (fun cdv A outer s H vs Q E hr h => ?_)
  · obtain ⟨a, ns, i, rfl, _⟩ := h
    rfl
  · obtain ⟨a, ns, i, rfl, hS, k⟩ := h
    have nd := scPurse.nd
    refine ⟨_, PSs.nox (pss_cons (ps_set (i := 2) nd rfl (Or.inl rfl) (pe_callB (cr_sum rfl) (by rfl) Z.sum (by decide +kernel) (pa_cons (pe_slice sl_list (pv 0) (po_some (pv 1)) (po_some (pe_op op_add (pv 1) pe_int))) pa_nil)))
      (pss_one (ps_ret (pe_lst (pa_cons (pe_op op_mod (pe_callTy call_int1 (by rfl) Z.int (by decide +kernel) (pa_cons (pe_callB (call_max2 rfl) (by rfl) Z.max (by decide +kernel)
          (pa_cons (pe_op op_sub (pv 2) (pe_op op_pow pe_int pe_int)) (pa_cons pe_int pa_nil))) pa_nil)) (pe_op op_powL (pe_op op_pow pe_int pe_int) pe_int))
        (pa_cons (pe_op op_mod (pe_callTy call_int1 (by rfl) Z.int (by decide +kernel) (pa_cons (pv 2) pa_nil)) pe_int) (pa_cons pe_int (pa_cons (pv 1) pa_nil)))))))), ?_⟩
    refine ⟨_, rfl, _, rfl, i, rfl, ?_⟩
    refine ⟨_, rfl, _, _, rfl, rfl, ?_⟩
    refine ⟨i + 1, rfl, a, _, rfl, hS, fun q hq => ?_⟩
    rw [cut_map]
    refine ⟨q, _, rfl, SqL.of upd_same, ?_⟩
    -- the list
    refine ⟨_, rfl, _, _, rfl, rfl, ⟨by decide, by decide, by decide⟩, _, _, rfl, rfl, ?_⟩
    refine ⟨_, _, rfl, Or.inl ⟨_, rfl, ?_⟩⟩
    refine ⟨_, _, rfl, rfl, ⟨by decide, by decide, by decide⟩, ?_⟩
    refine ⟨_, _, rfl, rfl, ⟨by decide, by decide +kernel⟩, ?_⟩
    refine ⟨_, _, rfl, rfl, (by show (0 : Int) < _; decide +kernel), ?_⟩
    refine ⟨_, rfl, Or.inl ⟨_, rfl, ?_⟩⟩
    refine ⟨_, _, rfl, rfl, (by show (0 : Int) < _; decide), ?_⟩
    refine ⟨_, rfl, (by show 4 ≤ sizeLine; decide), fun p hp => ?_⟩
    refine k p _ (Same.trans (Same.upd hq) (Same.upd hp)) ?_ ⟨_, _, 0, i, upd_same, ⟨Int.emod_nonneg _ (by decide), Int.lt_trans (Int.emod_lt_of_pos _ (by decide)) (by decide)⟩, Int.emod_nonneg _ (by decide +kernel), Int.le_refl _, Int.le_refl _⟩
    rw [upd_ne (fun e => by rw [e, upd_same] at hp; cases hp)] at hp
    exact hp
theorem scMixed : FnScope ["_law_seed", "_law_spin", "_law_at", "_law_mixed_here"] ["_law_seed", "_law_spin", "_law_at"] (defScope sMixed) := ⟨rfl, rfl, rfl, by decide +kernel, rfl, by decide +kernel, by decide +kernel⟩
theorem ok_mixed (F : FnP K "_law_mixed" sMixed f fd) (Z : Free mg) : FnOk P w K mg base CX0 1 f fd ["_law_seed", "_law_spin", "_law_at"] spMixed := by
  refine F.ok scMixed (fun vs H Q E h => ?_) (fun cdv A outer s H vs Q E hr h => ?_)
  · obtain ⟨B, c, i, rfl, _⟩ := h
    rfl
  · obtain ⟨B, c, i, rfl, ⟨hc0, hc1⟩, k⟩ := h
    have nd := scMixed.nd
    refine ⟨_, PSs.nox (pss_cons (ps_set (i := 3) nd rfl (Or.inl rfl) (pe_op op_add (pe_op op_mul (pv 0) pe_int) (pe_op op_mul (pe_op op_mul pe_int (pv 1)) (pv 1))))
      (pss_cons (ps_set (i := 3) nd rfl (Or.inl rfl) (pe_op op_mod (pe_callTy call_int1 (by rfl) Z.int (by decide +kernel) (pa_cons (pe_op op_add (pe_op op_add (pv 3) (pe_op op_mul pe_int (pv 2))) (pv 1)) pa_nil)) pe_int))
      (pss_cons (ps_set (i := 3) nd rfl (Or.inl rfl) (pe_op op_mod (pe_callTy call_int1 (by rfl) Z.int (by decide +kernel) (pa_cons (pe_op op_add (pe_op op_mul (pv 3) (pv 3)) pe_int) pa_nil)) pe_int))
      (pss_one (ps_ret (pe_op op_mod (pe_callTy call_int1 (by rfl) Z.int (by decide +kernel) (pa_cons (pe_op op_mul (pv 3) pe_int) pa_nil)) pe_int)))))), ?_⟩
    have c64 : -(2 ^ 64) < c ∧ c < 2 ^ 64 := ⟨by omega, by omega⟩
    refine ⟨_, rfl, _, _, rfl, rfl, Or.inr ⟨by decide, by decide⟩, ?_⟩
    refine ⟨_, rfl, _, _, rfl, rfl, Or.inl ⟨by decide, by decide⟩, ?_⟩
    refine ⟨_, rfl, _, _, rfl, rfl, Or.inr c64, ?_⟩
    refine ⟨_, _, rfl, rfl, ?_⟩
    refine ⟨_, rfl, _, rfl, _, _, rfl, rfl, Or.inl ⟨by decide, by decide⟩, ?_⟩
    refine ⟨_, _, rfl, rfl, _, rfl, _, _, rfl, rfl, ?_⟩
    refine Or.inl ⟨_, rfl, ?_⟩
    refine ⟨_, _, rfl, rfl, (by show (0 : Int) < _; decide), ?_⟩
    generalize hm : (B * 69069 + 104729 * c * c + 7919 * i + c) % 2147483647 = m
    have h1 : 0 ≤ m := by rw [← hm]; exact Int.emod_nonneg _ (by decide)
    have h2 : m < 2147483647 := by rw [← hm]; exact Int.emod_lt_of_pos _ (by decide)
    refine ⟨_, rfl, _, rfl, _, _, rfl, rfl, Or.inl ⟨by omega, by omega⟩, ?_⟩
    refine ⟨_, _, rfl, rfl, Or.inl ⟨_, rfl, ?_⟩⟩
    refine ⟨_, _, rfl, rfl, (by show (0 : Int) < _; decide), ?_⟩
    refine ⟨_, rfl, _, _, rfl, rfl, Or.inr ⟨by decide, by decide⟩, Or.inl ⟨_, rfl, ?_⟩⟩
    refine ⟨_, _, rfl, rfl, (by show (0 : Int) < _; decide), ?_⟩
    exact k _ (Int.emod_nonneg _ (by decide)) (Int.emod_lt_of_pos _ (by decide))
theorem scDraw : FnScope ["_law_purse_here", "_law_many", "_law_drawn", "_law_found", "_law_piece"] ["_law_purse_here", "_law_many"] (defScope sDraw) := ⟨rfl, rfl, rfl, by decide +kernel, rfl, by decide +kernel, by decide +kernel⟩
theorem ok_draw (F : FnP K "_law_draw" sDraw f fd) (Z : Free mg) (FM : FnP K "_law_mixed" sMixed fM fdM) (gM : mg "_law_mixed" = some (.ref fM)) : FnOk P w K mg base CX0 2 f fd ["_law_purse_here", "_law_many"] spDraw := by
  have GM : FnOk P w K mg base CX0 1 fM fdM ["_law_seed", "_law_spin", "_law_at"] spMixed := ok_mixed FM Z
  have bM : Binds K fdM ["_law_seed", "_law_spin", "_law_at"] [] := FM.bindsN fun _ _ _ _ _ _ us hl => match us, hl with | [_, _, _], _ => rfl
  refine F.ok scDraw (fun vs H Q E h => ?_) (fun cdv A outer s H vs Q E hr h => ?_)
  · obtain ⟨p, m, N, rfl, _⟩ := h
    rfl
  · obtain ⟨p, m, N, rfl, hm1, hm2, hP, hN, hN2, k⟩ := h
    obtain ⟨A0, B, c, i, hp, hB, hA, hc, hcN⟩ := id hP
    have nd := scDraw.nd
    refine ⟨_, PSs.nox (pss_cons (ps_if (pt_cmpR op_gt (pe_ix ix_list (pv 0) pe_int (fun _ _ => rfl)) pe_int (nomark _))
        (pss_cons (ps_set (i := 2) nd rfl (Or.inl rfl) (pe_op op_mod (pe_callTy call_int1 (by rfl) Z.int (by decide +kernel) (pa_cons (pe_ix ix_list (pv 0) pe_int (fun _ _ => rfl)) pa_nil)) (pv 1)))
        (pss_cons (ps_asg (pe_op op_fdivW (pe_ix ix_list (pv 0) pe_int (fun _ _ => rfl)) (pv 1)) (pg_sub (pv 0) pe_int set_list))
        (pss_one (ps_ret (pv 2))))) pss_nil)
      (pss_cons (ps_set (i := 3) nd rfl (Or.inl rfl) pe_int)
      (pss_cons (ps_for PassesOwn.never rfl (pi_range1 rfl Z.range (pa_cons (pe_op op_add pe_int (pe_op op_fdiv (pe_bits (pv 1)) pe_int)) pa_nil)) (pg_name (i := 4) nd rfl (Or.inl rfl))
        (pss_cons (ps_asg (pe_op op_add (pe_ix ix_list (pv 0) pe_int (fun _ _ => rfl)) pe_int) (pg_sub (pv 0) pe_int set_list))
        (pss_one (ps_set (i := 3) nd rfl (Or.inl rfl) (pe_op op_add (pe_op op_mul (pv 3) pe_int) (pe_call GM hr rfl gM FM.kp bM .nil pass0
          (pa_cons (pe_ix ix_list (pv 0) pe_int (fun _ _ => rfl)) (pa_cons (pe_ix ix_list (pv 0) pe_int (fun _ _ => rfl)) (pa_cons (pe_ix ix_list (pv 0) pe_int (fun _ _ => rfl)) pa_nil)))))))))
      (pss_one (ps_ret (pe_op op_mod (pe_callTy call_int1 (by rfl) Z.int (by decide +kernel) (pa_cons (pv 3) pa_nil)) (pv 1))))))), ?_⟩
    -- if purse[0] > 0
    refine ⟨_, rfl, p, _, 0, .int A0, rfl, rfl, SqL.of hp, rfl, ?_⟩
    refine ⟨_, _, rfl, rfl, _, rfl, ?_⟩
    refine ite2 (fun hpos => ?_) (fun hneg => ?_)
    · refine ⟨_, rfl, p, _, 0, .int A0, rfl, rfl, SqL.of hp, rfl, Or.inl ⟨_, rfl, ?_⟩⟩
      refine ⟨_, rfl, _, _, rfl, rfl, (by show (0 : Int) < m; omega), ?_⟩
      refine ⟨_, rfl, p, _, 0, .int A0, rfl, rfl, SqL.of hp, rfl, ?_⟩
      refine ⟨_, rfl, _, _, rfl, rfl, ⟨by omega, hm2⟩, ?_⟩
      refine ⟨_, rfl, p, _, 0, 0, rfl, rfl, hp, rfl, ?_⟩
      refine ⟨_, rfl, ?_⟩
      refine k _ _ (Int.emod_nonneg _ (by omega)) (Int.emod_lt_of_pos _ (by omega)) But.upd ⟨A0 / m, B, c, i, upd_same, hB, Int.ediv_nonneg hA (by omega), hc, by omega⟩
    · -- found = 0; for piece in range(..)
      have hb : (0 : Int) ≤ 1 + (Builtin.Int.intBits m : Int) / 28 := by omega
      have hM : ((mixes m : Nat) : Int) = 1 + (Builtin.Int.intBits m : Int) / 28 := by
        unfold mixes
        exact Int.toNat_of_nonneg hb
      refine ⟨_, rfl, _, rfl, _, _, rfl, rfl, ⟨by decide, by decide⟩, _, _, rfl, rfl, ?_⟩
      refine ⟨1 + (Builtin.Int.intBits m : Int) / 28, rfl, by omega, by omega, ?_⟩
      refine for_range (lo := 0) (n := (1 + (Builtin.Int.intBits m : Int) / 28).toNat) (fun j σ H2 => ∃ (g : Int) (v2 v4 : Option V), σ = [some (.ref p), some (.int m), v2, some (.int g), v4] ∧ But p H H2 ∧
          ∃ c' : Int, H2 p = some (.lst [.int A0, .int B, .int c', .int i]) ∧ 0 ≤ c' ∧ c' ≤ (N : Int) + (j : Int))
        ⟨0, none, none, rfl, But.refl _ _, c, hp, hc, by omega⟩ ?_ ?_
      · rintro j σ H2 hj ⟨g, v2, v4, rfl, kb, c', hp2, h0, h1⟩
        have hj2 : (j : Int) < 2 ^ 50 := by
          have : j < mixes m := hj
          omega
        refine ⟨_, rfl, p, _, 2, .int c', rfl, rfl, SqL.of hp2, rfl, ?_⟩
        refine ⟨_, _, rfl, rfl, ?_⟩
        refine ⟨_, rfl, p, _, 2, 2, rfl, rfl, hp2, rfl, ?_⟩
        have hp3 : (L2.upd H2 p (.lst (List.set [V.int A0, .int B, .int c', .int i] 2 (.int (c' + 1))))) p = some (.lst [.int A0, .int B, .int (c' + 1), .int i]) := upd_same
        refine ⟨_, rfl, _, _, rfl, rfl, Or.inr ⟨by decide, by decide⟩, ?_⟩
        refine ⟨_, rfl, p, _, 1, .int B, rfl, rfl, SqL.of hp3, rfl, ?_⟩
        refine ⟨_, rfl, p, _, 2, .int (c' + 1), rfl, rfl, SqL.of hp3, rfl, ?_⟩
        refine ⟨_, rfl, p, _, 3, .int i, rfl, rfl, SqL.of hp3, rfl, ?_⟩
        refine ⟨B, c' + 1, i, rfl, ⟨by omega, by omega⟩, fun r hr0 hr1 => ?_⟩
        refine ⟨_, _, rfl, rfl, ?_⟩
        exact ⟨_, v2, _, rfl, But.trans kb But.upd, c' + 1, hp3, by omega, by omega⟩
      · rintro σ H2 ⟨g, v2, v4, rfl, kb, c', hp2, h0, h1⟩
        refine ⟨_, rfl, Or.inl ⟨_, rfl, ?_⟩⟩
        refine ⟨_, rfl, _, _, rfl, rfl, (by show (0 : Int) < m; omega), ?_⟩
        refine k _ _ (Int.emod_nonneg _ (by omega)) (Int.emod_lt_of_pos _ (by omega)) kb ⟨A0, B, c', i, hp2, hB, hA, h0, ?_⟩
        have : ((N + mixes m : Nat) : Int) = (N : Int) + (mixes m : Int) := by omega
        rw [this]
        exact h1
end
end K10
set_option Elab.async false
set_option linter.all false
set_option maxRecDepth 100000
set_option maxHeartbeats 4000000
/-! purses, one_of, word. -/
namespace K10
open PySem PySem.Spec PyProof.Rows L2
open TL
abbrev sPurses : Stmt := top 45
abbrev sOne : Stmt := top 46
theorem mixes_one {m : Int} (h0 : 1 ≤ m) (h : m < 2 ^ 27) : mixes m = 1 := by
  have e : Builtin.Int.intBits m ≤ 27 := PyProof.Rows.intBits_le (by omega)
  unfold mixes
  omega
theorem log_small {m : Int} (h0 : 1 ≤ m) (h : m < 2 ^ 27) : m.natAbs.log2 < 9000 := by
  have e : m.natAbs < 2 ^ 27 := by omega
  have := PySem.Flt.log2_lt_of (by decide) e
  omega
theorem But.seq {K : PySem.W.Frag} {p a : Addr} {H H' : Hp} {xs : List V} (k : But p H H') (n : a ≠ p) (h : SqL K H a xs) : SqL K H' a xs := by
  rcases h with (h | ⟨o, h⟩) | h
  · exact .inl (.inl (k _ _ n h))
  · exact .inl (.inr ⟨o, k _ _ n h⟩)
  · exact .inr h
/-- purses(script, 1): the list of one purse -/
def spPurses (K : PySem.W.Frag) : Sp := fun vs H Q _ => ∃ (a : Addr) (ns : List Int), vs = [.ref a, .int 1] ∧ SqL K H a (ns.map V.int) ∧
  ∀ q p H', Same H H' → H p = none → H q = none → p ≠ q → H' q = some (.lst [.ref p]) → Purse H' p 0 → Q (.ref q) H'
def spOne (K : PySem.W.Frag) : Sp := fun vs H Q _ => ∃ (p q : Addr) (xs : List V) (N : Nat), vs = [.ref p, .ref q] ∧ q ≠ p ∧ SqL K H q xs ∧ 1 ≤ xs.length ∧ xs.length ≤ 1000000 ∧ Purse H p N ∧ N ≤ 2 ^ 40 ∧
  ∀ x H', x ∈ xs → But p H H' → Purse H' p (N + 1) → Q x H'
section
variable {P : Program} {w : World} {K : PySem.W.Frag} {mg : Str → Option Value} {base : Heap} {f fP fD : Addr} {fd fdP fdD : FuncData}
theorem scPurses : FnScope ["_law_script", "_law_few", "_law_at"] ["_law_script", "_law_few"] (defScope sPurses) := ⟨rfl, rfl, rfl, by decide +kernel, rfl, by decide +kernel, by decide +kernel⟩
theorem ok_purses (F : FnP K "_law_purses" sPurses f fd) (Z : Free mg) (GP : FnOk P w K mg base CX0 1 fP fdP ["_law_script", "_law_at"] (spPurse K)) (FP : FnP K "_law_purse" sPurse fP fdP) (gP : mg "_law_purse" = some (.ref fP)) :
    FnOk P w K mg base CX0 2 f fd ["_law_script", "_law_few"] (spPurses K) := by
  have bP : Binds K fdP ["_law_script", "_law_at"] [] := FP.bindsN fun _ _ _ _ _ _ us hl => match us, hl with | [_, _], _ => rfl
  refine F.ok scPurses (fun vs H Q E h => ?_) (fun cdv A outer s H vs Q E hr h => ?_)
  · obtain ⟨a, ns, rfl, _⟩ := h
    rfl
  · obtain ⟨a, ns, rfl, hS, k⟩ := h
    have nd := scPurses.nd
    refine ⟨_, PSs.nox (pss_one (ps_ret (pe_lc (own := [("_law_at", 2)]) (g := gName 2) (tt := tYes) (by rfl) nd (pi_range1 rfl Z.range (pa_cons (pe_callB (call_max2 rfl) (by rfl) Z.max (by decide +kernel) (pa_cons pe_int
        (pa_cons (pe_callB (call_min2 rfl) (by rfl) Z.min (by decide +kernel) (pa_cons (pv 1) (pa_cons (pe_callB call_len_seq (by rfl) Z.len (by decide +kernel) (pa_cons (pv 0) pa_nil)) pa_nil))) pa_nil))) pa_nil))
      (blkOk_by (own := [("_law_at", 2)]) (N := ["_law_script", "_law_few", "_law_at"]) (sc := defScope sPurses) (by decide +kernel)) (fun _ _ _ _ _ => pg_name (i := 2) nd rfl (Or.inl rfl)) (fun _ _ _ _ _ => pts_nil)
      (fun _ _ _ _ _ => pe_call GP hr rfl gP FP.kp bP .nil pass0 (pa_cons (pv 0) (pa_cons (pv 2) pa_nil)))))), ?_⟩
    refine ⟨_, rfl, _, rfl, a, _, rfl, Or.inl hS, _, _, rfl, ?_⟩
    refine ⟨_, _, rfl, ?_⟩
    have hone : ∀ n : Int, 0 ≤ n → (if (if n < 1 then n else 1) > 1 then (if n < 1 then n else 1) else (1 : Int)) = 1 := fun n hn => by
      by_cases c : n < 1
      · rw [if_pos c, if_neg (by omega)]
      · rw [if_neg c, if_neg (by omega)]
    refine ⟨1, congrArg (fun z => [V.int z]) (hone _ (Int.natCast_nonneg _)), by decide, by decide, fun D hD => ?_⟩
    refine lc_range (lo := 0) (n := 1) (fun j H2 => (j = 0 ∧ H2 = upd H D (.lst [])) ∨ (j = 1 ∧ ∃ p, H2 D = some (.lst [.ref p]) ∧ Same H H2 ∧ H p = none ∧ p ≠ D ∧ Purse H2 p 0)) (Or.inl ⟨rfl, rfl⟩) ?_ ?_
    · intro j H2 hj hP
      rcases hP with ⟨rfl, rfl⟩ | ⟨rfl, _⟩
      · refine ⟨rfl, _, rfl, _, rfl, a, ns, _, rfl, (Same.upd hD).seq hS, fun p H3 hk hp hpu => ?_⟩
        have hne : p ≠ D := fun e => by
          rw [e, upd_same] at hp
          cases hp
        refine ⟨[], hk _ _ upd_same, by decide, Or.inr ⟨rfl, p, upd_same, fun b o e => ?_, ?_, hne, ?_⟩⟩
        · rw [upd_ne (ne_of_none e hD)]
          exact hk _ _ (by rw [upd_ne (ne_of_none e hD)]; exact e)
        · rw [upd_ne hne] at hp
          exact hp
        · obtain ⟨A0, B, c, i, e, r⟩ := hpu
          exact ⟨A0, B, c, i, by rw [upd_ne hne]; exact e, r⟩
      · omega
    · intro H2 hP
      rcases hP with ⟨h, _⟩ | ⟨_, p, h1, h2, h3, h4, h5⟩
      · omega
      · exact k D p H2 h2 h3 hD h4 h1 h5
theorem scOne : FnScope ["_law_purse_here", "_law_some"] ["_law_purse_here", "_law_some"] (defScope sOne) := ⟨rfl, rfl, rfl, by decide +kernel, rfl, by decide +kernel, by decide +kernel⟩
theorem ok_one (F : FnP K "_law_one_of" sOne f fd) (Z : Free mg) (GD : FnOk P w K mg base CX0 2 fD fdD ["_law_purse_here", "_law_many"] spDraw) (FD : FnP K "_law_draw" sDraw fD fdD) (gD : mg "_law_draw" = some (.ref fD)) :
    FnOk P w K mg base CX0 3 f fd ["_law_purse_here", "_law_some"] (spOne K) := by
  have bD : Binds K fdD ["_law_purse_here", "_law_many"] [] := FD.bindsN fun _ _ _ _ _ _ us hl => match us, hl with | [_, _], _ => rfl
  refine F.ok scOne (fun vs H Q E h => ?_) (fun cdv A outer s H vs Q E hr h => ?_)
  · obtain ⟨p, q, xs, N, rfl, _⟩ := h
    rfl
  · obtain ⟨p, q, xs, N, rfl, hqp, hS, hl1, hl2, hP, hN, k⟩ := h
    refine ⟨_, PSs.nox (pss_one (ps_ret (pe_ix ix_list (pv 1) (pe_call GD hr rfl gD FD.kp bD .nil pass0 (pa_cons (pv 0) (pa_cons (pe_callB call_len_seq (by rfl) Z.len (by decide +kernel) (pa_cons (pv 1) pa_nil)) pa_nil))) (fun _ _ => rfl)))), ?_⟩
    have hm := mixes_one (m := (xs.length : Int)) (by omega) (by omega)
    refine ⟨_, rfl, _, rfl, _, rfl, q, xs, rfl, Or.inl hS, ?_⟩
    refine ⟨p, (xs.length : Int), N, rfl, by omega, log_small (by omega) (by omega), hP, by omega, by omega, fun r H' h0 h1 kb hP' => ?_⟩
    obtain ⟨j, rfl⟩ : ∃ j : Nat, r = j := ⟨r.toNat, by omega⟩
    have hj : j < xs.length := by omega
    refine ⟨q, xs, _, xs[j], rfl, rfl, kb.seq hqp hS, atI_nat (by rw [List.getElem?_eq_getElem hj]), ?_⟩
    rw [hm] at hP'
    exact k _ _ (List.getElem_mem hj) kb hP'
end
end K10
set_option Elab.async false
set_option linter.all false
set_option maxRecDepth 100000
set_option maxHeartbeats 4000000
/-! Comprehensions that leave all as it was; counts. -/
namespace L2
open PySem PySem.Spec PyProof.Rows
theorem Same.updf {H : Hp} {p : Addr} {o : HO} (h : H p = none) : Same H (L2.upd H p o) := fun b o' e => by
  rw [upd_ne (ne_of_none e h)]
  exact e
/-- a comprehension whose turns change nothing that stands: what it gives at each turn, if anything -/
theorem lc_sel {J : It} {n : Nat} {G : Hp → Prop} {Y : Nat → Hp → V → Hp → Prop} (w : Walk J n G Y) {g : TG} {tt : TT} {te : TE} {vs : List Nat} {σ : St} {H1 : Hp} {D : Addr} {Qd : Hp → Prop} (f : Nat → Option V) (hn : n ≤ 100000) (hD : H1 D = none)
    (hG : ∀ H, Same H1 H → G H)
    (hs : ∀ i x H H' (Qy : V → Hp → Prop) (Qn : Hp → Prop), i < n → Same H1 H → Y i H x H' → (∀ y H4, Same H H4 → f i = some y → Qy y H4) → (∀ H4, Same H H4 → f i = none → Qn H4) →
      g x (wipe σ vs) H' fun σ2 H2 => wipe σ2 vs = wipe σ vs ∧ tt σ2 H2 fun b H3 => if b = true then te σ2 H3 Qy else Qn H3)
    (hd : ∀ H, Same H1 H → H D = some (.lst ((List.range n).filterMap f)) → Qd H) :
    ∃ W : Nat → Nat → Hp → Prop, (∃ m, W 0 m (upd H1 D (.lst []))) ∧ ∀ i m H, W i m H →
      (J.stop i H ∧ Qd H) ∨ (J.go i H ∧ ∃ Nx : Hp → Prop, (∀ H', Nx H' → ∃ m', m' < m ∧ W (i + 1) m' H') ∧ ∀ x H', J.yld i H x H' → g x (wipe σ vs) H' fun σ2 H2 => wipe σ2 vs = wipe σ vs ∧ tt σ2 H2 fun b H3 =>
        if b = true then te σ2 H3 fun y H4 => ∃ acc, H4 D = some (.lst acc) ∧ acc.length < sizeLine ∧ Nx (upd H4 D (.lst (acc ++ [y]))) else Nx H3) := by
  refine lc_it w (fun i H => Same H1 H ∧ H D = some (.lst ((List.range i).filterMap f))) ⟨Same.updf hD, upd_same⟩ (fun i H _ h => hG H h.1) (fun i x H H' hi hP hy => ?_) (fun H h => hd H h.1 h.2)
  refine hs i x H H' _ _ hi hP.1 hy (fun y H4 s4 e => ?_) (fun H4 s4 e => ?_)
  · refine ⟨_, s4 _ _ hP.2, ?_, fun b o eb => ?_, ?_⟩
    · have l1 : ((List.range i).filterMap f).length ≤ i := by
        have := List.length_filterMap_le f (List.range i)
        rw [List.length_range] at this
        exact this
      have l2 : (100000 : Nat) < sizeLine := by decide
      omega
    · rw [upd_ne (ne_of_none eb hD)]
      exact s4 _ _ (hP.1 _ _ eb)
    · rw [upd_same, List.range_succ, List.filterMap_append, List.filterMap_cons, e]
      rfl
  · refine ⟨hP.1.trans s4, ?_⟩
    rw [List.range_succ, List.filterMap_append, List.filterMap_cons, e, List.filterMap_nil, List.append_nil]
    exact s4 _ _ hP.2
/-- a pair's two names: the tuple is new -/
theorem pair_st {i j : Nat} {xs ys : Nat → Option V} {t : Nat} {σ : St} {H H' : Hp} {v : V} {Q : St → Hp → Prop} (y : YPair xs ys t H v H') {K : PySem.W.Frag}
    (k : ∀ x z, xs t = some x → ys t = some z → Same H H' → ∃ T, v = .ref T ∧ SqT K H' T [x, z] ∧ Q ((σ.set i (some x)).set j (some z)) H') :
    ∃ x z T, v = .ref T ∧ SqT K H' T [x, z] ∧ Q ((σ.set i (some x)).set j (some z)) H' := by
  obtain ⟨T, x, z, h1, h2, h3, h4, h5⟩ := y
  obtain ⟨T', e1, e2, e3⟩ := k x z h4 h5 (by rw [h3]; exact Same.updf h2)
  exact ⟨x, z, T', e1, e2, e3⟩
end L2
namespace K10
open PySem PySem.Spec PyProof.Rows L2
abbrev sWhole : Stmt := top 8
abbrev sCount : Stmt := top 9
abbrev sBelow : Stmt := top 10
abbrev sAsc : Stmt := top 11
abbrev sAscC : Stmt := top 12
abbrev sAscB : Stmt := top 13
abbrev sNeedC : Stmt := top 15
abbrev sNeedCU : Stmt := top 16
def spWhole : Sp := fun vs H Q _ => ∃ i : Int, vs = [.int i] ∧ Q (.bl true) H
def spCount : Sp := fun vs H Q _ => ∃ i : Int, vs = [.int i] ∧ Q (.bl (decide (i ≥ 0))) H
def spBelow : Sp := fun vs H Q _ => ∃ i b : Int, vs = [.int i, .int b] ∧ Q (.bl (decide (0 ≤ i ∧ i < b))) H
section
variable {P : Program} {w : World} {K : PySem.W.Frag} {mg : Str → Option Value} {base : Heap} {f fW fC fB fA : Addr} {fd dW dC dB dA : FuncData}
theorem scWhole : FnScope ["value"] ["value"] (defScope sWhole) := ⟨rfl, rfl, rfl, by decide +kernel, rfl, by decide +kernel, by decide +kernel⟩
theorem ok_whole (F : FnP K "is_whole_number" sWhole f fd) (Z : Free mg) : FnOk P w K mg base CX0 1 f fd ["value"] spWhole := by
  refine F.ok scWhole (fun vs H Q E h => ?_) (fun cdv A outer s H vs Q E hr h => ?_)
  · obtain ⟨i, rfl, _⟩ := h
    rfl
  · obtain ⟨i, rfl, k⟩ := h
    refine ⟨_, PSs.nox (pss_one (ps_ret (pe_and (pe_callB call_isi (by rfl) Z.isi (by decide +kernel) (pa_cons (pv 0) (pa_cons (pe_bltn (v := .ty "int") (by rfl) Z.int (by decide +kernel) rfl) pa_nil)))
      (pe_one (pe_not (pe_callB call_isi (by rfl) Z.isi (by decide +kernel) (pa_cons (pv 0) (pa_cons (pe_bltn (v := .ty "bool") (by rfl) Z.tbool (by decide +kernel) rfl) pa_nil)))))))), ?_⟩
    refine ⟨_, rfl, .int i, .ty "int", .type "int", .type "int", true, rfl, .ty _, .base (.int i), kit_ty (by decide +kernel), true, rfl, iteT ?_⟩
    exact ⟨_, rfl, .int i, .ty "bool", .type "int", .type "bool", false, rfl, .ty _, .base (.int i), kit_ty (by decide +kernel), false, rfl, k⟩
theorem scCount : FnScope ["value"] ["value"] (defScope sCount) := ⟨rfl, rfl, rfl, by decide +kernel, rfl, by decide +kernel, by decide +kernel⟩
theorem ok_count (F : FnP K "is_count" sCount f fd) (gW : mg "is_whole_number" = some (.ref fW)) (FW : FnP K "is_whole_number" sWhole fW dW) (GW : FnOk P w K mg base CX0 1 fW dW ["value"] spWhole) : FnOk P w K mg base CX0 2 f fd ["value"] spCount := by
  have bW : Binds K dW ["value"] [] := FW.bindsN fun _ _ _ _ _ _ us hl => match us, hl with | [_], _ => rfl
  refine F.ok scCount (fun vs H Q E h => ?_) (fun cdv A outer s H vs Q E hr h => ?_)
  · obtain ⟨i, rfl, _⟩ := h
    rfl
  · obtain ⟨i, rfl, k⟩ := h
    refine ⟨_, PSs.nox (pss_one (ps_ret (pe_and (pe_call GW hr rfl gW FW.kp bW .nil pass0 (pa_cons (pv 0) pa_nil)) (pe_one (pe_cmpR op_ge (pv 0) pe_int (nomark _)))))), ?_⟩
    refine ⟨_, rfl, i, rfl, true, rfl, iteT ?_⟩
    exact ⟨_, rfl, _, _, rfl, rfl, k⟩
theorem scBelow : FnScope ["value", "bound"] ["value", "bound"] (defScope sBelow) := ⟨rfl, rfl, rfl, by decide +kernel, rfl, by decide +kernel, by decide +kernel⟩
theorem ok_below (F : FnP K "is_count_below" sBelow f fd) (gC : mg "is_count" = some (.ref fC)) (FC : FnP K "is_count" sCount fC dC) (GC : FnOk P w K mg base CX0 2 fC dC ["value"] spCount) : FnOk P w K mg base CX0 3 f fd ["value", "bound"] spBelow := by
  have bC : Binds K dC ["value"] [] := FC.bindsN fun _ _ _ _ _ _ us hl => match us, hl with | [_], _ => rfl
  refine F.ok scBelow (fun vs H Q E h => ?_) (fun cdv A outer s H vs Q E hr h => ?_)
  · obtain ⟨i, b, rfl, _⟩ := h
    rfl
  · obtain ⟨i, b, rfl, k⟩ := h
    refine ⟨_, PSs.nox (pss_one (ps_ret (pe_and (pe_call GC hr rfl gC FC.kp bC .nil pass0 (pa_cons (pv 0) pa_nil)) (pe_one (pe_cmpR op_lt (pv 0) (pv 1) (nomark _)))))), ?_⟩
    refine ⟨_, rfl, i, rfl, _, rfl, ?_⟩
    by_cases h0 : i ≥ 0
    · rw [decide_eq_true h0]
      refine iteT ⟨_, rfl, _, rfl, _, _, rfl, rfl, ?_⟩
      have e : decide (0 ≤ i ∧ i < b) = decide (i < b) := by
        by_cases h1 : i < b
        · rw [decide_eq_true h1, decide_eq_true ⟨h0, h1⟩]
        · rw [decide_eq_false h1, decide_eq_false fun z => h1 z.2]
      rw [e] at k
      exact k
    · rw [decide_eq_false h0]
      rw [decide_eq_false fun z => h0 z.1] at k
      exact iteF k
end
end K10
set_option Elab.async false
set_option linter.all false
set_option maxRecDepth 100000
set_option maxHeartbeats 4000000
/-! Digits: worth_at, trimmed, added, multiplied, inverse. -/
namespace K10
open PySem PySem.Spec PyProof.Rows L2
abbrev sInv : Stmt := top 18
abbrev sWorth : Stmt := top 19
abbrev sTrim : Stmt := top 20
abbrev sAdded : Stmt := top 21
abbrev sMult : Stmt := top 22
/-- the worth of digits at x, a rest at each step -/
def wAt (p x : Int) (ds : List Int) : Int := ds.foldr (fun d t => (t * x + d) % p) 0
theorem drop_map {ds : List Int} {i : Nat} : (ds.map V.int).drop i = (ds.drop i).map V.int := by rw [List.map_drop]
def spWorth (K : PySem.W.Frag) : Sp := fun vs H Q _ => ∃ (a : Addr) (ds : List Int) (x p : Int), vs = [.ref a, .int x, .int p] ∧ SqL K H a (ds.map V.int) ∧ 0 < p ∧ (-(2 ^ 64) < x ∧ x < 2 ^ 64) ∧ Q (.int (wAt p x ds)) H
section
variable {P : Program} {w : World} {K : PySem.W.Frag} {mg : Str → Option Value} {base : Heap} {f : Addr} {fd : FuncData}
theorem scWorth : FnScope ["digits", "x", "prime", "total", "digit"] ["digits", "x", "prime"] (defScope sWorth) := ⟨rfl, rfl, rfl, by decide +kernel, rfl, by decide +kernel, by decide +kernel⟩
theorem ok_worth (F : FnP K "worth_at" sWorth f fd) (Z : Free mg) : FnOk P w K mg base CX0 1 f fd ["digits", "x", "prime"] (spWorth K) := by
  refine F.ok scWorth (fun vs H Q E h => ?_) (fun cdv A outer s H vs Q E hr h => ?_)
  · obtain ⟨a, ds, x, p, rfl, _⟩ := h
    rfl
  · obtain ⟨a, ds, x, p, rfl, hS, hp, hx, k⟩ := h
    have nd := scWorth.nd
    refine ⟨_, PSs.nox (pss_cons (ps_set (i := 3) nd rfl (Or.inl rfl) pe_int)
      (pss_cons (ps_for PassesOwn.never rfl (pi_reversed (by rfl) Z.reversed (pa_cons (pv 0) pa_nil)) (pg_name (i := 4) nd rfl (Or.inl rfl))
        (pss_one (ps_set (i := 3) nd rfl (Or.inl rfl) (pe_op op_mod (pe_op op_add (pe_op op_mul (pv 3) (pv 1)) (pv 4)) (pv 2)))))
      (pss_one (ps_ret (pv 3))))), ?_⟩
    refine ⟨_, rfl, a, ds.map V.int, rfl, hS, ?_⟩
    refine for_it (walk_rev (xs := ds.map V.int)) (fun i σ H2 => H2 = H ∧ ∃ v4, σ = [some (.ref a), some (.int x), some (.int p), some (.int (wAt p x (ds.drop (ds.length - i)))), v4]) ?_ (fun i σ H2 _ h => by rw [h.1]; exact hS) ?_ ?_
    · refine ⟨rfl, none, ?_⟩
      rw [Nat.sub_zero, List.drop_length]
      rfl
    · rintro i y σ H2 H3 hi ⟨rfl, v4, rfl⟩ ⟨rfl, hy⟩
      rw [List.length_map] at hi hy
      rw [List.getElem?_map] at hy
      have hi2 : ds.length - 1 - i < ds.length := by omega
      rw [List.getElem?_eq_getElem hi2] at hy
      obtain rfl : V.int ds[ds.length - 1 - i] = y := Option.some.inj hy
      refine ⟨_, rfl, _, rfl, _, _, rfl, rfl, Or.inr hx, ?_⟩
      refine ⟨_, rfl, _, _, rfl, rfl, ?_⟩
      refine ⟨_, rfl, _, _, rfl, rfl, hp, ?_⟩
      refine ⟨rfl, some (.int ds[ds.length - 1 - i]), ?_⟩
      have e : ds.drop (ds.length - (i + 1)) = ds[ds.length - 1 - i] :: ds.drop (ds.length - i) := by
        have e1 : ds.length - (i + 1) = ds.length - 1 - i := by omega
        rw [e1, List.drop_eq_getElem_cons hi2]
        congr 2
        omega
      rw [e]
      rfl
    · rintro σ H2 ⟨rfl, v4, rfl⟩
      rw [List.length_map, Nat.sub_self, List.drop_zero]
      exact ⟨_, rfl, k⟩
end
end K10
set_option Elab.async false
set_option linter.all false
set_option maxRecDepth 100000
set_option maxHeartbeats 4000000
namespace K10
open PySem PySem.Spec PyProof.Rows L2
/-- what inverse gives: a rest that is one with the number -/
def spInv : Sp := fun vs H Q _ => ∃ n p : Int, vs = [.int n, .int p] ∧ 1 < p ∧ p < 2 ^ 63 ∧ (∀ c : Int, c ∣ n → c ∣ p → c ∣ 1) ∧ ∀ (r : Int) (H' : Hp), Same H H' → 0 ≤ r → r < p → (n * r) % p = 1 → Q (.int r) H'
theorem div_log {d : Int} (h0 : 0 < d) (h : d < 2 ^ 64) : d.natAbs.log2 < 9000 := by
  have e : d.natAbs < 2 ^ 64 := by omega
  have := PySem.Flt.log2_lt_of (by decide) e
  omega
section
variable {P : Program} {w : World} {K : PySem.W.Frag} {mg : Str → Option Value} {base : Heap} {f : Addr} {fd : FuncData}
theorem scInv : FnScope ["number", "prime", "rest", "divisor", "old", "new", "times"] ["number", "prime"] (defScope sInv) := ⟨rfl, rfl, rfl, by decide +kernel, rfl, by decide +kernel, by decide +kernel⟩
theorem ok_inv (F : FnP K "inverse" sInv f fd) : FnOk P w K mg base CX0 1 f fd ["number", "prime"] spInv := by
  refine F.ok scInv (fun vs H Q E h => ?_) (fun cdv A outer s H vs Q E hr h => ?_)
  · obtain ⟨n, p, rfl, _⟩ := h
    rfl
  · obtain ⟨n, p, rfl, hp1, hp2, hg, k⟩ := h
    have nd := scInv.nd
    refine ⟨_, PSs.nox (pss_cons (ps_par (i := 2) (j := 3) rfl nd rfl rfl (by decide) rfl rfl (pa_cons (pv 1) (pa_cons (pe_op op_mod (pv 0) (pv 1)) pa_nil)) rfl)
      (pss_cons (ps_asg (pe_tup (pa_cons pe_int (pa_cons pe_int pa_nil))) (pg_tup rfl (pgs_cons (pg_name (i := 4) nd rfl (Or.inl rfl)) (pgs_cons (pg_name (i := 5) nd rfl (Or.inl rfl)) pgs_nil))))
      (pss_cons (ps_while PassesOwn.never (pt_cmpR op_gt (pv 3) pe_int (nomark _))
        (pss_cons (ps_set (i := 6) nd rfl (Or.inl rfl) (pe_op op_fdivW (pv 2) (pv 3)))
        (pss_cons (ps_par (i := 2) (j := 3) rfl nd rfl rfl (by decide) rfl rfl (pa_cons (pv 3) (pa_cons (pe_op op_sub (pv 2) (pe_op op_mul (pv 6) (pv 3))) pa_nil)) rfl)
        (pss_one (ps_par (i := 4) (j := 5) rfl nd rfl rfl (by decide) rfl rfl (pa_cons (pv 5) (pa_cons (pe_op op_sub (pv 4) (pe_op op_mul (pv 6) (pv 5))) pa_nil)) rfl)))))
      (pss_one (ps_ret (pe_op op_mod (pv 5) (pv 1))))))), ?_⟩
    refine ⟨_, rfl, _, rfl, _, rfl, _, _, rfl, rfl, (by omega), _, _, rfl, ?_⟩
    refine ⟨(by show 2 ≤ sizeLine; decide), fun T hT => ?_⟩
    refine ⟨T, [.int 0, .int 1], rfl, .inl (.inl upd_same), rfl, .int 0, [.int 1], rfl, .int 1, [], rfl, rfl, ?_⟩
    have hnp : 0 ≤ n % p := Int.emod_nonneg _ (by omega)
    have hnp2 : n % p < p := Int.emod_lt_of_pos _ (by omega)
    have one : ∀ c : Int, 1 < c → ¬ c ∣ 1 := fun c h z => by
      have := Int.le_of_dvd (by omega) z
      omega
    have hg0 : ∀ c : Int, c ∣ p → c ∣ n % p → c ∣ 1 := fun c h1 h2 => hg c (by
      have e1 : n = n % p + p * (n / p) := (Int.emod_add_mul_ediv n p).symm
      rw [e1]
      exact Int.dvd_add h2 (Int.dvd_mul_of_dvd_left h1)) h1
    refine while_by (fun σ H2 => Same H H2 ∧ ∃ (r d o e : Int) (v6 : Option V), σ = [some (.int n), some (.int p), some (.int r), some (.int d), some (.int o), some (.int e), v6] ∧ 1 ≤ d ∧ d < r ∧ r ≤ p ∧ (∀ c : Int, c ∣ r → c ∣ d → c ∣ 1) ∧ p ∣ r - o * n ∧ p ∣ d - e * n)
      (fun σ _ => match σ[3]? with
        | some (some (V.int d)) => d.toNat
        | _ => 0) ⟨Same.updf hT, p, n % p, 0, 1, none, rfl, ?_, hnp2, Int.le_refl _, hg0, ?_, ?_⟩ ?_ ?_
    · by_cases h0 : n % p = 0
      · rw [h0] at hg0
        exact absurd (hg0 p (Int.dvd_refl p) (Int.dvd_zero p)) (one p hp1)
      · omega
    · exact ⟨1, by omega⟩
    · exact ⟨-(n / p), by have := Int.emod_add_mul_ediv n p; rw [Int.mul_neg]; omega⟩
    · rintro σ H2 ⟨hs, r, d, o, e, v6, rfl, h1, h2, h3, h4, h5, h6⟩
      refine ⟨_, rfl, _, _, rfl, rfl, _, rfl, ite2 (fun hd => ?_) (fun hd => ?_)⟩
      · refine ⟨_, rfl, _, rfl, _, _, rfl, rfl, ⟨by omega, div_log (by omega) (by omega)⟩, ?_⟩
        refine ⟨_, rfl, _, rfl, _, rfl, _, rfl, _, _, rfl, rfl, Or.inr ⟨by omega, by omega⟩, _, _, rfl, rfl, _, _, rfl, ?_⟩
        have q0 : 0 ≤ r / d := Int.ediv_nonneg (by omega) (by omega)
        have q1 : r / d ≤ r := Int.ediv_le_self _ (by omega)
        refine ⟨_, rfl, _, rfl, _, rfl, _, rfl, _, _, rfl, rfl, Or.inl ⟨by omega, by omega⟩, _, _, rfl, rfl, _, _, rfl, ?_⟩
        have em : r - r / d * d = r % d := by
          have := Int.emod_add_mul_ediv r d
          rw [Int.mul_comm]
          omega
        have m0 : 0 ≤ r % d := Int.emod_nonneg _ (by omega)
        have m1 : r % d < d := Int.emod_lt_of_pos _ (by omega)
        have g1 : ∀ c : Int, c ∣ d → c ∣ r % d → c ∣ 1 := fun c h1 h2 => h4 c (by
          have e1 : r = r % d + d * (r / d) := (Int.emod_add_mul_ediv r d).symm
          rw [e1]
          exact Int.dvd_add h2 (Int.dvd_mul_of_dvd_left h1)) h1
        have m2 : 1 ≤ r % d := by
          by_cases h0 : r % d = 0
          · rw [h0] at g1
            exact absurd (g1 d (Int.dvd_refl d) (Int.dvd_zero d)) (one d (of_decide_eq_true hd))
          · omega
        refine ⟨⟨hs, d, r - r / d * d, e, o - r / d * e, _, rfl, by omega, by omega, by omega, by rw [em]; exact g1, h6, ?_⟩, ?_⟩
        · have e1 : r - r / d * d - (o - r / d * e) * n = (r - o * n) - r / d * (d - e * n) := by
            rw [Int.sub_mul, Int.mul_sub, Int.mul_assoc]
            omega
          rw [e1]
          exact Int.dvd_sub h5 (Int.dvd_mul_of_dvd_right h6)
        · show (r - r / d * d).toNat < d.toNat
          rw [em]
          omega
      · have hd2 : ¬ d > 1 := fun z => hd (decide_eq_true z)
        have hd1 : d = 1 := by omega
        subst hd1
        refine ⟨_, rfl, _, rfl, _, _, rfl, rfl, (by omega), ?_⟩
        refine k _ _ hs (Int.emod_nonneg _ (by omega)) (Int.emod_lt_of_pos _ (by omega)) ?_
        obtain ⟨c, hc⟩ := h6
        have e2 : (n * (e % p)) % p = (n * e) % p := by rw [Int.mul_emod, Int.emod_emod_of_dvd _ (Int.dvd_refl p), ← Int.mul_emod]
        have e3 : n * e = 1 + p * (-c) := by
          rw [Int.mul_neg, Int.mul_comm n e]
          omega
        rw [e2, e3, Int.add_mul_emod_self_left]
        exact Int.emod_eq_of_lt (by omega) (by omega)
    · rintro σ H2 Q Q' m ⟨v, h1, i, j, h2, h3, c, h4, h5⟩
      exact ⟨v, h1, i, j, h2, h3, c, h4, m _ _ h5⟩
end
end K10
set_option Elab.async false
set_option linter.all false
set_option maxRecDepth 100000
set_option maxHeartbeats 4000000
namespace K10
open PySem PySem.Spec PyProof.Rows L2
theorem cut_to {xs : List V} {m : Nat} (h : m ≤ xs.length) : cutV xs none (some (m : Int)) = xs.take m := by
  unfold cutV
  rw [HT.sIx_none, HT.sIx_nat, List.drop_zero, Nat.sub_zero, Nat.min_eq_left h]
theorem getD_ge {ds : List Int} {j : Nat} (h : ds.length ≤ j) : ds.getD j 0 = 0 := by
  rw [List.getD_eq_getElem?_getD, List.getElem?_eq_none h]
  rfl
theorem getD_lt {ds : List Int} {j : Nat} (h : j < ds.length) : ds.getD j 0 = ds[j] := by
  rw [List.getD_eq_getElem?_getD, List.getElem?_eq_getElem h]
  rfl
theorem at_map {ds : List Int} {j : Nat} (h : j < ds.length) : atI (ds.map V.int) (j : Int) = some (.int (ds.getD j 0)) := by
  refine atI_nat ?_
  rw [List.getElem?_map, List.getElem?_eq_getElem h, getD_lt h]
  rfl
/-- digits without noughts at the high end -/
structure Trim (ds : List Int) (m : Nat) : Prop where
  le : m ≤ ds.length
  z : ∀ j, m ≤ j → ds.getD j 0 = 0
def spTrim (K : PySem.W.Frag) : Sp := fun vs H Q _ => ∃ (a : Addr) (ds : List Int), vs = [.ref a] ∧ SqL K H a (ds.map V.int) ∧ ds.length ≤ 100000 ∧ ∀ (m : Nat) (q : Addr), Trim ds m → H q = none → Q (.ref q) (upd H q (.lst ((ds.take m).map V.int)))
def spAdded : Sp := fun vs H Q _ => ∃ (a b : Addr) (as bs : List Int) (t p : Int), vs = [.ref a, .ref b, .int t, .int p] ∧ H a = some (.lst (as.map V.int)) ∧ H b = some (.lst (bs.map V.int)) ∧ as.length ≤ 1000 ∧ bs.length ≤ 1000 ∧ 0 < p ∧ (-(2 ^ 64) < t ∧ t < 2 ^ 64) ∧
  ∀ (q : Addr) (H' : Hp), Same H H' → H q = none → H' q = some (.lst (((List.range (max as.length bs.length)).map fun j => (as.getD j 0 + t * bs.getD j 0) % p).map V.int)) → Q (.ref q) H'
section
variable {P : Program} {w : World} {K : PySem.W.Frag} {mg : Str → Option Value} {base : Heap} {f : Addr} {fd : FuncData}
theorem scTrim : FnScope ["digits", "many"] ["digits"] (defScope sTrim) := ⟨rfl, rfl, rfl, by decide +kernel, rfl, by decide +kernel, by decide +kernel⟩
theorem ok_trim (F : FnP K "trimmed" sTrim f fd) (Z : Free mg) : FnOk P w K mg base CX0 1 f fd ["digits"] (spTrim K) := by
  refine F.ok scTrim (fun vs H Q E h => ?_) (fun cdv A outer s H vs Q E hr h => ?_)
  · obtain ⟨a, ds, rfl, _⟩ := h
    rfl
  · obtain ⟨a, ds, rfl, hS, hl, k⟩ := h
    have nd := scTrim.nd
    refine ⟨_, PSs.nox (pss_cons (ps_set (i := 1) nd rfl (Or.inl rfl) (pe_callB call_len_seq (by rfl) Z.len (by decide +kernel) (pa_cons (pv 0) pa_nil)))
      (pss_cons (ps_while PassesOwn.never (PW.pt (pw_and (pt_cmpR op_gt (pv 1) pe_int (nomark _)) (pw_and1 (pt_cmpR op_eq (pe_ix ix_list (pv 0) (pe_op op_sub (pv 1) pe_int) (fun _ _ => rfl)) pe_int (nomark _)))))
        (pss_one (ps_set (i := 1) nd rfl (Or.inl rfl) (pe_op op_sub (pv 1) pe_int))))
      (pss_one (ps_ret (pe_slice sl_list (pv 0) po_none (po_some (pv 1))))))), ?_⟩
    refine ⟨_, rfl, a, _, rfl, Or.inl hS, ?_⟩
    refine while_by (fun σ H2 => H2 = H ∧ ∃ m : Nat, σ = [some (.ref a), some (.int m)] ∧ Trim ds m) (fun σ _ => match σ[1]? with
        | some (some (V.int d)) => d.toNat
        | _ => 0) ⟨rfl, ds.length, by rw [List.length_map]; rfl, Nat.le_refl _, fun j hj => getD_ge hj⟩ ?_ ?_
    · rintro σ H2 ⟨rfl, m, rfl, hm⟩
      have fin : ∀ q, H2 q = none → Q (.ref q) (upd H2 q (.lst (cutV (ds.map V.int) none (some (m : Int))))) := fun q hq => by
        rw [cut_to (by rw [List.length_map]; exact hm.le), ← List.map_take]
        exact k m q hm hq
      refine ⟨_, rfl, _, _, rfl, rfl, _, rfl, ?_⟩
      by_cases h0 : (m : Int) > 0
      · rw [decide_eq_true h0]
        refine iteT ⟨_, rfl, _, rfl, _, _, rfl, rfl, a, _, _, .int (ds.getD (m - 1) 0), rfl, rfl, hS, ?_, rfl, _, rfl, ?_⟩
        · have e : (m : Int) - 1 = ((m - 1 : Nat) : Int) := by omega
          rw [e]
          exact at_map (by have := hm.le; omega)
        · refine ite2 (fun hz => ?_) (fun hz => ?_)
          · have hz' : ds.getD (m - 1) 0 = 0 := V.int.inj (of_decide_eq_true hz)
            refine ⟨_, rfl, _, _, rfl, rfl, ⟨rfl, m - 1, ?_, by have := hm.le; omega, fun j hj => ?_⟩, ?_⟩
            · have e : (m : Int) - 1 = ((m - 1 : Nat) : Int) := by omega
              show [some (V.ref a), some (V.int ((m : Int) - 1))] = _
              rw [e]
            · by_cases hj2 : j = m - 1
              · rw [hj2]
                exact hz'
              · exact hm.z j (by omega)
            · show ((m : Int) - 1).toNat < (m : Int).toNat
              omega
          · exact ⟨_, rfl, _, rfl, (m : Int), rfl, a, _, rfl, hS, fin⟩
      · rw [decide_eq_false h0]
        exact iteF (iteF ⟨_, rfl, _, rfl, (m : Int), rfl, a, _, rfl, hS, fin⟩)
    · rintro σ H2 Q Q' hm ⟨v, h1, i, j, h2, h3, c, h4, h5⟩
      refine ⟨v, h1, i, j, h2, h3, c, h4, ?_⟩
      cases c with
      | false => exact iteF (hm _ _ (by simpa using h5))
      | true =>
        obtain ⟨v2, a1, v3, a2, i2, j2, a3, a4, a5, a6, a7, a8, a9, a10, a11, a12, a13, c2, a14, a15⟩ := (by simpa using h5 : _)
        exact iteT ⟨v2, a1, v3, a2, i2, j2, a3, a4, a5, a6, a7, a8, a9, a10, a11, a12, a13, c2, a14, hm _ _ a15⟩
end
end K10
set_option Elab.async false
set_option linter.all false
set_option maxRecDepth 100000
set_option maxHeartbeats 4000000
namespace K10
open PySem PySem.Spec PyProof.Rows L2
theorem flat_rep (n : Nat) : (List.replicate n [V.int 0]).flatten = (List.replicate n (0 : Int)).map V.int := by
  induction n with
  | zero => rfl
  | succ n ih =>
    rw [List.replicate_succ, List.flatten_cons, ih, List.replicate_succ, List.map_cons]
    rfl
theorem pad_get {ds : List Int} {n j : Nat} (h : j < ds.length + n) : ((ds.map V.int) ++ (List.replicate n (0 : Int)).map V.int)[j]? = some (.int (ds.getD j 0)) := by
  rw [← List.map_append, List.getElem?_map]
  by_cases hj : j < ds.length
  · rw [List.getElem?_append_left hj, List.getElem?_eq_getElem hj, getD_lt hj]
    rfl
  · rw [List.getElem?_append_right (by omega), getD_ge (by omega), List.getElem?_replicate, if_pos (by omega)]
    rfl
section
variable {P : Program} {w : World} {K : PySem.W.Frag} {mg : Str → Option Value} {base : Heap} {f fT : Addr} {fd dT : FuncData}
theorem scAdded : FnScope ["one", "other", "times", "prime", "many", "longer", "late", "x", "y"] ["one", "other", "times", "prime"] (defScope sAdded) := ⟨rfl, rfl, rfl, by decide +kernel, rfl, by decide +kernel, by decide +kernel⟩
theorem ok_added (F : FnP K "added" sAdded f fd) (Z : Free mg) : FnOk P w K mg base CX0 1 f fd ["one", "other", "times", "prime"] spAdded := by
  refine F.ok scAdded (fun vs H Q E h => ?_) (fun cdv A outer s H vs Q E hr h => ?_)
  · obtain ⟨a, b, as, bs, t, p, rfl, _⟩ := h
    rfl
  · obtain ⟨a, b, as, bs, t, p, rfl, ha, hb, la, lb, hp, ht, k⟩ := h
    have nd := scAdded.nd
    refine ⟨_, PSs.nox (pss_cons (ps_set (i := 4) nd rfl (Or.inl rfl) (pe_callB (call_max2 rfl) (by rfl) Z.max (by decide +kernel) (pa_cons (pe_callB call_len_seq (by rfl) Z.len (by decide +kernel) (pa_cons (pv 0) pa_nil)) (pa_cons (pe_callB call_len_seq (by rfl) Z.len (by decide +kernel) (pa_cons (pv 1) pa_nil)) pa_nil))))
      (pss_cons (ps_set (i := 5) nd rfl (Or.inl rfl) (pe_op op_cat (pv 0) (pe_op op_rep (pe_lst (pa_cons pe_int pa_nil)) (pe_op op_sub (pv 4) (pe_callB call_len_seq (by rfl) Z.len (by decide +kernel) (pa_cons (pv 0) pa_nil))))))
      (pss_cons (ps_set (i := 6) nd rfl (Or.inl rfl) (pe_op op_cat (pv 1) (pe_op op_rep (pe_lst (pa_cons pe_int pa_nil)) (pe_op op_sub (pv 4) (pe_callB call_len_seq (by rfl) Z.len (by decide +kernel) (pa_cons (pv 1) pa_nil))))))
      (pss_one (ps_ret (pe_lc (own := [("x", 7), ("y", 8)]) (g := gTup K 2 (gCons (gName 7) (gCons (gName 8) gNil))) (tt := tYes) (by rfl) nd (pi_zip (by rfl) Z.zip (pa_cons (pv 5) (pa_cons (pv 6) pa_nil)))
        (blkOk_by (own := [("x", 7), ("y", 8)]) (N := ["one", "other", "times", "prime", "many", "longer", "late", "x", "y"]) (sc := defScope sAdded) (by decide +kernel))
        (fun _ _ _ _ _ => pg_tup rfl (pgs_cons (pg_name (i := 7) nd rfl (Or.inl rfl)) (pgs_cons (pg_name (i := 8) nd rfl (Or.inl rfl)) pgs_nil))) (fun _ _ _ _ _ => pts_nil)
        (fun _ _ _ _ _ => pe_op op_mod (pe_op op_add (pv 7) (pe_op op_mul (pv 2) (pv 8))) (pv 3)))))))), ?_⟩
    obtain ⟨M, hM⟩ : ∃ M : Nat, M = max as.length bs.length := ⟨_, rfl⟩
    rw [← hM] at k
    refine ⟨_, rfl, a, _, rfl, Or.inl (SqL.of ha), _, rfl, b, _, rfl, Or.inl (SqL.of hb), ?_⟩
    refine ⟨_, _, rfl, ?_⟩
    have eM : (if ((bs.map V.int).length : Int) > ((as.map V.int).length : Int) then ((bs.map V.int).length : Int) else ((as.map V.int).length : Int)) = (M : Int) := by
      rw [List.length_map, List.length_map]
      split <;> omega
    rw [eM]
    refine ⟨_, rfl, (by show 1 ≤ sizeLine; decide), fun l1 hl1 => ?_⟩
    have s1 : Same H (upd H l1 (.lst [.int 0])) := Same.updf hl1
    refine ⟨_, rfl, _, rfl, a, _, rfl, Or.inl (SqL.of (s1 _ _ ha)), _, _, rfl, rfl, ?_⟩
    refine ⟨l1, _, [.int 0], rfl, rfl, upd_same, ?_, ?_, ?_, fun l2 hl2 => ?_⟩
    · rw [List.length_map]; omega
    · rw [List.length_map]; omega
    · rw [List.length_map]
      show 1 * _ ≤ sizeLine
      have : (2000 : Nat) ≤ sizeLine := by decide
      omega
    have s2 := s1.trans (Same.updf (o := .lst (List.replicate ((M : Int) - ((as.map V.int).length : Int)).toNat [V.int 0]).flatten) hl2)
    refine ⟨a, l2, _, _, rfl, rfl, s2 _ _ ha, upd_same, ?_, fun l3 hl3 => ?_⟩
    · rw [flat_rep, List.length_map, List.length_map, List.length_replicate]
      have : (2000 : Nat) ≤ sizeLine := by decide
      omega
    rw [flat_rep] at s2 hl3 ⊢
    obtain ⟨HA, eHA⟩ : ∃ X, X = upd (upd (upd H l1 (.lst [.int 0])) l2 (.lst ((List.replicate ((M : Int) - ((as.map V.int).length : Int)).toNat (0 : Int)).map V.int))) l3 (.lst (as.map V.int ++ (List.replicate ((M : Int) - ((as.map V.int).length : Int)).toNat (0 : Int)).map V.int)) := ⟨_, rfl⟩
    rw [← eHA]
    have s3 : Same H HA := by rw [eHA]; exact s2.trans (Same.updf hl3)
    have e3 : HA l3 = some (.lst (as.map V.int ++ (List.replicate ((M : Int) - ((as.map V.int).length : Int)).toNat (0 : Int)).map V.int)) := by rw [eHA]; exact upd_same
    refine ⟨_, rfl, (by show 1 ≤ sizeLine; decide), fun l4 hl4 => ?_⟩
    have s4 : Same HA (upd HA l4 (.lst [.int 0])) := Same.updf hl4
    refine ⟨_, rfl, _, rfl, b, _, rfl, Or.inl (SqL.of ((s3.trans s4) _ _ hb)), _, _, rfl, rfl, ?_⟩
    refine ⟨l4, _, [.int 0], rfl, rfl, upd_same, ?_, ?_, ?_, fun l5 hl5 => ?_⟩
    · rw [List.length_map]; omega
    · rw [List.length_map]; omega
    · rw [List.length_map]
      show 1 * _ ≤ sizeLine
      have : (2000 : Nat) ≤ sizeLine := by decide
      omega
    have s5 := s4.trans (Same.updf (o := .lst (List.replicate ((M : Int) - ((bs.map V.int).length : Int)).toNat [V.int 0]).flatten) hl5)
    refine ⟨b, l5, _, _, rfl, rfl, (s3.trans s5) _ _ hb, upd_same, ?_, fun l6 hl6 => ?_⟩
    · rw [flat_rep, List.length_map, List.length_map, List.length_replicate]
      have : (2000 : Nat) ≤ sizeLine := by decide
      omega
    rw [flat_rep] at s5 hl6 ⊢
    obtain ⟨HB, eHB⟩ : ∃ X, X = upd (upd (upd HA l4 (.lst [.int 0])) l5 (.lst ((List.replicate ((M : Int) - ((bs.map V.int).length : Int)).toNat (0 : Int)).map V.int))) l6 (.lst (bs.map V.int ++ (List.replicate ((M : Int) - ((bs.map V.int).length : Int)).toNat (0 : Int)).map V.int)) := ⟨_, rfl⟩
    rw [← eHB]
    have s6 : Same HA HB := by rw [eHB]; exact s5.trans (Same.updf hl6)
    have e6 : HB l6 = some (.lst (bs.map V.int ++ (List.replicate ((M : Int) - ((bs.map V.int).length : Int)).toNat (0 : Int)).map V.int)) := by rw [eHB]; exact upd_same
    have e3' := s6 _ _ e3
    refine ⟨_, rfl, _, rfl, l3, l6, _, _, rfl, SqL.of e3', SqL.of e6, fun D hD => ?_⟩
    have la' : ((M : Int) - ((as.map V.int).length : Int)).toNat = M - as.length := by rw [List.length_map]; omega
    have lb' : ((M : Int) - ((bs.map V.int).length : Int)).toNat = M - bs.length := by rw [List.length_map]; omega
    rw [la'] at e3'
    rw [lb'] at e6
    refine lc_sel (n := M) (walk_zip (K := K) (a := l3) (b := l6) (xs := as.map V.int ++ (List.replicate (M - as.length) (0 : Int)).map V.int) (ys := bs.map V.int ++ (List.replicate (M - bs.length) (0 : Int)).map V.int) ?_) (fun j => some (.int ((as.getD j 0 + t * bs.getD j 0) % p))) (by omega) hD
      (fun H2 s2 => ⟨SqL.of (s2 _ _ e3'), SqL.of (s2 _ _ e6)⟩) ?_ ?_
    · simp only [List.length_append, List.length_map, List.length_replicate]
      omega
    · rintro i v H2 H3 Qy Qn hi sH ⟨T, x1, x2, rfl, nT, rfl, f1, f2⟩ ky kn
      dsimp only at f1 f2
      rw [pad_get (by omega)] at f1 f2
      obtain rfl := Option.some.inj f1
      obtain rfl := Option.some.inj f2
      refine ⟨T, [_, _], rfl, .inl (.inl upd_same), rfl, _, [_], rfl, _, [], rfl, rfl, ?_⟩
      refine ⟨rfl, _, rfl, _, rfl, _, rfl, _, _, rfl, rfl, Or.inl ht, _, _, rfl, rfl, _, rfl, _, _, rfl, rfl, hp, ?_⟩
      exact ky _ _ (Same.updf nT) rfl
    · intro H2 sH hR
      refine k D H2 ((s3.trans s6).trans sH) ?_ ?_
      · cases q : H D with
        | none => rfl
        | some o =>
          have := (s3.trans s6) _ _ q
          rw [hD] at this
          cases this
      · rw [hR, List.filterMap_eq_map', List.map_map]
        rfl
end
end K10
set_option Elab.async false
set_option linter.all false
set_option maxRecDepth 100000
set_option maxHeartbeats 4000000
namespace K10
open PySem PySem.Spec PyProof.Rows L2
/-- digits times (b0 + b1 x), before the rest is taken -/
def mul2 (b0 b1 : Int) (as : List Int) (k : Nat) : Int := as.getD k 0 * b0 + (if k = 0 then 0 else as.getD (k - 1) 0 * b1)
def mulL (b0 b1 p : Int) (n : Nat) (as : List Int) : List Int := (List.range n).map fun k => mul2 b0 b1 as k % p
theorem getD_take {as : List Int} {i k : Nat} : (as.take i).getD k 0 = if k < i then as.getD k 0 else 0 := by
  rw [List.getD_eq_getElem?_getD, List.getElem?_take, List.getD_eq_getElem?_getD]
  split <;> rfl
theorem mulL_get {b0 b1 p : Int} {n k : Nat} {as : List Int} (h : k < n) : (mulL b0 b1 p n as)[k]? = some (mul2 b0 b1 as k % p) := by
  unfold mulL
  rw [List.getElem?_map, List.getElem?_range h]
  rfl
/-- one digit more: two places change -/
theorem mulL_step {b0 b1 p : Int} {n i : Nat} {as : List Int} (hi : i + 1 < n) (hia : i < as.length) :
    ((mulL b0 b1 p n (as.take i)).set i ((mul2 b0 b1 (as.take i) i % p + as[i] * b0) % p)).set (i + 1) ((mul2 b0 b1 (as.take i) (i + 1) % p + as[i] * b1) % p) = mulL b0 b1 p n (as.take (i + 1)) := by
  have ln : (mulL b0 b1 p n (as.take i)).length = n := by unfold mulL; rw [List.length_map, List.length_range]
  rw [← getD_lt hia]
  refine List.ext_getElem? fun k => ?_
  by_cases hk : k < n
  · rw [mulL_get hk]
    by_cases h1 : k = i + 1
    · subst h1
      rw [List.getElem?_set_self (by rw [List.length_set, ln]; exact hi), Int.emod_add_emod]
      congr 2
      unfold mul2
      simp only [getD_take, Nat.add_sub_cancel]
      repeat' split
      all_goals first | omega | (exfalso; omega)
    · rw [List.getElem?_set_ne (fun e => h1 e.symm)]
      by_cases h2 : k = i
      · subst h2
        rw [List.getElem?_set_self (by rw [ln]; omega), Int.emod_add_emod]
        congr 2
        unfold mul2
        simp only [getD_take]
        repeat' split
        all_goals first | omega | (exfalso; omega)
      · rw [List.getElem?_set_ne (fun e => h2 e.symm), mulL_get hk]
        congr 2
        unfold mul2
        simp only [getD_take]
        repeat' split
        all_goals first | omega | (exfalso; omega)
  · rw [List.getElem?_eq_none (by rw [List.length_set, List.length_set, ln]; omega), List.getElem?_eq_none (by unfold mulL; rw [List.length_map, List.length_range]; omega)]
theorem ixN_nat {n j : Nat} (h : j < n) : ixN n (j : Int) = some j := by
  unfold ixN
  rw [if_pos (by omega), if_pos (by omega)]
  congr 1
def spMult : Sp := fun vs H Q _ => ∃ (a b : Addr) (as : List Int) (b0 b1 p : Int), vs = [.ref a, .ref b, .int p] ∧ H a = some (.lst (as.map V.int)) ∧ H b = some (.lst [.int b0, .int b1]) ∧ as.length ≤ 1000 ∧ 0 < p ∧ (0 ≤ b0 ∧ b0 < 2 ^ 63) ∧ (0 ≤ b1 ∧ b1 < 2 ^ 63) ∧
  ∀ (m : Nat) (q : Addr) (H' : Hp), Trim (mulL b0 b1 p (as.length + 2) as) m → Same H H' → H q = none → H' q = some (.lst (((mulL b0 b1 p (as.length + 2) as).take m).map V.int)) → Q (.ref q) H'
section
variable {P : Program} {w : World} {K : PySem.W.Frag} {mg : Str → Option Value} {base : Heap} {f fT : Addr} {fd dT : FuncData}
theorem scMult : FnScope ["one", "other", "prime", "found", "at", "x", "step", "y"] ["one", "other", "prime"] (defScope sMult) := ⟨rfl, rfl, rfl, by decide +kernel, rfl, by decide +kernel, by decide +kernel⟩
theorem ok_mult (F : FnP K "multiplied" sMult f fd) (Z : Free mg) (gT : mg "trimmed" = some (.ref fT)) (FT : FnP K "trimmed" sTrim fT dT) (GT : FnOk P w K mg base CX0 1 fT dT ["digits"] (spTrim K)) : FnOk P w K mg base CX0 2 f fd ["one", "other", "prime"] spMult := by
  have bT : Binds K dT ["digits"] [] := FT.bindsN fun _ _ _ _ _ _ us hl => match us, hl with | [_], _ => rfl
  refine F.ok scMult (fun vs H Q E h => ?_) (fun cdv A outer s H vs Q E hr h => ?_)
  · obtain ⟨a, b, as, b0, b1, p, rfl, _⟩ := h
    rfl
  · obtain ⟨a, b, as, b0, b1, p, rfl, ha, hb, la, hp, hb0, hb1, k⟩ := h
    have nd := scMult.nd
    refine ⟨_, PSs.nox (pss_cons (ps_set (i := 3) nd rfl (Or.inl rfl) (pe_op op_rep (pe_lst (pa_cons pe_int pa_nil)) (pe_op op_add (pe_callB call_len_seq (by rfl) Z.len (by decide +kernel) (pa_cons (pv 0) pa_nil)) (pe_callB call_len_seq (by rfl) Z.len (by decide +kernel) (pa_cons (pv 1) pa_nil)))))
      (pss_cons (ps_for PassesOwn.never rfl (pi_enum (by rfl) Z.enumerate (pa_cons (pv 0) pa_nil)) (pg_tup rfl (pgs_cons (pg_name (i := 4) nd rfl (Or.inl rfl)) (pgs_cons (pg_name (i := 5) nd rfl (Or.inl rfl)) pgs_nil)))
        (pss_one (ps_for PassesOwn.never rfl (pi_enum (by rfl) Z.enumerate (pa_cons (pv 1) pa_nil)) (pg_tup rfl (pgs_cons (pg_name (i := 6) nd rfl (Or.inl rfl)) (pgs_cons (pg_name (i := 7) nd rfl (Or.inl rfl)) pgs_nil)))
          (pss_one (ps_asg (pe_op op_mod (pe_op op_add (pe_ix ix_list (pv 3) (pe_op op_add (pv 4) (pv 6)) (fun _ _ => rfl)) (pe_op op_mul (pv 5) (pv 7))) (pv 2)) (pg_sub (pv 3) (pe_op op_add (pv 4) (pv 6)) set_list))))))
      (pss_one (ps_ret (pe_call GT hr rfl gT FT.kp bT .nil pass0 (pa_cons (pv 3) pa_nil)))))), ?_⟩
    refine ⟨(by show 1 ≤ sizeLine; decide), fun l1 hl1 => ?_⟩
    have s1 : Same H (upd H l1 (.lst [.int 0])) := Same.updf hl1
    refine ⟨_, rfl, a, _, rfl, Or.inl (SqL.of (s1 _ _ ha)), _, rfl, b, _, rfl, Or.inl (SqL.of (s1 _ _ hb)), _, _, rfl, rfl, ?_⟩
    have e2 : (((as.map V.int).length : Int) + (([V.int b0, .int b1] : List V).length : Int)).toNat = as.length + 2 := by
      rw [List.length_map]
      show ((as.length : Int) + 2).toNat = _
      omega
    refine ⟨l1, _, [.int 0], rfl, rfl, upd_same, ?_, ?_, ?_, fun l2 hl2 => ?_⟩
    · have e3 : (([V.int b0, .int b1] : List V).length : Int) = 2 := rfl
      rw [List.length_map, e3]
      omega
    · have e3 : (([V.int b0, .int b1] : List V).length : Int) = 2 := rfl
      rw [List.length_map, e3]
      omega
    · rw [e2]
      show 1 * (as.length + 2) ≤ sizeLine
      have : (2000 : Nat) ≤ sizeLine := by decide
      omega
    rw [e2, flat_rep]
    have z0 : (List.replicate (as.length + 2) (0 : Int)) = mulL b0 b1 p (as.length + 2) (as.take 0) := by
      unfold mulL
      refine List.ext_getElem? fun j => ?_
      rw [List.getElem?_replicate, List.getElem?_map]
      by_cases hj : j < as.length + 2
      · rw [if_pos hj, List.getElem?_range hj]
        show some 0 = some (mul2 b0 b1 (as.take 0) j % p)
        have : mul2 b0 b1 (as.take 0) j = 0 := by
          unfold mul2
          simp only [getD_take]
          repeat' split
          all_goals first | omega | (exfalso; omega)
        rw [this, Int.zero_emod]
      · rw [if_neg hj, List.getElem?_eq_none (by rw [List.length_range]; omega)]
        rfl
    rw [z0]
    obtain ⟨H0, eH0⟩ : ∃ X, X = upd (upd H l1 (.lst [.int 0])) l2 (.lst ((mulL b0 b1 p (as.length + 2) (as.take 0)).map V.int)) := ⟨_, rfl⟩
    rw [← eH0]
    have hn2 : H l2 = none := by
      cases q : H l2 with
      | none => rfl
      | some o =>
        have := s1 _ _ q
        rw [hl2] at this
        cases this
    have s0 : Same H H0 := by rw [eH0]; exact s1.trans (Same.updf hl2)
    have f0 : H0 l2 = some (.lst ((mulL b0 b1 p (as.length + 2) (as.take 0)).map V.int)) := by rw [eH0]; exact upd_same
    refine ⟨_, rfl, a, _, rfl, SqL.of (s0 _ _ ha), ?_⟩
    refine for_it (walk_enum (K := K) (a := a) (xs := as.map V.int)) (fun i σ H2 => Same H H2 ∧ H2 l2 = some (.lst ((mulL b0 b1 p (as.length + 2) (as.take i)).map V.int)) ∧ ∃ v4 v5 v6 v7, σ = [some (.ref a), some (.ref b), some (.int p), some (.ref l2), v4, v5, v6, v7])
      ⟨s0, f0, none, none, none, none, rfl⟩ (fun i σ H2 _ h => SqL.of (h.1 _ _ ha)) ?_ ?_
    · rintro i v σ H2 H3 hi ⟨sH, fH, v4, v5, v6, v7, rfl⟩ ⟨T, x1, x2, rfl, nT, rfl, g1, g2⟩
      dsimp only at g1 g2
      rw [List.length_map] at hi
      rw [List.getElem?_map, List.getElem?_eq_getElem hi] at g2
      obtain rfl := Option.some.inj g1
      obtain rfl := Option.some.inj g2
      refine ⟨T, [_, _], rfl, .inl (.inl upd_same), rfl, _, [_], rfl, _, [], rfl, rfl, ?_⟩
      have sT : Same H2 (upd H2 T (.tup [.int (i : Nat), .int as[i]])) := Same.updf nT
      have fT' := sT _ _ fH
      refine ⟨_, rfl, b, _, rfl, SqL.of ((sH.trans sT) _ _ hb), ?_⟩
      -- the two places
      refine for_it (walk_enum (K := K) (a := b) (xs := [V.int b0, .int b1])) (fun j σ H3 => Same H H3 ∧ H3 l2 = some (.lst ((if j = 0 then mulL b0 b1 p (as.length + 2) (as.take i) else if j = 1 then (mulL b0 b1 p (as.length + 2) (as.take i)).set i ((mul2 b0 b1 (as.take i) i % p + as[i] * b0) % p) else mulL b0 b1 p (as.length + 2) (as.take (i + 1))).map V.int)) ∧ ∃ v6 v7, σ = [some (.ref a), some (.ref b), some (.int p), some (.ref l2), some (.int (i : Nat)), some (.int as[i]), v6, v7])
        ⟨sH.trans sT, fT', v6, v7, rfl⟩ (fun j σ H3 _ h => SqL.of (h.1 _ _ hb)) ?_ ?_
      · rintro j v σ H3 H4 hj ⟨sH3, fH3, w6, w7, rfl⟩ ⟨T2, y1, y2, rfl, nT2, rfl, g3, g4⟩
        dsimp only at g3 g4
        obtain rfl := Option.some.inj g3
        have sT2 : Same H3 (upd H3 T2 (.tup [.int (j : Nat), y2])) := Same.updf nT2
        have fT2 := sT2 _ _ fH3
        refine ⟨T2, [_, _], rfl, .inl (.inl upd_same), rfl, _, [_], rfl, _, [], rfl, rfl, ?_⟩
        have hj2 : j = 0 ∨ j = 1 := by
          have : j < 2 := hj
          omega
        rcases hj2 with rfl | rfl
        · obtain rfl : V.int b0 = y2 := Option.some.inj g4
          rw [if_pos rfl] at fT2
          refine ⟨_, rfl, _, rfl, _, rfl, _, _, rfl, rfl, l2, _, _, .int (mul2 b0 b1 (as.take i) i % p), rfl, rfl, SqL.of fT2, ?_, _, rfl, _, rfl, _, _, rfl, rfl, Or.inr ⟨by omega, by omega⟩, _, _, rfl, rfl, _, rfl, _, _, rfl, rfl, hp, ?_⟩
          · have e : ((i : Nat) : Int) + ((0 : Nat) : Int) = ((i : Nat) : Int) := by omega
            rw [e]
            refine atI_nat ?_
            rw [List.getElem?_map, mulL_get (by omega)]
            rfl
          refine ⟨_, rfl, _, rfl, _, rfl, _, _, rfl, rfl, l2, _, _, i, rfl, rfl, fT2, ?_, ?_⟩
          · have e : ((i : Nat) : Int) + ((0 : Nat) : Int) = ((i : Nat) : Int) := by omega
            rw [e]
            exact ixN_nat (by rw [List.length_map]; unfold mulL; rw [List.length_map, List.length_range]; omega)
          refine ⟨fun c o ec => ?_, ?_, _, _, rfl⟩
          · rw [upd_ne (ne_of_none ec hn2)]
            exact sT2 _ _ (sH3 _ _ ec)
          · rw [upd_same, ← List.map_set]
            rfl
        · obtain rfl : V.int b1 = y2 := Option.some.inj g4
          rw [if_neg (by decide), if_pos rfl] at fT2
          refine ⟨_, rfl, _, rfl, _, rfl, _, _, rfl, rfl, l2, _, _, .int (mul2 b0 b1 (as.take i) (i + 1) % p), rfl, rfl, SqL.of fT2, ?_, _, rfl, _, rfl, _, _, rfl, rfl, Or.inr ⟨by omega, by omega⟩, _, _, rfl, rfl, _, rfl, _, _, rfl, rfl, hp, ?_⟩
          · have e : ((i : Nat) : Int) + ((1 : Nat) : Int) = ((i + 1 : Nat) : Int) := by omega
            rw [e]
            refine atI_nat ?_
            rw [List.getElem?_map, List.getElem?_set_ne (by omega), mulL_get (by omega)]
            rfl
          refine ⟨_, rfl, _, rfl, _, rfl, _, _, rfl, rfl, l2, _, _, i + 1, rfl, rfl, fT2, ?_, ?_⟩
          · have e : ((i : Nat) : Int) + ((1 : Nat) : Int) = ((i + 1 : Nat) : Int) := by omega
            rw [e]
            exact ixN_nat (by rw [List.length_map, List.length_set]; unfold mulL; rw [List.length_map, List.length_range]; omega)
          refine ⟨fun c o ec => ?_, ?_, _, _, rfl⟩
          · rw [upd_ne (ne_of_none ec hn2)]
            exact sT2 _ _ (sH3 _ _ ec)
          · rw [upd_same, ← List.map_set, if_neg (by decide), if_neg (by decide), ← mulL_step (by omega) hi]
      · rintro σ H3 ⟨sH3, fH3, w6, w7, rfl⟩
        exact ⟨sH3, fH3, _, _, _, _, rfl⟩
    · rintro σ H2 ⟨sH, fH, v4, v5, v6, v7, rfl⟩
      rw [List.length_map, List.take_length] at fH
      refine ⟨_, rfl, l2, mulL b0 b1 p (as.length + 2) as, rfl, SqL.of fH, by unfold mulL; rw [List.length_map, List.length_range]; omega, fun m q hm hq => ?_⟩
      refine k m q _ hm (sH.trans (Same.updf hq)) ?_ upd_same
      cases e : H q with
      | none => rfl
      | some o =>
        have := sH _ _ e
        rw [hq] at this
        cases this
end
end K10
set_option Elab.async false
set_option linter.all false
set_option maxRecDepth 100000
set_option maxHeartbeats 4000000
/-! Lines as objects: their fields, what their methods tell; digits and numbers of pages. -/
namespace K10
open PySem PySem.Spec PyProof.Rows L2
abbrev cL (K : PySem.W.Frag) : Addr := He.ga K "Line"
abbrev mL (K : PySem.W.Frag) (m : Str) : Addr := He.ma K (cL K) m
abbrev sLine (j : Nat) : Stmt := inClass (top 25) j
abbrev FnM (K : PySem.W.Frag) (m qual : Str) (j : Nat) (fd : FuncData) : Prop := FunD K m qual (defArgs (sLine j)) (defBody (sLine j)) (defScope (sLine j)) [] [] (mL K m) fd
/-- a line over p with c cells and the size s -/
structure LineAt (K : PySem.W.Frag) (H : Hp) (x : V) (p c s : Int) : Prop where
  at_ : ∃ (a dx : Addr) (fs : List (Str × V)), x = .ref a ∧ H a = some (.ins (cL K) dx fs) ∧ fs.lookup ("_prime" : Str) = some (.int p) ∧ fs.lookup ("_cells" : Str) = some (.int c) ∧ fs.lookup ("_size" : Str) = some (.int s) ∧ fs.lookup ("prime" : Str) = none ∧ fs.lookup ("cells" : Str) = none ∧ fs.lookup ("size" : Str) = none
theorem LineAt.same {K : PySem.W.Frag} {H H' : Hp} {x : V} {p c s : Int} (k : Same H H') (h : LineAt K H x p c s) : LineAt K H' x p c s := by
  obtain ⟨a, dx, fs, e1, e2, r⟩ := h
  exact ⟨a, dx, fs, e1, k _ _ e2, r⟩
def spGet (K : PySem.W.Frag) (g : Int → Int → Int → Int) : Sp := fun vs H Q _ => ∃ (x : V) (p c s : Int), vs = [x] ∧ LineAt K H x p c s ∧ Q (.int (g p c s)) H
/-- what is read of the class -/
structure LC (K : PySem.W.Frag) : Prop where
  cl : Cls K (cL K)
  nP : NoAttr K (cL K) "_prime"
  nC : NoAttr K (cL K) "_cells"
  nS : NoAttr K (cL K) "_size"
  mP : Meth K (cL K) "prime" (mL K "prime")
  mC : Meth K (cL K) "cells" (mL K "cells")
  mS : Meth K (cL K) "size" (mL K "size")
section
variable {P : Program} {w : World} {K : PySem.W.Frag} {mg : Str → Option Value} {base : Heap} {fd : FuncData}
theorem scGet1 : FnScope ["self"] ["self"] (defScope (sLine 1)) := ⟨rfl, rfl, rfl, by decide +kernel, rfl, by decide +kernel, by decide +kernel⟩
theorem scGet2 : FnScope ["self"] ["self"] (defScope (sLine 2)) := ⟨rfl, rfl, rfl, by decide +kernel, rfl, by decide +kernel, by decide +kernel⟩
theorem scGet3 : FnScope ["self"] ["self"] (defScope (sLine 3)) := ⟨rfl, rfl, rfl, by decide +kernel, rfl, by decide +kernel, by decide +kernel⟩
theorem ok_prime {q : Str} (F : FnM K "prime" q 1 fd) (L : LC K) : FnOk P w K mg base CX0 1 (mL K "prime") fd ["self"] (spGet K fun p _ _ => p) := by
  refine F.ok scGet1 (fun vs H Q E h => ?_) (fun cdv A outer s H vs Q E hr h => ?_)
  · obtain ⟨x, p, c, s, rfl, _⟩ := h
    rfl
  · obtain ⟨x, p, c, s, rfl, ⟨a, dx, fs, rfl, e, e1, _⟩, k⟩ := h
    exact ⟨_, PSs.nox (pss_one (ps_ret (pe_fld (pv 0) rfl))), _, rfl, a, _, dx, fs, _, rfl, e, L.cl, L.nP, e1, k⟩
theorem ok_cells {q : Str} (F : FnM K "cells" q 2 fd) (L : LC K) : FnOk P w K mg base CX0 1 (mL K "cells") fd ["self"] (spGet K fun _ c _ => c) := by
  refine F.ok scGet2 (fun vs H Q E h => ?_) (fun cdv A outer s H vs Q E hr h => ?_)
  · obtain ⟨x, p, c, s, rfl, _⟩ := h
    rfl
  · obtain ⟨x, p, c, s, rfl, ⟨a, dx, fs, rfl, e, _, e1, _⟩, k⟩ := h
    exact ⟨_, PSs.nox (pss_one (ps_ret (pe_fld (pv 0) rfl))), _, rfl, a, _, dx, fs, _, rfl, e, L.cl, L.nC, e1, k⟩
theorem ok_size {q : Str} (F : FnM K "size" q 3 fd) (L : LC K) : FnOk P w K mg base CX0 1 (mL K "size") fd ["self"] (spGet K fun _ _ s => s) := by
  refine F.ok scGet3 (fun vs H Q E h => ?_) (fun cdv A outer s H vs Q E hr h => ?_)
  · obtain ⟨x, p, c, s, rfl, _⟩ := h
    rfl
  · obtain ⟨x, p, c, s, rfl, ⟨a, dx, fs, rfl, e, _, _, e1, _⟩, k⟩ := h
    exact ⟨_, PSs.nox (pss_one (ps_ret (pe_fld (pv 0) rfl))), _, rfl, a, _, dx, fs, _, rfl, e, L.cl, L.nS, e1, k⟩
end
/-- the three methods -/
structure LOk (P : Program) (w : World) (K : PySem.W.Frag) (mg : Str → Option Value) (base : Heap) : Prop where
  lc : LC K
  gl : mg "Line" = some (.ref (cL K))
  P1 : ∃ fd, FnOk P w K mg base CX0 1 (mL K "prime") fd ["self"] (spGet K fun p _ _ => p) ∧ Binds K fd ["self"] []
  C1 : ∃ fd, FnOk P w K mg base CX0 1 (mL K "cells") fd ["self"] (spGet K fun _ c _ => c) ∧ Binds K fd ["self"] []
  S1 : ∃ fd, FnOk P w K mg base CX0 1 (mL K "size") fd ["self"] (spGet K fun _ _ s => s) ∧ Binds K fd ["self"] []
/-- a method asked of what stands in a slot -/
def tGet (K : PySem.W.Frag) (i : Nat) (g : Int → Int → Int → Int) : TE := fun σ H Q => ∃ (x : V) (p c s : Int), σ[i]? = some (some x) ∧ LineAt K H x p c s ∧ Q (.int (g p c s)) H
theorem get_of {K : PySem.W.Frag} {i : Nat} {m : Str} {g : Int → Int → Int → Int} (hm : ∀ {H : Hp} {x : V} {p c s : Int}, LineAt K H x p c s → ∃ (a dx : Addr) (fs : List (Str × V)), x = .ref a ∧ H a = some (.ins (cL K) dx fs) ∧ fs.lookup m = none) {σ : L2.St} {H : Hp} {Q : VK} (h : tGet K i g σ H Q) :
    tMeth (cL K) m (spGet K g) [] (fun _ _ _ => False) (tVar i) tNil σ H Q := by
  obtain ⟨x, p, c, s, e, l, q⟩ := h
  obtain ⟨a, dx, fs, e1, e2, e3⟩ := hm l
  exact ⟨x, e, a, dx, fs, e1, e2, e3, x, p, c, s, rfl, l, q⟩
section
variable {X : Cx} {i : Nat} {x : Str} {p0 apos pos : Pos} {e : Expr}
theorem pe_prime {pl : Sem Bool} (O : LOk X.prog X.w X.K X.mg X.base) (hr : Room 1 X.A) (he : PE X e (tVar i))
    (ht : eval (.Call (.Attribute e "prime" apos) [] [] pos) X.env = (do
      let ov ← eval e X.env
      standAt apos.atName
      let (f, first) ← holding [ov] (getMethod ov "prime" pl)
      callWith pos f first (backTo pos (starEach [] X.env)) (backToKw pos (keywordEach [] X.env))) := by rfl) : PE X (.Call (.Attribute e "prime" apos) [] [] pos) (tGet X.K i fun p _ _ => p) := by
  obtain ⟨fd, F, b⟩ := O.P1
  exact ⟨fun pins s σ H Q I h => (pe_meth0 he O.lc.cl O.lc.mP F hr b .nil pass0 ht).run pins s σ H Q I (get_of (fun l => by
    obtain ⟨a, dx, fs, e1, e2, _, _, _, e3, _⟩ := l
    exact ⟨a, dx, fs, e1, e2, e3⟩) h)⟩
theorem pe_cells {pl : Sem Bool} (O : LOk X.prog X.w X.K X.mg X.base) (hr : Room 1 X.A) (he : PE X e (tVar i))
    (ht : eval (.Call (.Attribute e "cells" apos) [] [] pos) X.env = (do
      let ov ← eval e X.env
      standAt apos.atName
      let (f, first) ← holding [ov] (getMethod ov "cells" pl)
      callWith pos f first (backTo pos (starEach [] X.env)) (backToKw pos (keywordEach [] X.env))) := by rfl) : PE X (.Call (.Attribute e "cells" apos) [] [] pos) (tGet X.K i fun _ c _ => c) := by
  obtain ⟨fd, F, b⟩ := O.C1
  exact ⟨fun pins s σ H Q I h => (pe_meth0 he O.lc.cl O.lc.mC F hr b .nil pass0 ht).run pins s σ H Q I (get_of (fun l => by
    obtain ⟨a, dx, fs, e1, e2, _, _, _, _, e3, _⟩ := l
    exact ⟨a, dx, fs, e1, e2, e3⟩) h)⟩
theorem pe_size {pl : Sem Bool} (O : LOk X.prog X.w X.K X.mg X.base) (hr : Room 1 X.A) (he : PE X e (tVar i))
    (ht : eval (.Call (.Attribute e "size" apos) [] [] pos) X.env = (do
      let ov ← eval e X.env
      standAt apos.atName
      let (f, first) ← holding [ov] (getMethod ov "size" pl)
      callWith pos f first (backTo pos (starEach [] X.env)) (backToKw pos (keywordEach [] X.env))) := by rfl) : PE X (.Call (.Attribute e "size" apos) [] [] pos) (tGet X.K i fun _ _ s => s) := by
  obtain ⟨fd, F, b⟩ := O.S1
  exact ⟨fun pins s σ H Q I h => (pe_meth0 he O.lc.cl O.lc.mS F hr b .nil pass0 ht).run pins s σ H Q I (get_of (fun l => by
    obtain ⟨a, dx, fs, e1, e2, _, _, _, _, _, e3⟩ := l
    exact ⟨a, dx, fs, e1, e2, e3⟩) h)⟩
end
end K10
set_option Elab.async false
set_option linter.all false
set_option maxRecDepth 100000
set_option maxHeartbeats 4000000
namespace K10
open PySem PySem.Spec PyProof.Rows L2
abbrev sNeedL : Stmt := top 27
abbrev sDigits : Stmt := top 28
abbrev sNumBy : Stmt := top 29
abbrev sSignsBy : Stmt := top 30
abbrev sNeedSigns : Stmt := top 31
abbrev sPageOf : Stmt := top 35
/-- a statement that is never come to -/
theorem ps_dead {X : Cx} {st : Stmt} : PS X st (fun _ _ _ => False) := ⟨fun _ _ _ _ _ _ h => h.elim⟩
/-- that a line is one of its class -/
structure LI (K : PySem.W.Frag) : Prop where
  cl : Cls K (cL K)
  ha : PySem.W.findIn K (.ref (cL K)) "__class__" = some (some (.builtin "object.__class__"))
  hn : PySem.W.specialIn K (.builtin "object.__class__") "__get__" = some (some (.builtin "getset_descriptor.__get__"))
  ht : PySem.W.takesIn K (.builtin "object.__class__") = some true
  hm : PySem.W.mroIn K (cL K) (.type "object") = some true
/-- what is left of a number behind so many digits -/
def quo (p : Int) : Nat → Int → Int
  | 0, n => n
  | i + 1, n => quo p i n / p
def digs (p : Int) (i : Nat) (n : Int) : List Int := (List.range i).map fun j => quo p j n % p
theorem digs_succ (p : Int) (i : Nat) (n : Int) : digs p (i + 1) n = digs p i n ++ [quo p i n % p] := by
  unfold digs
  rw [List.range_succ, List.map_append]
  rfl
theorem digs_len (p : Int) (i : Nat) (n : Int) : (digs p i n).length = i := by
  unfold digs
  rw [List.length_map, List.length_range]
theorem quo_nn {p n : Int} (hp : 0 < p) (hn : 0 ≤ n) : ∀ i, 0 ≤ quo p i n
  | 0 => hn
  | i + 1 => Int.ediv_nonneg (quo_nn hp hn i) (by omega)
def nBy (p : Int) (ds : List Int) : Int := ds.foldr (fun d t => t * p + d) 0
def signs (p : Int) (c : Nat) (ds : List Int) : List Int := (List.range c).map fun (j : Nat) => wAt p (1 + (j : Int)) ds
structure LB (p c s : Int) : Prop where
  p1 : 1 < p
  p2 : p < 2 ^ 63
  c1 : 1 ≤ c
  c2 : c ≤ 1000
  s1 : 1 ≤ s
  s2 : s ≤ 1000
def spNeedL (K : PySem.W.Frag) : Sp := fun vs H Q _ => ∃ (x : V) (p c s : Int), vs = [x] ∧ LineAt K H x p c s ∧ Q .non H
def spDigits (K : PySem.W.Frag) : Sp := fun vs H Q _ => ∃ (x : V) (p c s n : Int), vs = [x, .int n] ∧ LineAt K H x p c s ∧ LB p c s ∧ 0 ≤ n ∧ quo p s.toNat n = 0 ∧
  ∀ q H', Same H H' → H q = none → H' q = some (.lst ((digs p s.toNat n).map V.int)) → Q (.ref q) H'
def spNumBy (K : PySem.W.Frag) : Sp := fun vs H Q _ => ∃ (x : V) (a : Addr) (ds : List Int) (p c s : Int), vs = [x, .ref a] ∧ LineAt K H x p c s ∧ LB p c s ∧ SqL K H a (ds.map V.int) ∧ Q (.int (nBy p ds)) H
def spSignsBy (K : PySem.W.Frag) : Sp := fun vs H Q _ => ∃ (x : V) (a : Addr) (ds : List Int) (p c s : Int), vs = [x, .ref a] ∧ LineAt K H x p c s ∧ LB p c s ∧ SqL K H a (ds.map V.int) ∧
  ∀ q H', Same H H' → H q = none → H' q = some (.lst ((signs p c.toNat ds).map V.int)) → Q (.ref q) H'
def spPageOf (K : PySem.W.Frag) : Sp := fun vs H Q _ => ∃ (x : V) (p c s n : Int), vs = [x, .int n] ∧ LineAt K H x p c s ∧ LB p c s ∧ 0 ≤ n ∧ quo p s.toNat n = 0 ∧
  ∀ q H', Same H H' → H q = none → H' q = some (.lst ((signs p c.toNat (digs p s.toNat n)).map V.int)) → Q (.ref q) H'
theorem none_back {H H' : Hp} {q : Addr} (k : Same H H') (h : H' q = none) : H q = none := by
  cases e : H q with
  | none => rfl
  | some o =>
    have := k _ _ e
    rw [h] at this
    cases this
section
variable {P : Program} {w : World} {K : PySem.W.Frag} {mg : Str → Option Value} {base : Heap} {f fC fW fN fD fS : Addr} {fd dC dW dN dD dS : FuncData}
theorem scNeedL : FnScope ["line"] ["line"] (defScope sNeedL) := ⟨rfl, rfl, rfl, by decide +kernel, rfl, by decide +kernel, by decide +kernel⟩
theorem ok_needL (F : FnP K "need_line" sNeedL f fd) (Z : Free mg) (gL : mg "Line" = some (.ref (cL K))) (L : LI K) : FnOk P w K mg base CX0 1 f fd ["line"] (spNeedL K) := by
  refine F.ok scNeedL (fun vs H Q E h => ?_) (fun cdv A outer s H vs Q E hr h => ?_)
  · obtain ⟨x, p, c, s, rfl, _⟩ := h
    rfl
  · obtain ⟨x, p, c, s, rfl, ⟨a, dx, fs, rfl, e, _⟩, k⟩ := h
    refine ⟨_, PSs.nox (pss_one (ps_if (pt_not (pt_val (pe_callB call_isi (by rfl) Z.isi (by decide +kernel) (pa_cons (pv 0) (pa_cons (pe_glob (v := .ref (cL K)) (by rfl) gL rfl) pa_nil))))) (pss_one ps_dead) pss_nil)), ?_⟩
    refine ⟨_, rfl, .ref a, .ref (cL K), .ref (cL K), .ref (cL K), true, rfl, .own _, .base (.ins e L.cl L.ha L.hn L.ht L.hm), ?_, true, rfl, iteF k⟩
    unfold PySem.W.kitOne
    rw [if_pos (beq_self_eq_true _)]
theorem scDigits : FnScope ["line", "number", "found", "_", "digit"] ["line", "number"] (defScope sDigits) := ⟨rfl, rfl, rfl, by decide +kernel, rfl, by decide +kernel, by decide +kernel⟩
theorem ok_digits (F : FnP K "digits_of" sDigits f fd) (Z : Free mg) (O : LOk P w K mg base) (gC : mg "is_count" = some (.ref fC)) (FC : FnP K "is_count" sCount fC dC) (GC : FnOk P w K mg base CX0 2 fC dC ["value"] spCount) :
    FnOk P w K mg base CX0 3 f fd ["line", "number"] (spDigits K) := by
  have bC : Binds K dC ["value"] [] := FC.bindsN fun _ _ _ _ _ _ us hl => match us, hl with | [_], _ => rfl
  refine F.ok scDigits (fun vs H Q E h => ?_) (fun cdv A outer s H vs Q E hr h => ?_)
  · obtain ⟨x, p, c, s, n, rfl, _⟩ := h
    rfl
  · obtain ⟨x, p, c, z, n, rfl, hL, B, hn, hz, k⟩ := h
    obtain ⟨p1, p2, c1, c2, z1, z2⟩ := B
    have nd := scDigits.nd
    have hr1 : Room 1 _ := hr.mono (by decide)
    refine ⟨_, PSs.nox (pss_cons (ps_if (pt_not (pt_val (pe_call GC hr rfl gC FC.kp bC .nil pass0 (pa_cons (pv 1) pa_nil)))) (pss_one (ps_ret pe_non)) pss_nil)
      (pss_cons (ps_set (i := 2) nd rfl (Or.inl rfl) (pe_lst pa_nil))
      (pss_cons (ps_for PassesOwn.never rfl (pi_range1 (by rfl) Z.range (pa_cons (pe_size O hr1 (pv 0)) pa_nil)) (pg_name (i := 3) nd rfl (Or.inl rfl))
        (pss_cons (ps_asg (pe_callB call_divmodW (by rfl) Z.divmod (by decide +kernel) (pa_cons (pv 1) (pa_cons (pe_prime O hr1 (pv 0)) pa_nil))) (pg_tup rfl (pgs_cons (pg_name (i := 1) nd rfl (Or.inl rfl)) (pgs_cons (pg_name (i := 4) nd rfl (Or.inl rfl)) pgs_nil))))
        (pss_one (ps_expr (pe_bm PySem.F.plainAttrs_list PySem.F.slot_list_append PySem.F.type_list_append mt_append (pv 2) (pa_cons (pv 4) pa_nil))))))
      (pss_cons (ps_if (pt_cmpR op_gt (pv 1) pe_int (nomark _)) (pss_one (ps_ret pe_non)) pss_nil)
      (pss_one (ps_ret (pv 2))))))), ?_⟩
    refine ⟨_, rfl, n, rfl, _, rfl, ?_⟩
    rw [decide_eq_true (show n ≥ 0 from hn)]
    refine iteF ⟨(by show 0 ≤ sizeLine; decide), fun fo hfo => ?_⟩
    have s0 : Same H (upd H fo (.lst [])) := Same.updf hfo
    refine ⟨x, p, c, z, rfl, hL.same s0, z, rfl, by omega, by omega, ?_⟩
    refine for_it (walk_range (lo := 0) (n := z.toNat)) (fun i σ H2 => Same H H2 ∧ H2 fo = some (.lst ((digs p i n).map V.int)) ∧ ∃ v3 v4, σ = [some x, some (.int (quo p i n)), some (.ref fo), v3, v4]) ⟨s0, upd_same, none, none, rfl⟩ (fun _ _ _ _ _ => trivial) ?_ ?_
    · rintro i v σ H2 H3 hi ⟨sH, fH, v3, v4, rfl⟩ ⟨rfl, rfl⟩
      refine ⟨_, rfl, x, p, c, z, rfl, hL.same sH, _, _, rfl, ⟨(show 0 < p by omega), PyProof.noPylong_of_log2 (show p.natAbs.log2 < 9000 from div_log (by omega) (by omega))⟩, fun T hT => ?_⟩
      have sT : Same H3 (upd H3 T (.tup [.int (quo p i n / p), .int (quo p i n % p)])) := Same.updf hT
      refine ⟨T, [_, _], rfl, .inl (.inl upd_same), rfl, _, [_], rfl, _, [], rfl, rfl, ?_⟩
      refine ⟨_, rfl, Or.inl ⟨rfl, _, SqL.of (sT _ _ fH)⟩, _, rfl, fo, _, _, rfl, rfl, sT _ _ fH, ?_, ?_⟩
      · rw [List.length_map, digs_len]
        have : (2000 : Nat) ≤ sizeLine := by decide
        omega
      · refine ⟨fun b o e => ?_, ?_, _, _, rfl⟩
        · rw [upd_ne (ne_of_none e hfo)]
          exact sT _ _ (sH _ _ e)
        · rw [upd_same, digs_succ, List.map_append]
          rfl
    · rintro σ H2 ⟨sH, fH, v3, v4, rfl⟩
      refine ⟨_, rfl, _, _, rfl, rfl, _, rfl, ?_⟩
      rw [hz, decide_eq_false (by omega)]
      exact iteF ⟨_, rfl, k fo H2 sH hfo fH⟩
theorem scNumBy : FnScope ["line", "digits", "number", "digit"] ["line", "digits"] (defScope sNumBy) := ⟨rfl, rfl, rfl, by decide +kernel, rfl, by decide +kernel, by decide +kernel⟩
theorem ok_numBy (F : FnP K "number_by" sNumBy f fd) (Z : Free mg) (O : LOk P w K mg base) : FnOk P w K mg base CX0 2 f fd ["line", "digits"] (spNumBy K) := by
  refine F.ok scNumBy (fun vs H Q E h => ?_) (fun cdv A outer s H vs Q E hr h => ?_)
  · obtain ⟨x, a, ds, p, c, s, rfl, _⟩ := h
    rfl
  · obtain ⟨x, a, ds, p, c, z, rfl, hL, B, hS, k⟩ := h
    obtain ⟨p1, p2, c1, c2, z1, z2⟩ := B
    have nd := scNumBy.nd
    refine ⟨_, PSs.nox (pss_cons (ps_set (i := 2) nd rfl (Or.inl rfl) pe_int)
      (pss_cons (ps_for PassesOwn.never rfl (pi_reversed (by rfl) Z.reversed (pa_cons (pv 1) pa_nil)) (pg_name (i := 3) nd rfl (Or.inl rfl))
        (pss_one (ps_set (i := 2) nd rfl (Or.inl rfl) (pe_op op_add (pe_op op_mul (pv 2) (pe_prime O hr (pv 0))) (pv 3)))))
      (pss_one (ps_ret (pv 2))))), ?_⟩
    refine ⟨_, rfl, a, ds.map V.int, rfl, hS, ?_⟩
    refine for_it (walk_rev (xs := ds.map V.int)) (fun i σ H2 => H2 = H ∧ ∃ v3, σ = [some x, some (.ref a), some (.int (nBy p (ds.drop (ds.length - i)))), v3]) ?_ (fun i σ H2 _ h => by rw [h.1]; exact hS) ?_ ?_
    · refine ⟨rfl, none, ?_⟩
      rw [Nat.sub_zero, List.drop_length]
      rfl
    · rintro i y σ H2 H3 hi ⟨rfl, v3, rfl⟩ ⟨rfl, hy⟩
      rw [List.length_map] at hi hy
      rw [List.getElem?_map] at hy
      have hi2 : ds.length - 1 - i < ds.length := by omega
      rw [List.getElem?_eq_getElem hi2] at hy
      obtain rfl : V.int ds[ds.length - 1 - i] = y := Option.some.inj hy
      refine ⟨_, rfl, x, p, c, z, rfl, hL, _, _, rfl, rfl, Or.inr (show -(2 ^ 64) < p ∧ p < 2 ^ 64 from ⟨by omega, by omega⟩), _, rfl, _, _, rfl, rfl, ?_⟩
      refine ⟨rfl, some (.int ds[ds.length - 1 - i]), ?_⟩
      have e : ds.drop (ds.length - (i + 1)) = ds[ds.length - 1 - i] :: ds.drop (ds.length - i) := by
        have e1 : ds.length - (i + 1) = ds.length - 1 - i := by omega
        rw [e1, List.drop_eq_getElem_cons hi2]
        congr 2
        omega
      rw [e]
      rfl
    · rintro σ H2 ⟨rfl, v3, rfl⟩
      rw [List.length_map, Nat.sub_self, List.drop_zero]
      exact ⟨_, rfl, k⟩
theorem scSignsBy : FnScope ["line", "digits", "x"] ["line", "digits"] (defScope sSignsBy) := ⟨rfl, rfl, rfl, by decide +kernel, rfl, by decide +kernel, by decide +kernel⟩
theorem ok_signsBy (F : FnP K "signs_by" sSignsBy f fd) (Z : Free mg) (O : LOk P w K mg base) (gW : mg "worth_at" = some (.ref fW)) (FW : FnP K "worth_at" sWorth fW dW) (GW : FnOk P w K mg base CX0 1 fW dW ["digits", "x", "prime"] (spWorth K)) :
    FnOk P w K mg base CX0 2 f fd ["line", "digits"] (spSignsBy K) := by
  have bW : Binds K dW ["digits", "x", "prime"] [] := FW.bindsN fun _ _ _ _ _ _ us hl => match us, hl with | [_, _, _], _ => rfl
  refine F.ok scSignsBy (fun vs H Q E h => ?_) (fun cdv A outer s H vs Q E hr h => ?_)
  · obtain ⟨x, a, ds, p, c, s, rfl, _⟩ := h
    rfl
  · obtain ⟨x, a, ds, p, c, z, rfl, hL, B, hS, k⟩ := h
    obtain ⟨p1, p2, c1, c2, z1, z2⟩ := B
    have nd := scSignsBy.nd
    refine ⟨_, PSs.nox (pss_one (ps_ret (pe_lc (own := [("x", 2)]) (g := gName 2) (tt := tYes) (te := tCall (spWorth K) [] E0 (tCons (tVar 1) (tCons (tVar 2) (tCons (tGet K 0 fun p _ _ => p) tNil)))) (by rfl) nd (pi_range2 (by rfl) Z.range (pa_cons pe_int (pa_cons (pe_op op_add (pe_cells O hr (pv 0)) pe_int) pa_nil)))
      (blkOk_by (own := [("x", 2)]) (N := ["line", "digits", "x"]) (sc := defScope sSignsBy) (by decide +kernel)) (fun _ _ _ _ _ => pg_name (i := 2) nd rfl (Or.inl rfl)) (fun _ _ _ _ _ => pts_nil)
      (fun _ _ _ _ _ => pe_call GW hr rfl gW FW.kp bW .nil pass0 (pa_cons (pv 1) (pa_cons (pv 2) (pa_cons (pe_prime O hr (pv 0)) pa_nil))))))), ?_⟩
    refine ⟨x, p, c, z, rfl, hL, _, _, rfl, rfl, 1, c + 1, rfl, ⟨by omega, by omega, by omega, by omega⟩, fun D hD => ?_⟩
    have ec : (c + 1 - 1).toNat = c.toNat := by omega
    rw [ec]
    refine lc_sel (walk_range (lo := 1) (n := c.toNat)) (fun j => some (.int (wAt p (1 + (j : Int)) ds))) (by omega) hD (fun _ _ => trivial) ?_ ?_
    · rintro i v H2 H3 Qy Qn hi sH ⟨rfl, rfl⟩ ky kn
      refine ⟨rfl, _, rfl, _, rfl, x, p, c, z, rfl, hL.same sH, a, ds, _, p, rfl, sH.seq hS, by omega, ⟨by omega, by omega⟩, ?_⟩
      exact ky _ _ (Same.refl _) rfl
    · intro H2 sH hR
      refine k D H2 sH hD ?_
      rw [hR, List.filterMap_eq_map', signs, List.map_map]
      rfl
end
end K10
set_option Elab.async false
set_option linter.all false
set_option maxRecDepth 100000
set_option maxHeartbeats 4000000
namespace L2
open PySem PySem.Spec PyProof.Rows
theorem Vals.at_ {vs : List V} {us : List Value} : ∀ {i : Nat} {v : Value}, Vals vs us → us[i]? = some v → ∃ x, vs[i]? = some x ∧ RelV x v := by
  intro i v r
  induction r generalizing i with
  | nil => intro e; simp at e
  | @cons p q ps qs h t ih =>
    intro e
    cases i with
    | zero =>
      have e' : q = v := Option.some.inj e
      exact ⟨p, rfl, e' ▸ h⟩
    | succ i => exact ih e
theorem truth_ints {prog : Program} {w : World} {A : Around} {ns : List Int} {its : List Value} (r : Vals (ns.map V.int) its) :
    TruthOf prog w A (fun i v => its.toArray[i]? = some v) (fun i => (ns.map fun n => n != 0).getD i false) := fun i v s Q E hv hq => by
  have hv' : its[i]? = some v := by simpa using hv
  obtain ⟨x, hx, rx⟩ := r.at_ hv'
  rw [List.getElem?_map] at hx
  obtain ⟨n, hn, rfl⟩ := Option.map_eq_some_iff.mp hx
  obtain ⟨t, rfl⟩ := (show ∃ t, v = Value.int n t from rx)
  have hg : (ns.map fun n => n != 0).getD i false = (n != 0) := by
    rw [List.getD_eq_getElem?_getD, List.getElem?_map, hn]
    rfl
  have hq' : Q ((ns.map fun n => n != 0).getD i false) s := hq
  rw [hg] at hq'
  exact PyProof.Rows.truthy_int hq'
/-- any(xs), xs a list of ints -/
def rAnyI (K : PySem.W.Frag) : List V → Hp → VK → Prop := fun vs H Q => ∃ (a : Addr) (ns : List Int), vs = [V.ref a] ∧ SqL K H a (ns.map V.int) ∧ Q (.bl ((ns.map fun n => n != 0).any id)) H
theorem cr_anyI {X : Cx} (hc : X.calm = true) : CallR X (.builtin "any") (rAnyI X.K) := by
  intro pins s σ H vs us Q I r h
  obtain ⟨a, ns, rfl, hs, q⟩ := h
  obtain ⟨its, rv, hl, _⟩ := I.list hs
  rw [Vals.ref1 r]
  refine call_any_walk (iter_any hl.isList fun s₂ e2 st hne => ?_)
  subst e2
  refine ⟨_, _, _, _, _, _, _, rfl, Walks.list (A := X.A.in1) (I.ok.hd hc) _ a hne its.toArray, st, truth_ints rv, fun h' tk hk => ?_⟩
  refine ⟨.bl _, H, I.kept fun b o eo => hk b o (fun hmem => ?_) (Heap.get?_push_of_some _ eo), ?_, q⟩
  · rcases List.mem_cons.mp hmem with e1 | hmem
    · exact absurd (e1 ▸ Heap.lt_size eo) (Nat.lt_irrefl _)
    · cases hmem
  · show Value.bool _ = Value.bool _
    have el : its.length = (ns.map fun n => n != 0).length := by rw [← rv.length, List.length_map, List.length_map]
    rw [← any_range, List.size_toArray, el]
end L2
namespace K10
open PySem PySem.Spec PyProof.Rows L2
abbrev sIsPic : Stmt := top 32
abbrev sDigPage : Stmt := top 33
abbrev sDigDiff : Stmt := top 34
section
variable {P : Program} {w : World} {K : PySem.W.Frag} {mg : Str → Option Value} {base : Heap} {f fC fW fN fD fS : Addr} {fd dC dW dN dD dS : FuncData}
theorem scNeedSigns : FnScope ["line", "number", "digits"] ["line", "number"] (defScope sNeedSigns) := ⟨rfl, rfl, rfl, by decide +kernel, rfl, by decide +kernel, by decide +kernel⟩
theorem ok_needSigns (F : FnP K "need_signs_of_page" sNeedSigns f fd) (gN : mg "need_line" = some (.ref fN)) (FN : FnP K "need_line" sNeedL fN dN) (GN : FnOk P w K mg base CX0 1 fN dN ["line"] (spNeedL K))
    (gD : mg "digits_of" = some (.ref fD)) (FD : FnP K "digits_of" sDigits fD dD) (GD : FnOk P w K mg base CX0 3 fD dD ["line", "number"] (spDigits K))
    (gS : mg "signs_by" = some (.ref fS)) (FS : FnP K "signs_by" sSignsBy fS dS) (GS : FnOk P w K mg base CX0 2 fS dS ["line", "digits"] (spSignsBy K)) :
    FnOk P w K mg base CX0 4 f fd ["line", "number"] (spPageOf K) := by
  have bN : Binds K dN ["line"] [] := FN.bindsN fun _ _ _ _ _ _ us hl => match us, hl with | [_], _ => rfl
  have bD : Binds K dD ["line", "number"] [] := FD.bindsN fun _ _ _ _ _ _ us hl => match us, hl with | [_, _], _ => rfl
  have bS : Binds K dS ["line", "digits"] [] := FS.bindsN fun _ _ _ _ _ _ us hl => match us, hl with | [_, _], _ => rfl
  refine F.ok scNeedSigns (fun vs H Q E h => ?_) (fun cdv A outer s H vs Q E hr h => ?_)
  · obtain ⟨x, p, c, s, n, rfl, _⟩ := h
    rfl
  · obtain ⟨x, p, c, z, n, rfl, hL, B, hn, hz, k⟩ := h
    have nd := scNeedSigns.nd
    have hr1 : Room 1 _ := hr.mono (by decide)
    have hr2 : Room 2 _ := hr.mono (by decide)
    refine ⟨_, PSs.nox (pss_cons (ps_expr (pe_call GN hr1 rfl gN FN.kp bN .nil pass0 (pa_cons (pv 0) pa_nil)))
      (pss_cons (ps_set (i := 2) nd rfl (Or.inl rfl) (pe_call GD hr rfl gD FD.kp bD .nil pass0 (pa_cons (pv 0) (pa_cons (pv 1) pa_nil))))
      (pss_cons (ps_if (pt_cmpR op_isN (pv 2) pe_non (nomark _)) (pss_one ps_dead) pss_nil)
      (pss_one (ps_ret (pe_call GS hr2 rfl gS FS.kp bS .nil pass0 (pa_cons (pv 0) (pa_cons (pv 2) pa_nil)))))))), ?_⟩
    refine ⟨_, rfl, x, p, c, z, rfl, hL, _, rfl, _, rfl, x, p, c, z, n, rfl, hL, B, hn, hz, fun q H2 s2 hq e2 => ?_⟩
    refine ⟨_, rfl, rfl, _, rfl, ?_⟩
    rw [decide_eq_false (fun e => by cases e)]
    refine iteF ⟨_, rfl, _, rfl, x, q, _, p, c, z, rfl, hL.same s2, B, SqL.of e2, fun q3 H3 s3 hq3 e3 => ?_⟩
    exact k q3 H3 (s2.trans s3) (none_back s2 hq3) e3
theorem scPageOf : FnScope ["line", "number"] ["line", "number"] (defScope sPageOf) := ⟨rfl, rfl, rfl, by decide +kernel, rfl, by decide +kernel, by decide +kernel⟩
theorem ok_pageOf (F : FnP K "page_of" sPageOf f fd) (gN : mg "need_signs_of_page" = some (.ref fN)) (FN : FnP K "need_signs_of_page" sNeedSigns fN dN) (GN : FnOk P w K mg base CX0 4 fN dN ["line", "number"] (spPageOf K)) : FnOk P w K mg base CX0 5 f fd ["line", "number"] (spPageOf K) := by
  have bN : Binds K dN ["line", "number"] [] := FN.bindsN fun _ _ _ _ _ _ us hl => match us, hl with | [_, _], _ => rfl
  refine F.ok scPageOf (fun vs H Q E h => ?_) (fun cdv A outer s H vs Q E hr h => ?_)
  · obtain ⟨x, p, c, s, n, rfl, _⟩ := h
    rfl
  · obtain ⟨x, p, c, z, n, rfl, r⟩ := h
    exact ⟨_, PSs.nox (pss_one (ps_ret (pe_call GN hr rfl gN FN.kp bN .nil pass0 (pa_cons (pv 0) (pa_cons (pv 1) pa_nil))))), _, rfl, _, rfl, x, p, c, z, n, rfl, r⟩
end
end K10
set_option Elab.async false
set_option linter.all false
set_option maxRecDepth 100000
set_option maxHeartbeats 4000000
/-! The mathematics of lines: differences of a page's signs, and its digits by them. -/
namespace K10
open PySem PySem.Spec PyProof.Rows L2
/-- the differences of each order of what digits are worth -/
def Ek (ds : List Int) (k : Nat) (x : Int) : Int := match k with
  | 0 => ds.getD 0 0 + ds.getD 1 0 * x + ds.getD 2 0 * x ^ 2 + ds.getD 3 0 * x ^ 3
  | 1 => ds.getD 1 0 + ds.getD 2 0 * (2 * x + 1) + ds.getD 3 0 * (3 * x ^ 2 + 3 * x + 1)
  | 2 => 2 * ds.getD 2 0 + ds.getD 3 0 * (6 * x + 6)
  | 3 => 6 * ds.getD 3 0
  | _ => 0
theorem Ek_step (ds : List Int) : ∀ (k : Nat) (x : Int), Ek ds k (x + 1) - Ek ds k x = Ek ds (k + 1) x
  | 0, x => by simp only [Ek]; grind
  | 1, x => by simp only [Ek]; grind
  | 2, x => by simp only [Ek]; grind
  | 3, x => by simp only [Ek]; grind
  | k + 4, x => by simp only [Ek]; grind
theorem Ek_top {ds : List Int} {s : Nat} (h : ∀ j, s ≤ j → ds.getD j 0 = 0) (hs : s ≤ 4) (hs1 : 1 ≤ s) (x : Int) : Ek ds s x = 0 := by
  match s, hs, hs1 with
  | 1, _, _ => simp only [Ek, h 1 (by omega), h 2 (by omega), h 3 (by omega)]; grind
  | 2, _, _ => simp only [Ek, h 2 (by omega), h 3 (by omega)]; grind
  | 3, _, _ => simp only [Ek, h 3 (by omega)]; grind
  | 4, _, _ => rfl
/-- what is left of the digits behind so many steps -/
def Rk (ds : List Int) (k j : Nat) : Int := match k, j with
  | 0, j => ds.getD j 0
  | 1, 0 => ds.getD 1 0 + ds.getD 2 0 + ds.getD 3 0
  | 1, 1 => ds.getD 2 0 + ds.getD 3 0
  | 1, 2 => ds.getD 3 0
  | 2, 0 => 2 * ds.getD 2 0 + 6 * ds.getD 3 0
  | 2, 1 => 2 * ds.getD 3 0
  | 3, 0 => 6 * ds.getD 3 0
  | _, _ => 0
theorem Rk_top {ds : List Int} {s : Nat} (h : ∀ j, s ≤ j → ds.getD j 0 = 0) (hs : s ≤ 4) (hs1 : 1 ≤ s) (j : Nat) : Rk ds s j = 0 := by
  match s, hs, hs1 with
  | 1, _, _ =>
    match j with
    | 0 => simp only [Rk, h 1 (by omega), h 2 (by omega), h 3 (by omega)]; rfl
    | 1 => simp only [Rk, h 2 (by omega), h 3 (by omega)]; rfl
    | 2 => simp only [Rk, h 3 (by omega)]
    | j + 3 => rfl
  | 2, _, _ =>
    match j with
    | 0 => simp only [Rk, h 2 (by omega), h 3 (by omega)]; rfl
    | 1 => simp only [Rk, h 3 (by omega)]; rfl
    | j + 2 => rfl
  | 3, _, _ =>
    match j with
    | 0 => simp only [Rk, h 3 (by omega)]; rfl
    | j + 1 => rfl
  | 4, _, _ => rfl
theorem Rk_low {ds : List Int} {k : Nat} (hk : k < 4) : Ek ds k 1 = Rk ds (k + 1) 0 + Rk ds k 0 := by
  match k, hk with
  | 0, _ => simp only [Ek, Rk]; grind
  | 1, _ => simp only [Ek, Rk]; grind
  | 2, _ => simp only [Ek, Rk]; grind
  | 3, _ => simp only [Ek, Rk]; grind
theorem Rk_up {ds : List Int} {k : Nat} (hd : ds.length ≤ 4) (hk : k < 4) (j : Nat) : Rk ds (k + 1) j = ((k : Int) + 1) * (Rk ds (k + 1) (j + 1) + Rk ds k (j + 1)) := by
  have z : ∀ i, 4 ≤ i → ds.getD i 0 = 0 := fun i hi => getD_ge (by omega)
  match k, hk with
  | 0, _ =>
    match j with
    | 0 => simp only [Rk]; grind
    | 1 => simp only [Rk]; grind
    | 2 => simp only [Rk]; grind
    | j + 3 => simp only [Rk, z (j + 3 + 1) (by omega)]; grind
  | 1, _ =>
    match j with
    | 0 => simp only [Rk]; grind
    | 1 => simp only [Rk]; grind
    | j + 2 => simp only [Rk]; grind
  | 2, _ =>
    match j with
    | 0 => simp only [Rk]; grind
    | j + 1 => simp only [Rk]; grind
  | 3, _ =>
    match j with
    | 0 => simp only [Rk]; grind
    | j + 1 => simp only [Rk]; grind
theorem dvd_emod (p x : Int) : p ∣ x % p - x := by
  have := Int.emod_add_mul_ediv x p
  exact ⟨-(x / p), by rw [Int.mul_neg]; omega⟩
theorem emod_of_dvd {p x y : Int} (h : p ∣ x - y) : x % p = y % p := Int.emod_eq_emod_iff_emod_sub_eq_zero.mpr (Int.emod_eq_zero_of_dvd h)
/-- one step of the digits by differences -/
theorem newt_low {p L b0 f R E S : Int} (h1 : p ∣ L - R) (h2 : p ∣ b0 + 1) (h3 : p ∣ f - E) (h4 : E = R + S) : ((L * b0 + 0) % p + 1 * f) % p = S % p := by
  rw [Int.emod_add_emod]
  refine emod_of_dvd ?_
  have e : L * b0 + 0 + 1 * f - S = (L - R) * b0 + R * (b0 + 1) + (f - E) := by grind
  rw [e]
  exact Int.dvd_add (Int.dvd_add (Int.dvd_mul_of_dvd_left h1) (Int.dvd_mul_of_dvd_right h2)) h3
theorem newt_up {p L L2 b0 r R R2 S k : Int} (h1 : p ∣ L - R) (h2 : p ∣ b0 + 1) (h3 : p ∣ L2 - R2) (h4 : p ∣ k * r - 1) (h5 : R2 = k * (R + S)) : ((L * b0 + L2 * r) % p + 1 * 0) % p = S % p := by
  rw [Int.emod_add_emod]
  refine emod_of_dvd ?_
  have e : L * b0 + L2 * r + 1 * 0 - S = (L - R) * b0 + R * (b0 + 1) + (L2 - R2) * r + (R + S) * (k * r - 1) := by grind
  rw [e]
  exact Int.dvd_add (Int.dvd_add (Int.dvd_add (Int.dvd_mul_of_dvd_left h1) (Int.dvd_mul_of_dvd_right h2)) (Int.dvd_mul_of_dvd_left h3)) (Int.dvd_mul_of_dvd_right h4)
theorem b0_one {p k r : Int} (h : p ∣ (k + 1) * r - 1) : p ∣ ((p - k - 1) * r) % p + 1 := by
  have e : ((p - k - 1) * r) % p + 1 = (((p - k - 1) * r) % p - (p - k - 1) * r) + (p * r - ((k + 1) * r - 1)) := by grind
  rw [e]
  exact Int.dvd_add (dvd_emod _ _) (Int.dvd_sub (Int.dvd_mul_right p r) h)
/-- what digits are worth -/
theorem wAt_E {p x : Int} : ∀ {ds : List Int}, ds.length ≤ 4 → wAt p x ds % p = Ek ds 0 x % p
  | [], _ => by simp [wAt, Ek]
  | [a], _ => by
    show ((0 * x + a) % p) % p = _
    rw [Int.emod_emod_of_dvd _ (Int.dvd_refl p)]
    refine congrArg (· % p) ?_
    simp [Ek]
  | [a, b], _ => by
    show ((((0 * x + b) % p) * x + a) % p) % p = _
    rw [Int.emod_emod_of_dvd _ (Int.dvd_refl p)]
    refine emod_of_dvd ?_
    obtain ⟨u, hu⟩ := dvd_emod p (0 * x + b)
    refine ⟨u * x, ?_⟩
    simp [Ek]
    grind
  | [a, b, c], _ => by
    show ((((((0 * x + c) % p) * x + b) % p) * x + a) % p) % p = _
    rw [Int.emod_emod_of_dvd _ (Int.dvd_refl p)]
    refine emod_of_dvd ?_
    obtain ⟨u, hu⟩ := dvd_emod p (0 * x + c)
    obtain ⟨v, hv⟩ := dvd_emod p (((0 * x + c) % p) * x + b)
    refine ⟨v * x + u * x ^ 2, ?_⟩
    simp [Ek]
    grind
  | [a, b, c, d], _ => by
    show ((((((((0 * x + d) % p) * x + c) % p) * x + b) % p) * x + a) % p) % p = _
    rw [Int.emod_emod_of_dvd _ (Int.dvd_refl p)]
    refine emod_of_dvd ?_
    obtain ⟨u, hu⟩ := dvd_emod p (0 * x + d)
    obtain ⟨v, hv⟩ := dvd_emod p (((0 * x + d) % p) * x + c)
    obtain ⟨t, ht⟩ := dvd_emod p (((((0 * x + d) % p) * x + c) % p) * x + b)
    refine ⟨t * x + v * x ^ 2 + u * x ^ 3, ?_⟩
    simp [Ek]
    grind
  | _ :: _ :: _ :: _ :: _ :: _, h => by simp at h
end K10
set_option Elab.async false
set_option linter.all false
set_option maxRecDepth 100000
set_option maxHeartbeats 4000000
namespace K10
open PySem PySem.Spec PyProof.Rows L2
/-- digits below a prime that so small numbers go with -/
structure DG (p : Int) (s : Nat) (ds : List Int) : Prop where
  p1 : 1 < p
  p2 : p < 2 ^ 62
  s1 : 1 ≤ s
  s4 : s ≤ 4
  len : ds.length = s
  low : ∀ j, 0 ≤ ds.getD j 0 ∧ ds.getD j 0 < p
  cop : ∀ i : Nat, 1 ≤ i → i ≤ s → ∀ c : Int, c ∣ (i : Int) → c ∣ p → c ∣ 1
theorem DG.zero {p : Int} {s : Nat} {ds : List Int} (h : DG p s ds) : ∀ j, s ≤ j → ds.getD j 0 = 0 := fun j hj => getD_ge (by rw [h.len]; exact hj)
def spDigDiff : Sp := fun vs H Q _ => ∃ (a : Addr) (p : Int) (s : Nat) (ds : List Int), vs = [.ref a, .int p] ∧ DG p s ds ∧ H a = some (.lst (((List.range s).map fun k => Ek ds k 1 % p).map V.int)) ∧
  ∀ q H', Same H H' → H q = none → H' q = some (.lst (ds.map V.int)) → Q (.ref q) H'
theorem take_pad {L ds : List Int} {s : Nat} (h : ∀ j, L.getD j 0 = ds.getD j 0) (hl : ds.length = s) : (L ++ List.replicate s (0 : Int)).take s = ds := by
  refine List.ext_getElem? fun j => ?_
  rw [List.getElem?_take]
  by_cases hj : j < s
  · rw [if_pos hj]
    have e := h j
    by_cases h1 : j < L.length
    · rw [List.getElem?_append_left h1, List.getElem?_eq_getElem h1, List.getElem?_eq_getElem (by omega), ← getD_lt h1, ← getD_lt (by omega), e]
    · rw [List.getElem?_append_right (by omega), List.getElem?_replicate, if_pos (by omega), List.getElem?_eq_getElem (by omega), ← getD_lt (by omega), ← e, getD_ge (by omega)]
  · rw [if_neg hj, List.getElem?_eq_none (by omega)]
theorem getD_takeT {L : List Int} {m : Nat} (h : Trim L m) (j : Nat) : (L.take m).getD j 0 = L.getD j 0 := by
  rw [getD_take]
  split
  · rfl
  · exact (h.z j (by omega)).symm
theorem mulL_getD {b0 b1 p : Int} {n k : Nat} {as : List Int} (h : n = as.length + 2) : (mulL b0 b1 p n as).getD k 0 = mul2 b0 b1 as k % p := by
  by_cases hk : k < n
  · rw [List.getD_eq_getElem?_getD, mulL_get hk]
    rfl
  · rw [getD_ge (by unfold mulL; rw [List.length_map, List.length_range]; omega)]
    unfold mul2
    rw [getD_ge (by omega), getD_ge (by omega)]
    split <;> simp
section
variable {P : Program} {w : World} {K : PySem.W.Frag} {mg : Str → Option Value} {base : Heap} {f fI fM fA fD : Addr} {fd dI dM dA dD : FuncData}
theorem scDigDiff : FnScope ["firsts", "prime", "digits", "order", "back", "raised"] ["firsts", "prime"] (defScope sDigDiff) := ⟨rfl, rfl, rfl, by decide +kernel, rfl, by decide +kernel, by decide +kernel⟩
theorem ok_digDiff (F : FnP K "digits_by_differences" sDigDiff f fd) (Z : Free mg) (gI : mg "inverse" = some (.ref fI)) (FI : FnP K "inverse" sInv fI dI) (GI : FnOk P w K mg base CX0 1 fI dI ["number", "prime"] spInv)
    (gM : mg "multiplied" = some (.ref fM)) (FM : FnP K "multiplied" sMult fM dM) (GM : FnOk P w K mg base CX0 2 fM dM ["one", "other", "prime"] spMult)
    (gA : mg "added" = some (.ref fA)) (FA : FnP K "added" sAdded fA dA) (GA : FnOk P w K mg base CX0 1 fA dA ["one", "other", "times", "prime"] spAdded) :
    FnOk P w K mg base CX0 3 f fd ["firsts", "prime"] spDigDiff := by
  have bI : Binds K dI ["number", "prime"] [] := FI.bindsN fun _ _ _ _ _ _ us hl => match us, hl with | [_, _], _ => rfl
  have bM : Binds K dM ["one", "other", "prime"] [] := FM.bindsN fun _ _ _ _ _ _ us hl => match us, hl with | [_, _, _], _ => rfl
  have bA : Binds K dA ["one", "other", "times", "prime"] [] := FA.bindsN fun _ _ _ _ _ _ us hl => match us, hl with | [_, _, _, _], _ => rfl
  refine F.ok scDigDiff (fun vs H Q E h => ?_) (fun cdv A outer s H vs Q E hr h => ?_)
  · obtain ⟨a, p, s, ds, rfl, _⟩ := h
    rfl
  · obtain ⟨a, p, z, ds, rfl, G, ha, k⟩ := h
    obtain ⟨p1, p2, z1, z4, hl, hlow, hcop⟩ := id G
    have nd := scDigDiff.nd
    have hr1 : Room 1 _ := hr.mono (by decide)
    refine ⟨_, PSs.nox (pss_cons (ps_set (i := 2) nd rfl (Or.inl rfl) (pe_lst (pa_cons pe_int pa_nil)))
      (pss_cons (ps_for PassesOwn.never rfl (pi_revR (by rfl) Z.reversed (prg_1 (by rfl) Z.range (pe_callB call_len_seq (by rfl) Z.len (by decide +kernel) (pa_cons (pv 0) pa_nil)))) (pg_name (i := 3) nd rfl (Or.inl rfl))
        (pss_cons (ps_set (i := 4) nd rfl (Or.inl rfl) (pe_call GI hr1 rfl gI FI.kp bI .nil pass0 (pa_cons (pe_op op_add (pv 3) pe_int) (pa_cons (pv 1) pa_nil))))
        (pss_cons (ps_set (i := 5) nd rfl (Or.inl rfl) (pe_call GM hr rfl gM FM.kp bM .nil pass0 (pa_cons (pv 2) (pa_cons (pe_lst (pa_cons (pe_op op_mod (pe_op op_mul (pe_op op_sub (pe_op op_sub (pv 1) (pv 3)) pe_int) (pv 4)) (pv 1)) (pa_cons (pv 4) pa_nil))) (pa_cons (pv 1) pa_nil)))))
        (pss_one (ps_set (i := 2) nd rfl (Or.inl rfl) (pe_call GA hr1 rfl gA FA.kp bA .nil pass0 (pa_cons (pv 5) (pa_cons (pe_lst (pa_cons (pe_ix ix_list (pv 0) (pv 3) (fun _ _ => rfl)) pa_nil)) (pa_cons pe_int (pa_cons (pv 1) pa_nil))))))))))
      (pss_one (ps_ret (pe_slice sl_list (pe_op op_cat (pv 2) (pe_op op_rep (pe_lst (pa_cons pe_int pa_nil)) (pe_callB call_len_seq (by rfl) Z.len (by decide +kernel) (pa_cons (pv 0) pa_nil)))) po_none (po_some (pe_callB call_len_seq (by rfl) Z.len (by decide +kernel) (pa_cons (pv 0) pa_nil)))))))), ?_⟩
    have la : (((List.range z).map fun k => Ek ds k 1 % p).map V.int).length = z := by rw [List.length_map, List.length_map, List.length_range]
    refine ⟨(by show 1 ≤ sizeLine; decide), fun d0 hd0 => ?_⟩
    have s0 : Same H (upd H d0 (.lst [.int 0])) := Same.updf hd0
    refine ⟨_, rfl, a, _, rfl, Or.inl (SqL.of (s0 _ _ ha)), _, rfl, by omega, by omega, by rw [la]; omega, by rw [la]; omega, ?_⟩
    rw [la]
    have e1 : ((z : Int) - 0).toNat = z := by omega
    rw [e1]
    refine for_it (walk_rangeC (lo := 0 + (z : Int) - 1) (c := -1) (n := z)) (fun i σ H2 => Same H H2 ∧ ∃ (q : Addr) (L : List Int) (v3 v4 v5 : Option V), H q = none ∧ σ = [some (.ref a), some (.int p), some (.ref q), v3, v4, v5] ∧ H2 q = some (.lst (L.map V.int)) ∧ L.length ≤ 1 + 2 * i ∧ ∀ j, L.getD j 0 = Rk ds (z - i) j % p)
      ⟨s0, d0, [0], none, none, none, hd0, rfl, upd_same, by decide, fun j => ?_⟩ (fun _ _ _ _ _ => trivial) ?_ ?_
    · rw [Nat.sub_zero, Rk_top G.zero z4 z1, Int.zero_emod]
      cases j <;> rfl
    · rintro i v σ H2 H3 hi ⟨sH, q, L, v3, v4, v5, hq0, rfl, hq, hL, hR⟩ ⟨rfl, hv⟩
      obtain ⟨k0, hk0⟩ : ∃ k0 : Nat, k0 = z - 1 - i := ⟨_, rfl⟩
      have hk4 : k0 < 4 := by omega
      have ek : 0 + (z : Int) - 1 + ((i : Nat) : Int) * -1 = (k0 : Int) := by omega
      obtain rfl : v = .int (k0 : Int) := hv.trans (congrArg V.int ek)
      have ezi : z - i = k0 + 1 := by omega
      have ezi' : z - (i + 1) = k0 := by omega
      rw [ezi] at hR
      have haH := sH _ _ ha
      refine ⟨_, rfl, _, _, rfl, rfl, _, rfl, (k0 : Int) + 1, p, rfl, p1, by omega, fun c h1 h2 => hcop (k0 + 1) (by omega) (by omega) c (by exact_mod_cast h1) h2, fun r H4 s4 r0 r1 hrr => ?_⟩
      have hdv : p ∣ ((k0 : Int) + 1) * r - 1 := by
        have := Int.emod_add_mul_ediv (((k0 : Int) + 1) * r) p
        exact ⟨(((k0 : Int) + 1) * r) / p, by omega⟩
      refine ⟨_, rfl, _, rfl, _, rfl, _, _, rfl, rfl, _, _, rfl, rfl, _, rfl, _, _, rfl, rfl, Or.inr ⟨by omega, by omega⟩, _, rfl, _, _, rfl, rfl, (by show 0 < p; omega), _, rfl, (by show 2 ≤ sizeLine; decide), fun bl hbl => ?_⟩
      have hb0n : 0 ≤ (((p - (k0 : Int) - 1) * r) % p) :=  Int.emod_nonneg _ (by omega)
      have hb0p : (((p - (k0 : Int) - 1) * r) % p) < p :=  Int.emod_lt_of_pos _ (by omega)
      have hb0d : p ∣ (((p - (k0 : Int) - 1) * r) % p) + 1 := b0_one hdv
      have s5 : Same H4 (upd H4 bl (.lst [.int (((p - (k0 : Int) - 1) * r) % p), .int r])) := Same.updf hbl
      refine ⟨_, rfl, q, bl, L, (((p - (k0 : Int) - 1) * r) % p), r, p, rfl, s5 _ _ (s4 _ _ hq), upd_same, by omega, by omega, ⟨by omega, by omega⟩, ⟨by omega, by omega⟩, fun m q6 H6 hm s6 hq6 e6 => ?_⟩
      have s46 : Same H3 H6 := s4.trans (s5.trans s6)
      refine ⟨_, rfl, _, rfl, _, rfl, a, _, _, .int (Ek ds k0 1 % p), rfl, rfl, SqL.of (s46 _ _ haH), ?_, (by show 1 ≤ sizeLine; decide), fun fl hfl => ?_⟩
      · refine atI_nat ?_
        rw [List.getElem?_map, List.getElem?_map, List.getElem?_range (by omega)]
        rfl
      have s7 : Same H6 (upd H6 fl (.lst [.int (Ek ds k0 1 % p)])) := Same.updf hfl
      have ml : ((mulL (((p - (k0 : Int) - 1) * r) % p) r p (L.length + 2) L).take m).length ≤ L.length + 2 := by
        rw [List.length_take]
        have : (mulL (((p - (k0 : Int) - 1) * r) % p) r p (L.length + 2) L).length = L.length + 2 := by unfold mulL; rw [List.length_map, List.length_range]
        omega
      refine ⟨_, rfl, q6, fl, _, [Ek ds k0 1 % p], 1, p, rfl, s7 _ _ e6, upd_same, by omega, Nat.le_of_ble_eq_true rfl, by omega, ⟨by decide, by decide⟩, fun q8 H8 s8 hq8 e8 => ?_⟩
      have s38 : Same H3 H8 := s46.trans (s7.trans s8)
      refine ⟨sH.trans s38, q8, _, _, _, _, none_back ((sH.trans s46).trans s7) hq8, rfl, e8, ?_, fun j => ?_⟩
      · rw [List.length_map, List.length_range]
        show max _ 1 ≤ _
        omega
      · rw [ezi']
        have out : ∀ j, ((((List.range (max ((mulL (((p - (k0 : Int) - 1) * r) % p) r p (L.length + 2) L).take m).length [Ek ds k0 1 % p].length)).map fun j => (((mulL (((p - (k0 : Int) - 1) * r) % p) r p (L.length + 2) L).take m).getD j 0 + 1 * [Ek ds k0 1 % p].getD j 0) % p)).getD j 0) = (((mulL (((p - (k0 : Int) - 1) * r) % p) r p (L.length + 2) L).take m).getD j 0 + 1 * [Ek ds k0 1 % p].getD j 0) % p := fun j => by
          by_cases hj : j < max ((mulL (((p - (k0 : Int) - 1) * r) % p) r p (L.length + 2) L).take m).length [Ek ds k0 1 % p].length
          · rw [List.getD_eq_getElem?_getD, List.getElem?_map, List.getElem?_range hj]
            rfl
          · have h1 : ((mulL (((p - (k0 : Int) - 1) * r) % p) r p (L.length + 2) L).take m).length ≤ j := by omega
            have h2 : [Ek ds k0 1 % p].length ≤ j := by omega
            rw [getD_ge (by rw [List.length_map, List.length_range]; omega), getD_ge h1, getD_ge h2]
            simp
        rw [out j, getD_takeT hm, mulL_getD rfl]
        have dR : ∀ j, p ∣ L.getD j 0 - Rk ds (k0 + 1) j := fun j => by rw [hR j]; exact dvd_emod _ _
        cases j with
        | zero =>
          have := newt_low (S := Rk ds k0 0) (dR 0) hb0d (dvd_emod p (Ek ds k0 1)) (Rk_low hk4)
          unfold mul2
          rw [if_pos rfl]
          exact this
        | succ j =>
          have := newt_up (S := Rk ds k0 (j + 1)) (dR (j + 1)) hb0d (dR j) hdv (Rk_up (by omega) hk4 j)
          unfold mul2
          rw [if_neg (Nat.succ_ne_zero j), Nat.add_sub_cancel]
          exact this
    · rintro σ H2 ⟨sH, q, L, v3, v4, v5, hq0, rfl, hq, hL, hR⟩
      rw [Nat.sub_self] at hR
      have hR' : ∀ j, L.getD j 0 = ds.getD j 0 := fun j => by
        rw [hR j]
        exact Int.emod_eq_of_lt (hlow j).1 (hlow j).2
      have haH := sH _ _ ha
      refine ⟨_, rfl, (by show 1 ≤ sizeLine; decide), fun l1 hl1 => ?_⟩
      have s1 : Same H2 (upd H2 l1 (.lst [.int 0])) := Same.updf hl1
      refine ⟨_, rfl, a, _, rfl, Or.inl (SqL.of (s1 _ _ haH)), l1, _, [.int 0], rfl, rfl, upd_same, ?_, ?_, ?_, fun l2 hl2 => ?_⟩
      · rw [la]; omega
      · rw [la]; omega
      · rw [la]
        show 1 * z ≤ sizeLine
        have : (2000 : Nat) ≤ sizeLine := by decide
        omega
      have s2 : Same (upd H2 l1 (.lst [.int 0])) _ := Same.updf (o := .lst (List.replicate ((((List.range z).map fun k => Ek ds k 1 % p).map V.int).length : Int).toNat [V.int 0]).flatten) hl2
      refine ⟨q, l2, _, _, rfl, rfl, s2 _ _ (s1 _ _ hq), upd_same, ?_, fun l3 hl3 => ?_⟩
      · rw [flat_rep, List.length_map, List.length_map, List.length_replicate, la]
        have : (2000 : Nat) ≤ sizeLine := by decide
        omega
      have s3 : Same _ (upd (upd (upd H2 l1 (.lst [.int 0])) l2 (.lst (List.replicate ((((List.range z).map fun k => Ek ds k 1 % p).map V.int).length : Int).toNat [V.int 0]).flatten)) l3 (.lst (L.map V.int ++ (List.replicate ((((List.range z).map fun k => Ek ds k 1 % p).map V.int).length : Int).toNat [V.int 0]).flatten))) := Same.updf hl3
      refine ⟨_, rfl, a, _, rfl, Or.inl (SqL.of (s3 _ _ (s2 _ _ (s1 _ _ haH)))), _, rfl, l3, _, rfl, SqL.of upd_same, fun l4 hl4 => ?_⟩
      refine k l4 _ (sH.trans (s1.trans (s2.trans (s3.trans (Same.updf hl4))))) (none_back (sH.trans (s1.trans (s2.trans s3))) hl4) ?_
      rw [upd_same, la, flat_rep, Int.toNat_natCast, cut_to (by rw [List.length_append, List.length_map, List.length_map, List.length_replicate]; omega), ← List.map_append, ← List.map_take, take_pad hR' hl]
end
end K10
set_option Elab.async false
set_option linter.all false
set_option maxRecDepth 100000
set_option maxHeartbeats 4000000
namespace K10
open PySem PySem.Spec PyProof.Rows L2
theorem cut_from {xs : List V} {m : Nat} (h : m ≤ xs.length) : cutV xs (some (m : Int)) none = xs.drop m := by
  unfold cutV
  rw [HT.sIx_none, HT.sIx_nat, Nat.min_eq_left h]
  exact List.take_of_length_le (by rw [List.length_drop]; exact Nat.le_refl _)
def rowL (ds : List Int) (p : Int) (i n : Nat) : List Int := (List.range n).map fun (j : Nat) => Ek ds i (1 + (j : Int)) % p
theorem rowL_len (ds : List Int) (p : Int) (i n : Nat) : (rowL ds p i n).length = n := by
  unfold rowL
  rw [List.length_map, List.length_range]
theorem rowL_get {ds : List Int} {p : Int} {i n j : Nat} (h : j < n) : ((rowL ds p i n).map V.int)[j]? = some (.int (Ek ds i (1 + (j : Int)) % p)) := by
  unfold rowL
  rw [List.getElem?_map, List.getElem?_map, List.getElem?_range h]
  rfl
def spDigPage (K : PySem.W.Frag) : Sp := fun vs H Q _ => ∃ (x : V) (a : Addr) (p c : Int) (s : Nat) (ds : List Int), vs = [x, .ref a] ∧ LineAt K H x p c (s : Int) ∧ DG p s ds ∧ (s : Int) ≤ c ∧ c ≤ 1000 ∧ H a = some (.lst ((rowL ds p 0 c.toNat).map V.int)) ∧
  ∀ q H', Same H H' → H q = none → H' q = some (.lst (ds.map V.int)) → Q (.ref q) H'
section
variable {P : Program} {w : World} {K : PySem.W.Frag} {mg : Str → Option Value} {base : Heap} {f fD : Addr} {fd dD : FuncData}
theorem scDigPage : FnScope ["line", "page", "prime", "firsts", "row", "_", "early", "late"] ["line", "page"] (defScope sDigPage) := ⟨rfl, rfl, rfl, by decide +kernel, rfl, by decide +kernel, by decide +kernel⟩
theorem ok_digPage (F : FnP K "digits_of_page" sDigPage f fd) (Z : Free mg) (O : LOk P w K mg base) (gD : mg "digits_by_differences" = some (.ref fD)) (FD : FnP K "digits_by_differences" sDigDiff fD dD) (GD : FnOk P w K mg base CX0 3 fD dD ["firsts", "prime"] spDigDiff) :
    FnOk P w K mg base CX0 4 f fd ["line", "page"] (spDigPage K) := by
  have bD : Binds K dD ["firsts", "prime"] [] := FD.bindsN fun _ _ _ _ _ _ us hl => match us, hl with | [_, _], _ => rfl
  refine F.ok scDigPage (fun vs H Q E h => ?_) (fun cdv A outer s H vs Q E hr h => ?_)
  · obtain ⟨x, a, p, c, s, ds, rfl, _⟩ := h
    rfl
  · obtain ⟨x, a, p, c, z, ds, rfl, hLn, G, hc1, hc2, ha, k⟩ := h
    obtain ⟨p1, p2, z1, z4, hl, hlow, hcop⟩ := id G
    have nd := scDigPage.nd
    have hr1 : Room 1 _ := hr.mono (by decide)
    refine ⟨_, PSs.nox (pss_cons (ps_set (i := 2) nd rfl (Or.inr rfl) (pe_prime O hr1 (pv 0)))
      (pss_cons (ps_set (i := 3) nd rfl (Or.inl rfl) (pe_lst pa_nil))
      (pss_cons (ps_set (i := 4) nd rfl (Or.inl rfl) (pv 1))
      (pss_cons (ps_for PassesOwn.never rfl (pi_range1 (by rfl) Z.range (pa_cons (pe_size O hr1 (pv 0)) pa_nil)) (pg_name (i := 5) nd rfl (Or.inl rfl))
        (pss_cons (ps_expr (pe_bm PySem.F.plainAttrs_list PySem.F.slot_list_append PySem.F.type_list_append mt_append (pv 3) (pa_cons (pe_ix ix_list (pv 4) pe_int (fun _ _ => rfl)) pa_nil)))
        (pss_one (ps_setLc (i := 4) (own := [("early", 6), ("late", 7)]) (g := gTup K 2 (gCons (gName 6) (gCons (gName 7) gNil))) (tt := tYes) (by rfl) nd rfl rfl rfl (pi_zip (by rfl) Z.zip (pa_cons (pv 4) (pa_cons (pe_slice sl_list (pv 4) (po_some pe_int) po_none) pa_nil)))
          (blkOk_by (own := [("early", 6), ("late", 7)]) (N := ["line", "page", "prime", "firsts", "row", "_", "early", "late"]) (sc := defScope sDigPage) (by decide +kernel))
          (fun _ _ _ _ _ => pg_tup rfl (pgs_cons (pg_name (i := 6) nd rfl (Or.inl rfl)) (pgs_cons (pg_name (i := 7) nd rfl (Or.inl rfl)) pgs_nil))) (fun _ _ _ _ _ => pts_nil)
          (fun _ _ _ _ _ => pe_op op_mod (pe_op op_sub (pv 7) (pv 6)) (pv 2))))))
      (pss_cons (ps_if (pt_val (pe_callB (cr_anyI rfl) (by rfl) Z.any (by decide +kernel) (pa_cons (pv 4) pa_nil))) (pss_one (ps_ret pe_non)) pss_nil)
      (pss_one (ps_ret (pe_call GD hr rfl gD FD.kp bD .nil pass0 (pa_cons (pv 3) (pa_cons (pv 2) pa_nil)))))))))), ?_⟩
    refine ⟨x, p, c, z, rfl, hLn, ?_⟩
    refine ⟨(by show 0 ≤ sizeLine; decide), fun fo hfo => ?_⟩
    have s0 : Same H (upd H fo (.lst [])) := Same.updf hfo
    refine ⟨_, rfl, ?_⟩
    refine ⟨x, p, c, z, rfl, hLn.same s0, z, rfl, by omega, by omega, ?_⟩
    have e0 : ((z : Int)).toNat = z := by omega
    rw [e0]
    obtain ⟨n, hn⟩ : ∃ n : Nat, (n : Int) = c := ⟨c.toNat, by omega⟩
    have hcn : c.toNat = n := by omega
    rw [hcn] at ha
    refine for_it (walk_range (lo := 0) (n := z)) (fun i σ H2 => Same H H2 ∧ ∃ (r : Addr) (v5 v6 v7 : Option V), σ = [some x, some (.ref a), some (.int p), some (.ref fo), some (.ref r), v5, v6, v7] ∧ r ≠ fo ∧ H2 fo = some (.lst (((List.range i).map fun k => Ek ds k 1 % p).map V.int)) ∧ H2 r = some (.lst ((rowL ds p i (n - i)).map V.int)))
      ⟨s0, a, none, none, none, rfl, ne_of_none ha hfo, upd_same, s0 _ _ ha⟩ (fun _ _ _ _ _ => trivial) ?_ ?_
    · rintro i v σ H2 H3 hi ⟨sH, r, v5, v6, v7, rfl, hrf, hf, hrow⟩ ⟨rfl, rfl⟩
      refine ⟨_, rfl, Or.inl ⟨rfl, _, SqL.of hf⟩, _, rfl, r, _, _, .int (Ek ds i 1 % p), rfl, rfl, SqL.of hrow, ?_, fo, _, _, rfl, rfl, hf, ?_, ?_⟩
      · refine atI_nat ?_
        rw [rowL_get (n := n - i) (j := 0) (by omega)]
        rfl
      · rw [List.length_map, List.length_map, List.length_range]
        have : (2000 : Nat) ≤ sizeLine := by decide
        omega
      obtain ⟨H4, eH4⟩ : ∃ X, X = upd H3 fo (.lst (((List.range i).map fun k => Ek ds k 1 % p).map V.int ++ [.int (Ek ds i 1 % p)])) := ⟨_, rfl⟩
      rw [← eH4]
      have sH4 : Same H H4 := fun b o e => by
        rw [eH4, upd_ne (ne_of_none e hfo)]
        exact sH _ _ e
      have f4 : H4 fo = some (.lst (((List.range (i + 1)).map fun k => Ek ds k 1 % p).map V.int)) := by
        rw [eH4, upd_same, List.range_succ, List.map_append, List.map_append]
        rfl
      have r4 : H4 r = some (.lst ((rowL ds p i (n - i)).map V.int)) := by rw [eH4, upd_ne hrf]; exact hrow
      refine ⟨_, rfl, _, rfl, 1, rfl, r, _, rfl, SqL.of r4, fun cq hcq => ?_⟩
      have ec : cutV ((rowL ds p i (n - i)).map V.int) (some 1) none = ((rowL ds p i (n - i)).map V.int).drop 1 := cut_from (m := 1) (by rw [List.length_map, rowL_len]; omega)
      have s5 : Same H4 (upd H4 cq (.lst (cutV ((rowL ds p i (n - i)).map V.int) (some 1) none))) := Same.updf hcq
      refine ⟨r, cq, _, _, rfl, SqL.of (s5 _ _ r4), SqL.of upd_same, fun D hD => ?_⟩
      refine lc_sel (n := n - (i + 1)) (walk_zip (K := K) (a := r) (b := cq) (xs := (rowL ds p i (n - i)).map V.int) (ys := cutV ((rowL ds p i (n - i)).map V.int) (some 1) none) ?_) (fun j => some (.int (Ek ds (i + 1) (1 + (j : Int)) % p))) (by omega) hD
        (fun H5 s6 => ⟨SqL.of (s6 _ _ (s5 _ _ r4)), SqL.of (s6 _ _ upd_same)⟩) ?_ ?_
      · rw [ec, List.length_drop, List.length_map, rowL_len]
        omega
      · rintro t v H5 H6 Qy Qn ht s6 ⟨T, x1, x2, rfl, nT, rfl, g1, g2⟩ ky kn
        dsimp only at g1 g2
        rw [rowL_get (by omega)] at g1
        rw [ec, List.getElem?_drop, rowL_get (by omega)] at g2
        obtain rfl := Option.some.inj g1
        obtain rfl := Option.some.inj g2
        refine ⟨T, [_, _], rfl, .inl (.inl upd_same), rfl, _, [_], rfl, _, [], rfl, rfl, ?_⟩
        refine ⟨rfl, _, rfl, _, rfl, _, _, rfl, rfl, _, rfl, _, _, rfl, rfl, (by show 0 < p; omega), ?_⟩
        refine ky _ _ (Same.updf nT) ?_
        have et : (1 : Int) + ((1 + t : Nat) : Int) = (1 + (t : Int)) + 1 := by omega
        show some (V.int _) = some (V.int ((Ek ds i (1 + ((1 + t : Nat) : Int)) % p - Ek ds i (1 + (t : Int)) % p) % p))
        rw [et, ← Int.sub_emod, Ek_step]
      · intro H5 s6 hRR
        have sAll : Same H4 H5 := s5.trans s6
        refine ⟨sH4.trans sAll, D, _, _, _, rfl, ?_, sAll _ _ f4, ?_⟩
        · exact fun e => by
            rw [e] at hD
            have := s5 _ _ f4
            rw [hD] at this
            cases this
        · rw [hRR, List.filterMap_eq_map', rowL, List.map_map]
          rfl
    · rintro σ H2 ⟨sH, r, v5, v6, v7, rfl, hrf, hf, hrow⟩
      have ez : ((rowL ds p z (n - z)).map fun m => m != 0).any id = false := by
        unfold rowL
        rw [List.any_eq_false]
        intro b hb
        simp only [List.mem_map, List.mem_range] at hb
        obtain ⟨_, ⟨j, _, rfl⟩, rfl⟩ := hb
        rw [Ek_top G.zero z4 z1]
        simp
      refine ⟨_, rfl, r, _, rfl, SqL.of hrow, _, rfl, ?_⟩
      rw [ez]
      refine iteF ⟨_, rfl, _, rfl, fo, p, z, ds, rfl, G, hf, fun q H3 s3 hq e3 => ?_⟩
      exact k q H3 (sH.trans s3) (none_back sH hq) e3
end
end K10
set_option Elab.async false
set_option linter.all false
set_option maxRecDepth 100000
set_option maxHeartbeats 4000000
namespace K10
open PySem PySem.Spec PyProof.Rows L2
abbrev sNumOf : Stmt := top 36
abbrev sHolds : Stmt := top 37
/-- a sign, or nothing -/
def oV : Option Int → V
  | none => .non
  | some i => .int i
def spNeedC : Sp := fun vs H Q _ => ∃ i : Int, vs = [.int i] ∧ 0 ≤ i ∧ Q .non H
def spNeedCU : Sp := fun vs H Q _ => ∃ i j : Int, vs = [.int i, .int j] ∧ 0 ≤ i ∧ 0 ≤ j ∧ Q .non H
def spHolds (K : PySem.W.Frag) : Sp := fun vs H Q _ => ∃ (x : V) (p c s i j : Int), vs = [x, .int i, .int j] ∧ LineAt K H x p c s ∧ LB p c s ∧ 0 ≤ i ∧ 0 ≤ j ∧ Q (.bl (decide (c > 4 * (s - 1) + 3 * i + j))) H
def spIsPic (K : PySem.W.Frag) : Sp := fun vs H Q _ => ∃ (x : V) (a : Addr) (p s : Int) (n : Nat) (xs : List (Option Int)), vs = [x, .ref a] ∧ LineAt K H x p (n : Int) s ∧ H a = some (.lst (xs.map oV)) ∧ xs.length = n ∧ n ≤ 1000 ∧
  (∀ i, some i ∈ xs → 0 ≤ i ∧ i < p) ∧ ∀ H', Same H H' → Q (.bl true) H'
def spNumOf (K : PySem.W.Frag) : Sp := fun vs H Q _ => ∃ (x : V) (a : Addr) (p : Int) (n s : Nat) (ds : List Int), vs = [x, .ref a] ∧ LineAt K H x p (n : Int) (s : Int) ∧ DG p s ds ∧ s ≤ n ∧ n ≤ 1000 ∧ H a = some (.lst ((rowL ds p 0 n).map V.int)) ∧
  ∀ H', Same H H' → Q (.int (nBy p ds)) H'
section
variable {P : Program} {w : World} {K : PySem.W.Frag} {mg : Str → Option Value} {base : Heap} {f fC fB fN fU fI fD fY : Addr} {fd dC dB dN dU dI dD dY : FuncData}
theorem scNeedC : FnScope ["number"] ["number"] (defScope sNeedC) := ⟨rfl, rfl, rfl, by decide +kernel, rfl, by decide +kernel, by decide +kernel⟩
theorem ok_needC (F : FnP K "need_count" sNeedC f fd) (gC : mg "is_count" = some (.ref fC)) (FC : FnP K "is_count" sCount fC dC) (GC : FnOk P w K mg base CX0 2 fC dC ["value"] spCount) : FnOk P w K mg base CX0 3 f fd ["number"] spNeedC := by
  have bC : Binds K dC ["value"] [] := FC.bindsN fun _ _ _ _ _ _ us hl => match us, hl with | [_], _ => rfl
  refine F.ok scNeedC (fun vs H Q E h => ?_) (fun cdv A outer s H vs Q E hr h => ?_)
  · obtain ⟨i, rfl, _⟩ := h
    rfl
  · obtain ⟨i, rfl, hi, k⟩ := h
    refine ⟨_, PSs.nox (pss_one (ps_if (pt_not (pt_val (pe_call GC hr rfl gC FC.kp bC .nil pass0 (pa_cons (pv 0) pa_nil)))) (pss_one ps_dead) pss_nil)), ?_⟩
    refine ⟨_, rfl, i, rfl, _, rfl, ?_⟩
    rw [decide_eq_true (show i ≥ 0 from hi)]
    exact iteF k
theorem scNeedCU : FnScope ["changed", "unread"] ["changed", "unread"] (defScope sNeedCU) := ⟨rfl, rfl, rfl, by decide +kernel, rfl, by decide +kernel, by decide +kernel⟩
theorem ok_needCU (F : FnP K "need_changed_and_unread" sNeedCU f fd) (gN : mg "need_count" = some (.ref fN)) (FN : FnP K "need_count" sNeedC fN dN) (GN : FnOk P w K mg base CX0 3 fN dN ["number"] spNeedC) : FnOk P w K mg base CX0 4 f fd ["changed", "unread"] spNeedCU := by
  have bN : Binds K dN ["number"] [] := FN.bindsN fun _ _ _ _ _ _ us hl => match us, hl with | [_], _ => rfl
  refine F.ok scNeedCU (fun vs H Q E h => ?_) (fun cdv A outer s H vs Q E hr h => ?_)
  · obtain ⟨i, j, rfl, _⟩ := h
    rfl
  · obtain ⟨i, j, rfl, hi, hj, k⟩ := h
    exact ⟨_, PSs.nox (pss_cons (ps_expr (pe_call GN hr rfl gN FN.kp bN .nil pass0 (pa_cons (pv 0) pa_nil))) (pss_one (ps_expr (pe_call GN hr rfl gN FN.kp bN .nil pass0 (pa_cons (pv 1) pa_nil))))), _, rfl, i, rfl, hi, _, rfl, j, rfl, hj, k⟩
theorem scHolds : FnScope ["line", "changed", "unread"] ["line", "changed", "unread"] (defScope sHolds) := ⟨rfl, rfl, rfl, by decide +kernel, rfl, by decide +kernel, by decide +kernel⟩
theorem ok_holds (F : FnP K "holds" sHolds f fd) (O : LOk P w K mg base) (gN : mg "need_line" = some (.ref fN)) (FN : FnP K "need_line" sNeedL fN dN) (GN : FnOk P w K mg base CX0 1 fN dN ["line"] (spNeedL K))
    (gU : mg "need_changed_and_unread" = some (.ref fU)) (FU : FnP K "need_changed_and_unread" sNeedCU fU dU) (GU : FnOk P w K mg base CX0 4 fU dU ["changed", "unread"] spNeedCU) : FnOk P w K mg base CX0 5 f fd ["line", "changed", "unread"] (spHolds K) := by
  have bN : Binds K dN ["line"] [] := FN.bindsN fun _ _ _ _ _ _ us hl => match us, hl with | [_], _ => rfl
  have bU : Binds K dU ["changed", "unread"] [] := FU.bindsN fun _ _ _ _ _ _ us hl => match us, hl with | [_, _], _ => rfl
  refine F.ok scHolds (fun vs H Q E h => ?_) (fun cdv A outer s H vs Q E hr h => ?_)
  · obtain ⟨x, p, c, s, i, j, rfl, _⟩ := h
    rfl
  · obtain ⟨x, p, c, z, i, j, rfl, hL, B, hi, hj, k⟩ := h
    obtain ⟨p1, p2, c1, c2, z1, z2⟩ := B
    have hr1 : Room 1 _ := hr.mono (by decide)
    refine ⟨_, PSs.nox (pss_cons (ps_expr (pe_call GN hr1 rfl gN FN.kp bN .nil pass0 (pa_cons (pv 0) pa_nil))) (pss_cons (ps_expr (pe_call GU hr rfl gU FU.kp bU .nil pass0 (pa_cons (pv 1) (pa_cons (pv 2) pa_nil))))
      (pss_one (ps_ret (pe_cmpR op_gt (pe_cells O hr1 (pv 0)) (pe_op op_add (pe_op op_add (pe_op op_mul pe_int (pe_op op_sub (pe_size O hr1 (pv 0)) pe_int)) (pe_op op_mul pe_int (pv 1))) (pv 2)) (nomark _)))))), ?_⟩
    refine ⟨_, rfl, x, p, c, z, rfl, hL, _, rfl, _, rfl, i, j, rfl, hi, hj, ?_⟩
    refine ⟨x, p, c, z, rfl, hL, x, p, c, z, rfl, hL, _, _, rfl, rfl, _, _, rfl, rfl, Or.inl ⟨by decide, by decide⟩, _, rfl, _, _, rfl, rfl, Or.inl ⟨by decide, by decide⟩, _, _, rfl, rfl, _, rfl, _, _, rfl, rfl, _, _, rfl, rfl, k⟩
theorem scIsPic : FnScope ["line", "value", "sign"] ["line", "value"] (defScope sIsPic) := ⟨rfl, rfl, rfl, by decide +kernel, rfl, by decide +kernel, by decide +kernel⟩
theorem ok_isPic (F : FnP K "is_picture_of_signs" sIsPic f fd) (Z : Free mg) (O : LOk P w K mg base) (gB : mg "is_count_below" = some (.ref fB)) (FB : FnP K "is_count_below" sBelow fB dB) (GB : FnOk P w K mg base CX0 3 fB dB ["value", "bound"] spBelow) :
    FnOk P w K mg base CX0 4 f fd ["line", "value"] (spIsPic K) := by
  have bB : Binds K dB ["value", "bound"] [] := FB.bindsN fun _ _ _ _ _ _ us hl => match us, hl with | [_, _], _ => rfl
  refine F.ok scIsPic (fun vs H Q E h => ?_) (fun cdv A outer s H vs Q E hr h => ?_)
  · obtain ⟨x, a, p, s, n, xs, rfl, _⟩ := h
    rfl
  · obtain ⟨x, a, p, z, n, xs, rfl, hL, ha, hn, hn2, hs, k⟩ := h
    have nd := scIsPic.nd
    have hr1 : Room 1 _ := hr.mono (by decide)
    refine ⟨_, PSs.nox (pss_cons (ps_if (PW.pt (pw_or (pt_not (pt_val (pe_callB call_isi (by rfl) Z.isi (by decide +kernel) (pa_cons (pv 1) (pa_cons (pe_bltn (v := .ty "list") (by rfl) Z.tlist (by decide +kernel) rfl) pa_nil)))))
        (pw_or1 (pt_cmpR op_ne (pe_callB call_len_seq (by rfl) Z.len (by decide +kernel) (pa_cons (pv 1) pa_nil)) (pe_cells O hr1 (pv 0)) (nomark _))))) (pss_one (ps_ret pe_bl)) pss_nil)
      (pss_one (ps_ret (pe_callB (cr_all rfl) (by rfl) Z.all (by decide +kernel) (pa_cons (pe_lc (own := [("sign", 2)]) (g := gName 2) (tt := tYes) (te := tOrV (tOp (fun x y H Q => y = .non ∧ Q (.bl (decide (x = .non))) H) (tVar 2) (tC .non)) (tCall spBelow [] E0 (tCons (tVar 2) (tCons (tGet K 0 fun p _ _ => p) tNil)))) (by rfl) nd (pi_list (pv 1))
        (blkOk_by (own := [("sign", 2)]) (N := ["line", "value", "sign"]) (sc := defScope sIsPic) (by decide +kernel)) (fun _ _ _ _ _ => pg_name (i := 2) nd rfl (Or.inl rfl)) (fun _ _ _ _ _ => pts_nil)
        (fun _ _ _ _ _ => pe_or (pe_cmpR op_isN (pv 2) pe_non (nomark _)) (pe_one (pe_call GB (hr.mono (by decide)) rfl gB FB.kp bB .nil pass0 (pa_cons (pv 2) (pa_cons (pe_prime O hr1 (pv 0)) pa_nil)))))) pa_nil))))), ?_⟩
    refine ⟨_, rfl, .ref a, .ty "list", .type "list", .type "list", true, rfl, .ty _, .base (.lst ha), kit_ty (by decide +kernel), true, rfl, iteF ?_⟩
    refine ⟨_, rfl, a, _, rfl, Or.inl (SqL.of ha), x, p, n, z, rfl, hL, rfl, _, rfl, ?_⟩
    refine iteNS (by rw [List.length_map, hn]) ?_
    refine ⟨_, rfl, a, rfl, ⟨_, SqL.of ha⟩, fun D hD => ?_⟩
    refine lc_sel (walk_list (K := K) (a := a) (xs := xs.map oV)) (fun _ => some (.bl true)) (by rw [List.length_map]; omega) hD (fun H2 s2 => SqL.of (s2 _ _ ha)) ?_ ?_
    · rintro i v H2 H3 Qy Qn hi sH ⟨rfl, hv⟩ ky kn
      rw [List.getElem?_map] at hv
      cases e : xs[i]? with
      | none =>
        rw [e] at hv
        cases hv
      | some o =>
        rw [e] at hv
        obtain rfl : oV o = v := Option.some.inj hv
        cases o with
        | none => exact ⟨rfl, _, rfl, rfl, true, rfl, iteT (ky _ _ (Same.refl _) rfl)⟩
        | some j =>
          refine ⟨rfl, _, rfl, rfl, false, rfl, iteF ⟨_, rfl, x, p, n, z, rfl, hL.same sH, j, p, rfl, ?_⟩⟩
          rw [decide_eq_true (hs j (List.mem_of_getElem? e))]
          exact ky _ _ (Same.refl _) rfl
    · intro H2 s2 hR
      have e : ((List.range (xs.map oV).length).filterMap fun _ => some (V.bl true)) = (List.replicate (xs.map oV).length true).map V.bl := by
        rw [List.filterMap_eq_map', List.map_const', List.length_range, List.map_replicate]
      rw [e] at hR
      refine ⟨D, _, rfl, SqL.of hR, ?_⟩
      have e2 : (List.replicate (xs.map oV).length true).all id = true := by
        rw [List.all_eq_true]
        intro b hb
        rw [List.eq_of_mem_replicate hb]
        rfl
      rw [e2]
      exact k H2 s2
theorem scNumOf : FnScope ["line", "page", "digits"] ["line", "page"] (defScope sNumOf) := ⟨rfl, rfl, rfl, by decide +kernel, rfl, by decide +kernel, by decide +kernel⟩
theorem ok_numOf (F : FnP K "number_of" sNumOf f fd) (gN : mg "need_line" = some (.ref fN)) (FN : FnP K "need_line" sNeedL fN dN) (GN : FnOk P w K mg base CX0 1 fN dN ["line"] (spNeedL K))
    (gI : mg "is_picture_of_signs" = some (.ref fI)) (FI : FnP K "is_picture_of_signs" sIsPic fI dI) (GI : FnOk P w K mg base CX0 4 fI dI ["line", "value"] (spIsPic K))
    (gD : mg "digits_of_page" = some (.ref fD)) (FD : FnP K "digits_of_page" sDigPage fD dD) (GD : FnOk P w K mg base CX0 4 fD dD ["line", "page"] (spDigPage K))
    (gY : mg "number_by" = some (.ref fY)) (FY : FnP K "number_by" sNumBy fY dY) (GY : FnOk P w K mg base CX0 2 fY dY ["line", "digits"] (spNumBy K)) :
    FnOk P w K mg base CX0 5 f fd ["line", "page"] (spNumOf K) := by
  have bN : Binds K dN ["line"] [] := FN.bindsN fun _ _ _ _ _ _ us hl => match us, hl with | [_], _ => rfl
  have bI : Binds K dI ["line", "value"] [] := FI.bindsN fun _ _ _ _ _ _ us hl => match us, hl with | [_, _], _ => rfl
  have bD : Binds K dD ["line", "page"] [] := FD.bindsN fun _ _ _ _ _ _ us hl => match us, hl with | [_, _], _ => rfl
  have bY : Binds K dY ["line", "digits"] [] := FY.bindsN fun _ _ _ _ _ _ us hl => match us, hl with | [_, _], _ => rfl
  refine F.ok scNumOf (fun vs H Q E h => ?_) (fun cdv A outer s H vs Q E hr h => ?_)
  · obtain ⟨x, a, p, n, s, ds, rfl, _⟩ := h
    rfl
  · obtain ⟨x, a, p, n, z, ds, rfl, hL, G, hz, hn, ha, k⟩ := h
    obtain ⟨p1, p2, z1, z4, hl, hlow, hcop⟩ := id G
    have nd := scNumOf.nd
    have hr1 : Room 1 _ := hr.mono (by decide)
    have hr2 : Room 2 _ := hr.mono (by decide)
    refine ⟨_, PSs.nox (pss_cons (ps_expr (pe_call GN hr1 rfl gN FN.kp bN .nil pass0 (pa_cons (pv 0) pa_nil)))
      (pss_cons (ps_if (PW.pt (pw_or (pt_not (pt_val (pe_call GI hr rfl gI FI.kp bI .nil pass0 (pa_cons (pv 0) (pa_cons (pv 1) pa_nil))))) (pw_or1 (pt_cmpR op_in_seq pe_non (pv 1) (by rfl))))) (pss_one ps_dead) pss_nil)
      (pss_cons (ps_set (i := 2) nd rfl (Or.inl rfl) (pe_call GD hr rfl gD FD.kp bD .nil pass0 (pa_cons (pv 0) (pa_cons (pv 1) pa_nil))))
      (pss_cons (ps_if (pt_cmpR op_isN (pv 2) pe_non (nomark _)) (pss_one ps_dead) pss_nil)
      (pss_one (ps_ret (pe_call GY hr2 rfl gY FY.kp bY .nil pass0 (pa_cons (pv 0) (pa_cons (pv 2) pa_nil))))))))), ?_⟩
    have ha2 : H a = some (.lst (((rowL ds p 0 n).map some).map oV)) := by
      rw [ha, List.map_map]
      rfl
    refine ⟨_, rfl, x, p, n, z, rfl, hL, ?_⟩
    refine ⟨_, rfl, _, rfl, x, a, p, z, n, _, rfl, hL, ha2, by rw [List.length_map, rowL_len], hn, fun i hi => ?_, fun H2 s2 => ⟨true, rfl, iteF ?_⟩⟩
    · rw [List.mem_map] at hi
      obtain ⟨j, hj, e⟩ := hi
      cases e
      unfold rowL at hj
      rw [List.mem_map] at hj
      obtain ⟨t, _, rfl⟩ := hj
      exact ⟨Int.emod_nonneg _ (by omega), Int.emod_lt_of_pos _ (by omega)⟩
    refine ⟨_, rfl, a, _, rfl, Or.inl (SqL.of (s2 _ _ ha)), rfl, ?_, _, rfl, ?_⟩
    · rw [List.all_eq_true]
      intro v hv
      rw [List.mem_map] at hv
      obtain ⟨j, _, rfl⟩ := hv
      rfl
    have en : inV .non ((rowL ds p 0 n).map V.int) = false := by
      unfold inV
      rw [List.any_eq_false]
      intro v hv
      rw [List.mem_map] at hv
      obtain ⟨j, _, rfl⟩ := hv
      exact fun e => by cases e
    rw [en]
    refine iteF ⟨_, rfl, _, rfl, x, a, p, n, z, ds, rfl, hL.same s2, G, by omega, by omega, by rw [Int.toNat_natCast]; exact s2 _ _ ha, fun q H3 s3 hq e3 => ?_⟩
    refine ⟨_, rfl, rfl, _, rfl, ?_⟩
    rw [decide_eq_false (fun e => by cases e)]
    have s23 := s2.trans s3
    exact iteF ⟨_, rfl, _, rfl, x, q, ds, p, n, z, rfl, hL.same s23, ⟨p1, by omega, by omega, by omega, by omega, by omega⟩, SqL.of e3, k H3 s23⟩
end
end K10
set_option Elab.async false
set_option linter.all false
set_option maxRecDepth 100000
set_option maxHeartbeats 4000000
namespace K10
open PySem PySem.Spec PyProof.Rows L2
abbrev sMany : Stmt := top 38
abbrev sAgree : Stmt := top 39
abbrev sPrime : Stmt := top 26
/-- in how many places a row has the signs of a picture -/
def agr (sg : List Int) (xs : List (Option Int)) : Nat := ((List.range sg.length).filter fun j => decide (xs.getD j none = some (sg.getD j 0))).length
theorem agr_sel (sg : List Int) (xs : List (Option Int)) : ((List.range sg.length).filterMap fun (j : Nat) => if xs.getD j none = some (sg.getD j 0) then some (V.int (j : Int)) else none).length = agr sg xs := by
  unfold agr
  generalize List.range sg.length = l
  induction l with
  | nil => rfl
  | cons a l ih =>
    by_cases h : xs.getD a none = some (sg.getD a 0)
    · rw [List.filterMap_cons, if_pos h, List.filter_cons, if_pos (decide_eq_true h), List.length_cons, List.length_cons, ih]
    · rw [List.filterMap_cons, if_neg h, List.filter_cons, if_neg (fun e => h (of_decide_eq_true e)), ih]
def spMany (K : PySem.W.Frag) : Sp := fun vs H Q _ => ∃ (a b : Addr) (sg : List Int) (xs : List (Option Int)), vs = [.ref a, .ref b] ∧ SqL K H a (sg.map V.int) ∧ SqL K H b (xs.map oV) ∧ sg.length = xs.length ∧ sg.length ≤ 1000 ∧ ∀ H', Same H H' → Q (.int (agr sg xs : Nat)) H'
def spAgree (K : PySem.W.Frag) : Sp := fun vs H Q _ => ∃ (x : V) (b : Addr) (p m : Int) (n s : Nat) (xs : List (Option Int)), vs = [x, .int m, .ref b] ∧ LineAt K H x p (n : Int) (s : Int) ∧ LB p (n : Int) (s : Int) ∧ 0 ≤ m ∧ quo p s m = 0 ∧ H b = some (.lst (xs.map oV)) ∧ xs.length = n ∧
  (∀ i, some i ∈ xs → 0 ≤ i ∧ i < p) ∧ ∀ H', Same H H' → Q (.int (agr (signs p n (digs p s m)) xs : Nat)) H'
theorem oV_at {xs : List (Option Int)} {j : Nat} (h : j < xs.length) : atI (xs.map oV) (j : Int) = some (oV (xs.getD j none)) := by
  refine atI_nat ?_
  rw [List.getElem?_map, List.getElem?_eq_getElem h, List.getD_eq_getElem?_getD, List.getElem?_eq_getElem h]
  rfl
section
variable {P : Program} {w : World} {K : PySem.W.Frag} {mg : Str → Option Value} {base : Heap} {f fN fI fM fC : Addr} {fd dN dI dM dC : FuncData}
theorem scMany : FnScope ["signs", "value", "cell"] ["signs", "value"] (defScope sMany) := ⟨rfl, rfl, rfl, by decide +kernel, rfl, by decide +kernel, by decide +kernel⟩
theorem ok_many (F : FnP K "many_agreeing" sMany f fd) (Z : Free mg) : FnOk P w K mg base CX0 1 f fd ["signs", "value"] (spMany K) := by
  refine F.ok scMany (fun vs H Q E h => ?_) (fun cdv A outer s H vs Q E hr h => ?_)
  · obtain ⟨a, b, sg, xs, rfl, _⟩ := h
    rfl
  · obtain ⟨a, b, sg, xs, rfl, hS, hX, hl, hn, k⟩ := h
    have nd := scMany.nd
    refine ⟨_, PSs.nox (pss_one (ps_ret (pe_callB call_len_seq (by rfl) Z.len (by decide +kernel) (pa_cons (pe_lc (own := [("cell", 2)]) (g := gName 2) (tt := tTest (tOp rEq (tOp (rIxL K) (tVar 0) (tVar 2)) (tOp (rIxL K) (tVar 1) (tVar 2)))) (te := tVar 2) (by rfl) nd (pi_range1 (by rfl) Z.range (pa_cons (pe_callB call_len_seq (by rfl) Z.len (by decide +kernel) (pa_cons (pv 0) pa_nil)) pa_nil))
      (blkOk_by (own := [("cell", 2)]) (N := ["signs", "value", "cell"]) (sc := defScope sMany) (by decide +kernel)) (fun _ _ _ _ _ => pg_name (i := 2) nd rfl (Or.inl rfl)) (fun _ _ _ _ _ => pts_one (pt_cmpR op_eq (pe_ix ix_list (pv 0) (pv 2) (fun _ _ => rfl)) (pe_ix ix_list (pv 1) (pv 2) (fun _ _ => rfl)) (nomark _)))
      (fun _ _ _ _ _ => pv 2)) pa_nil)))), ?_⟩
    have e1 : ((sg.map V.int).length : Int).toNat = sg.length := by rw [List.length_map]; omega
    refine ⟨_, rfl, a, _, rfl, Or.inl hS, _, rfl, by omega, by rw [List.length_map]; omega, fun D hD => ?_⟩
    rw [e1]
    refine lc_sel (walk_range (lo := 0) (n := sg.length)) (fun (j : Nat) => if xs.getD j none = some (sg.getD j 0) then some (.int (j : Int)) else none) (by omega) hD (fun _ _ => trivial) ?_ ?_
    · rintro i v H2 H3 Qy Qn hi sH ⟨rfl, hv⟩ ky kn
      obtain rfl : v = .int (i : Int) := hv.trans (congrArg V.int (by omega))
      refine ⟨rfl, _, rfl, _, rfl, a, _, _, _, rfl, rfl, sH.seq hS, at_map hi, _, rfl, _, rfl, b, _, _, _, rfl, rfl, sH.seq hX, oV_at (by omega), ?_⟩
      cases e : xs.getD i none with
      | none =>
        refine ⟨rfl, _, rfl, ?_⟩
        rw [decide_eq_false (fun e => by cases e)]
        exact iteF (kn _ (Same.refl _) (by rw [e, if_neg (fun z => by cases z)]))
      | some m =>
        refine ⟨rfl, _, rfl, ?_⟩
        by_cases hm : sg.getD i 0 = m
        · rw [decide_eq_true (show V.int (sg.getD i 0) = oV (some m) from congrArg V.int hm)]
          exact iteT ⟨_, rfl, ky _ _ (Same.refl _) (by rw [e, if_pos (by rw [hm])])⟩
        · rw [decide_eq_false (show ¬ V.int (sg.getD i 0) = oV (some m) from fun z => hm (V.int.inj z))]
          exact iteF (kn _ (Same.refl _) (by rw [e, if_neg (fun z => hm (Option.some.inj z).symm)]))
    · intro H2 s2 hR
      refine ⟨D, _, rfl, Or.inl (SqL.of hR), ?_⟩
      rw [agr_sel]
      exact k H2 s2
theorem scAgree : FnScope ["line", "number", "value", "signs"] ["line", "number", "value"] (defScope sAgree) := ⟨rfl, rfl, rfl, by decide +kernel, rfl, by decide +kernel, by decide +kernel⟩
theorem ok_agree (F : FnP K "agreeing" sAgree f fd) (gN : mg "need_signs_of_page" = some (.ref fN)) (FN : FnP K "need_signs_of_page" sNeedSigns fN dN) (GN : FnOk P w K mg base CX0 4 fN dN ["line", "number"] (spPageOf K))
    (gI : mg "is_picture_of_signs" = some (.ref fI)) (FI : FnP K "is_picture_of_signs" sIsPic fI dI) (GI : FnOk P w K mg base CX0 4 fI dI ["line", "value"] (spIsPic K))
    (gM : mg "many_agreeing" = some (.ref fM)) (FM : FnP K "many_agreeing" sMany fM dM) (GM : FnOk P w K mg base CX0 1 fM dM ["signs", "value"] (spMany K)) :
    FnOk P w K mg base CX0 5 f fd ["line", "number", "value"] (spAgree K) := by
  have bN : Binds K dN ["line", "number"] [] := FN.bindsN fun _ _ _ _ _ _ us hl => match us, hl with | [_, _], _ => rfl
  have bI : Binds K dI ["line", "value"] [] := FI.bindsN fun _ _ _ _ _ _ us hl => match us, hl with | [_, _], _ => rfl
  have bM : Binds K dM ["signs", "value"] [] := FM.bindsN fun _ _ _ _ _ _ us hl => match us, hl with | [_, _], _ => rfl
  refine F.ok scAgree (fun vs H Q E h => ?_) (fun cdv A outer s H vs Q E hr h => ?_)
  · obtain ⟨x, b, p, m, n, s, xs, rfl, _⟩ := h
    rfl
  · obtain ⟨x, b, p, m, n, z, xs, rfl, hL, B, hm, hq, hb, hn, hs, k⟩ := h
    have hc2 := B.c2
    have nd := scAgree.nd
    have hr1 : Room 1 _ := hr.mono (by decide)
    refine ⟨_, PSs.nox (pss_cons (ps_set (i := 3) nd rfl (Or.inl rfl) (pe_call GN hr rfl gN FN.kp bN .nil pass0 (pa_cons (pv 0) (pa_cons (pv 1) pa_nil))))
      (pss_cons (ps_if (pt_not (pt_val (pe_call GI hr rfl gI FI.kp bI .nil pass0 (pa_cons (pv 0) (pa_cons (pv 2) pa_nil))))) (pss_one ps_dead) pss_nil)
      (pss_one (ps_ret (pe_call GM hr1 rfl gM FM.kp bM .nil pass0 (pa_cons (pv 3) (pa_cons (pv 2) pa_nil))))))), ?_⟩
    refine ⟨_, rfl, _, rfl, x, p, n, z, m, rfl, hL, B, hm, by rw [Int.toNat_natCast]; exact hq, fun q H2 s2 hq2 e2 => ?_⟩
    rw [Int.toNat_natCast, Int.toNat_natCast] at e2
    refine ⟨_, rfl, _, rfl, x, b, p, z, n, xs, rfl, hL.same s2, s2 _ _ hb, hn, by omega, hs, fun H3 s3 => ⟨true, rfl, iteF ?_⟩⟩
    refine ⟨_, rfl, _, rfl, q, b, _, xs, rfl, SqL.of (s3 _ _ e2), SqL.of ((s2.trans s3) _ _ hb), ?_, ?_, fun H4 s4 => k H4 ((s2.trans s3).trans s4)⟩
    · unfold signs
      rw [List.length_map, List.length_range, hn]
    · unfold signs
      rw [List.length_map, List.length_range]
      omega
end
end K10
set_option Elab.async false
set_option linter.all false
set_option maxRecDepth 100000
set_option maxHeartbeats 4000000
namespace K10
open PySem PySem.Spec PyProof.Rows L2
structure AscB (cs : List Int) (b : Int) : Prop where
  len : cs.length ≤ 1000
  up : ∀ i, i + 1 < cs.length → cs.getD i 0 < cs.getD (i + 1) 0
  nn : ∀ x ∈ cs, 0 ≤ x
  lt : ∀ x ∈ cs, x < b
def spAsc (K : PySem.W.Frag) : Sp := fun vs H Q _ => ∃ (a : Addr) (cs : List Int) (b : Int), vs = [.ref a] ∧ H a = some (.lst (cs.map V.int)) ∧ AscB cs b ∧ ∀ H', Same H H' → Q (.bl true) H'
def spAscB (K : PySem.W.Frag) : Sp := fun vs H Q _ => ∃ (a : Addr) (cs : List Int) (b : Int), vs = [.ref a, .int b] ∧ H a = some (.lst (cs.map V.int)) ∧ AscB cs b ∧ ∀ H', Same H H' → Q (.bl true) H'
/-- all of a list that is true at each place -/
theorem all_true {K : PySem.W.Frag} {n : Nat} {H : Hp} {D : Addr} {Q : VK} (hR : H D = some (.lst ((List.range n).filterMap fun _ => some (V.bl true)))) (k : Q (.bl true) H) : ∃ (a : Addr) (bs : List Bool), [V.ref D] = [V.ref a] ∧ SqL K H a (bs.map V.bl) ∧ Q (.bl (bs.all id)) H := by
  have e : ((List.range n).filterMap fun _ => some (V.bl true)) = (List.replicate n true).map V.bl := by
    rw [List.filterMap_eq_map', List.map_const', List.length_range, List.map_replicate]
  rw [e] at hR
  refine ⟨D, _, rfl, SqL.of hR, ?_⟩
  have e2 : (List.replicate n true).all id = true := by
    rw [List.all_eq_true]
    intro b hb
    rw [List.eq_of_mem_replicate hb]
    rfl
  rw [e2]
  exact k
theorem all_bits {K : PySem.W.Frag} {n : Nat} {H : Hp} {D : Addr} (hR : H D = some (.lst ((List.range n).filterMap fun _ => some (V.bl true)))) : ∃ bs : List Bool, SqL K H D (bs.map V.bl) ∧ bs.all id = true := by
  obtain ⟨a, bs, e1, e2, e3⟩ := all_true (K := K) (Q := fun v _ => v = .bl true) hR rfl
  cases e1
  exact ⟨bs, e2, V.bl.inj e3⟩
section
variable {P : Program} {w : World} {K : PySem.W.Frag} {mg : Str → Option Value} {base : Heap} {f fC fA : Addr} {fd dC dA : FuncData}
theorem scAsc : FnScope ["values", "one", "other"] ["values"] (defScope sAsc) := ⟨rfl, rfl, rfl, by decide +kernel, rfl, by decide +kernel, by decide +kernel⟩
theorem ok_asc (F : FnP K "ascends" sAsc f fd) (Z : Free mg) : FnOk P w K mg base CX0 1 f fd ["values"] (spAsc K) := by
  refine F.ok scAsc (fun vs H Q E h => ?_) (fun cdv A outer s H vs Q E hr h => ?_)
  · obtain ⟨a, cs, b, rfl, _⟩ := h
    rfl
  · obtain ⟨a, cs, b, rfl, ha, G, k⟩ := h
    have nd := scAsc.nd
    have hl := G.len
    refine ⟨_, PSs.nox (pss_one (ps_ret (pe_callB (cr_all rfl) (by rfl) Z.all (by decide +kernel) (pa_cons (pe_lc (own := [("one", 1), ("other", 2)]) (g := gTup K 2 (gCons (gName 1) (gCons (gName 2) gNil))) (tt := tYes) (by rfl) nd (pi_zip (by rfl) Z.zip (pa_cons (pv 0) (pa_cons (pe_slice sl_list (pv 0) (po_some pe_int) po_none) pa_nil)))
      (blkOk_by (own := [("one", 1), ("other", 2)]) (N := ["values", "one", "other"]) (sc := defScope sAsc) (by decide +kernel))
      (fun _ _ _ _ _ => pg_tup rfl (pgs_cons (pg_name (i := 1) nd rfl (Or.inl rfl)) (pgs_cons (pg_name (i := 2) nd rfl (Or.inl rfl)) pgs_nil))) (fun _ _ _ _ _ => pts_nil)
      (fun _ _ _ _ _ => pe_cmpR op_lt (pv 1) (pv 2) (nomark _))) pa_nil)))), ?_⟩
    refine ⟨_, rfl, _, rfl, 1, rfl, a, _, rfl, SqL.of ha, fun cq hcq => ?_⟩
    have s1 : Same H (upd H cq (.lst (cutV (cs.map V.int) (some 1) none))) := Same.updf hcq
    have ec : ∀ j, (cutV (cs.map V.int) (some 1) none)[j]? = (cs.map V.int)[1 + j]? := fun j => by
      by_cases h1 : 1 ≤ cs.length
      · rw [show cutV (cs.map V.int) (some 1) none = (cs.map V.int).drop 1 from cut_from (m := 1) (by rw [List.length_map]; exact h1), List.getElem?_drop]
      · have e0 : cs = [] := List.length_eq_zero_iff.mp (by omega)
        rw [e0]
        rfl
    have el : (cutV (cs.map V.int) (some 1) none).length = cs.length - 1 := by
      by_cases h1 : 1 ≤ cs.length
      · rw [show cutV (cs.map V.int) (some 1) none = (cs.map V.int).drop 1 from cut_from (m := 1) (by rw [List.length_map]; exact h1), List.length_drop, List.length_map]
      · have e0 : cs = [] := List.length_eq_zero_iff.mp (by omega)
        rw [e0]
        rfl
    refine ⟨a, cq, _, _, rfl, SqL.of (s1 _ _ ha), SqL.of upd_same, fun D hD => ?_⟩
    refine lc_sel (n := cs.length - 1) (walk_zip (K := K) (a := a) (b := cq) (xs := cs.map V.int) (ys := cutV (cs.map V.int) (some 1) none) (by rw [el, List.length_map]; omega)) (fun _ => some (.bl true)) (by omega) hD
      (fun H5 s6 => ⟨SqL.of (s6 _ _ (s1 _ _ ha)), SqL.of (s6 _ _ upd_same)⟩) ?_ ?_
    · rintro t v H5 H6 Qy Qn ht s6 ⟨T, x1, x2, rfl, nT, rfl, g1, g2⟩ ky kn
      dsimp only at g1 g2
      rw [List.getElem?_map, List.getElem?_eq_getElem (by omega)] at g1
      rw [ec, List.getElem?_map, List.getElem?_eq_getElem (by omega)] at g2
      obtain rfl := Option.some.inj g1
      obtain rfl := Option.some.inj g2
      refine ⟨T, [_, _], rfl, .inl (.inl upd_same), rfl, _, [_], rfl, _, [], rfl, rfl, ?_⟩
      refine ⟨rfl, _, rfl, _, rfl, _, _, rfl, rfl, ky _ _ (Same.updf nT) ?_⟩
      have := G.up t (by omega)
      rw [getD_lt (by omega), getD_lt (by omega)] at this
      have e1 : cs[1 + t]'(by omega) = cs[t + 1]'(by omega) := getElem_congr_idx (by omega)
      rw [e1]
      exact (congrArg (fun c => some (V.bl c)) (decide_eq_true this)).symm
    · intro H2 s2 hR
      exact all_true hR (k H2 (s1.trans s2))
theorem scAscC : FnScope ["value", "part"] ["value"] (defScope sAscC) := ⟨rfl, rfl, rfl, by decide +kernel, rfl, by decide +kernel, by decide +kernel⟩
theorem ok_ascC (F : FnP K "are_ascending_counts" sAscC f fd) (Z : Free mg) (gC : mg "is_count" = some (.ref fC)) (FC : FnP K "is_count" sCount fC dC) (GC : FnOk P w K mg base CX0 2 fC dC ["value"] spCount)
    (gA : mg "ascends" = some (.ref fA)) (FA : FnP K "ascends" sAsc fA dA) (GA : FnOk P w K mg base CX0 1 fA dA ["values"] (spAsc K)) : FnOk P w K mg base CX0 3 f fd ["value"] (spAsc K) := by
  have bC : Binds K dC ["value"] [] := FC.bindsN fun _ _ _ _ _ _ us hl => match us, hl with | [_], _ => rfl
  have bA : Binds K dA ["values"] [] := FA.bindsN fun _ _ _ _ _ _ us hl => match us, hl with | [_], _ => rfl
  refine F.ok scAscC (fun vs H Q E h => ?_) (fun cdv A outer s H vs Q E hr h => ?_)
  · obtain ⟨a, cs, b, rfl, _⟩ := h
    rfl
  · obtain ⟨a, cs, b, rfl, ha, G, k⟩ := h
    have nd := scAscC.nd
    have hl := G.len
    have hr1 : Room 1 _ := hr.mono (by decide)
    refine ⟨_, PSs.nox (pss_one (ps_ret (pe_and (pe_callB call_isi (by rfl) Z.isi (by decide +kernel) (pa_cons (pv 0) (pa_cons (pe_bltn (v := .ty "list") (by rfl) Z.tlist (by decide +kernel) rfl) pa_nil)))
      (pe_and (pe_callB (cr_all rfl) (by rfl) Z.all (by decide +kernel) (pa_cons (pe_lc (own := [("part", 1)]) (g := gName 1) (tt := tYes) (te := tCall spCount [] E0 (tCons (tVar 1) tNil)) (by rfl) nd (pi_list (pv 0))
        (blkOk_by (own := [("part", 1)]) (N := ["value", "part"]) (sc := defScope sAscC) (by decide +kernel)) (fun _ _ _ _ _ => pg_name (i := 1) nd rfl (Or.inl rfl)) (fun _ _ _ _ _ => pts_nil)
        (fun _ _ _ _ _ => pe_call GC hr rfl gC FC.kp bC .nil pass0 (pa_cons (pv 1) pa_nil))) pa_nil))
      (pe_one (pe_call GA hr1 rfl gA FA.kp bA .nil pass0 (pa_cons (pv 0) pa_nil))))))), ?_⟩
    refine ⟨_, rfl, .ref a, .ty "list", .type "list", .type "list", true, rfl, .ty _, .base (.lst ha), kit_ty (by decide +kernel), true, rfl, iteT ?_⟩
    refine ⟨_, rfl, a, rfl, ⟨_, SqL.of ha⟩, fun D hD => ?_⟩
    refine lc_sel (walk_list (K := K) (a := a) (xs := cs.map V.int)) (fun _ => some (.bl true)) (by rw [List.length_map]; omega) hD (fun H2 s2 => SqL.of (s2 _ _ ha)) ?_ ?_
    · rintro i v H2 H3 Qy Qn hi sH ⟨rfl, hv⟩ ky kn
      rw [List.length_map] at hi
      rw [List.getElem?_map, List.getElem?_eq_getElem hi] at hv
      obtain rfl : V.int cs[i] = v := Option.some.inj hv
      refine ⟨rfl, _, rfl, cs[i], rfl, ky _ _ (Same.refl _) ?_⟩
      rw [decide_eq_true (show cs[i] ≥ 0 from G.nn _ (List.getElem_mem hi))]
    · intro H2 s2 hR
      obtain ⟨bs, hB, hb⟩ := all_bits (K := K) hR
      refine ⟨D, bs, rfl, hB, ?_⟩
      rw [hb]
      exact ⟨true, rfl, iteT ⟨_, rfl, a, cs, b, rfl, s2 _ _ ha, G, fun H3 s3 => k H3 (s2.trans s3)⟩⟩
theorem scAscB : FnScope ["value", "bound", "part"] ["value", "bound"] (defScope sAscB) := ⟨rfl, rfl, rfl, by decide +kernel, rfl, by decide +kernel, by decide +kernel⟩
theorem ok_ascB (F : FnP K "are_ascending_below" sAscB f fd) (Z : Free mg) (gA : mg "are_ascending_counts" = some (.ref fA)) (FA : FnP K "are_ascending_counts" sAscC fA dA) (GA : FnOk P w K mg base CX0 3 fA dA ["value"] (spAsc K)) :
    FnOk P w K mg base CX0 4 f fd ["value", "bound"] (spAscB K) := by
  have bA : Binds K dA ["value"] [] := FA.bindsN fun _ _ _ _ _ _ us hl => match us, hl with | [_], _ => rfl
  refine F.ok scAscB (fun vs H Q E h => ?_) (fun cdv A outer s H vs Q E hr h => ?_)
  · obtain ⟨a, cs, b, rfl, _⟩ := h
    rfl
  · obtain ⟨a, cs, b, rfl, ha, G, k⟩ := h
    have nd := scAscB.nd
    have hl := G.len
    refine ⟨_, PSs.nox (pss_one (ps_ret (pe_and (pe_call GA hr rfl gA FA.kp bA .nil pass0 (pa_cons (pv 0) pa_nil))
      (pe_one (pe_callB (cr_all rfl) (by rfl) Z.all (by decide +kernel) (pa_cons (pe_lc (own := [("part", 2)]) (g := gName 2) (tt := tYes) (by rfl) nd (pi_list (pv 0))
        (blkOk_by (own := [("part", 2)]) (N := ["value", "bound", "part"]) (sc := defScope sAscB) (by decide +kernel)) (fun _ _ _ _ _ => pg_name (i := 2) nd rfl (Or.inl rfl)) (fun _ _ _ _ _ => pts_nil)
        (fun _ _ _ _ _ => pe_cmpR op_lt (pv 2) (pv 1) (nomark _))) pa_nil)))))), ?_⟩
    refine ⟨_, rfl, a, cs, b, rfl, ha, G, fun H1 s1 => ⟨true, rfl, iteT ?_⟩⟩
    refine ⟨_, rfl, a, rfl, ⟨_, SqL.of (s1 _ _ ha)⟩, fun D hD => ?_⟩
    refine lc_sel (walk_list (K := K) (a := a) (xs := cs.map V.int)) (fun _ => some (.bl true)) (by rw [List.length_map]; omega) hD (fun H2 s2 => SqL.of (s2 _ _ (s1 _ _ ha))) ?_ ?_
    · rintro i v H2 H3 Qy Qn hi sH ⟨rfl, hv⟩ ky kn
      rw [List.length_map] at hi
      rw [List.getElem?_map, List.getElem?_eq_getElem hi] at hv
      obtain rfl : V.int cs[i] = v := Option.some.inj hv
      refine ⟨rfl, _, rfl, _, rfl, _, _, rfl, rfl, ky _ _ (Same.refl _) ?_⟩
      exact (congrArg (fun c => some (V.bl c)) (decide_eq_true (G.lt _ (List.getElem_mem hi)))).symm
    · intro H2 s2 hR
      exact all_true hR (k H2 (s1.trans s2))
end
end K10
set_option Elab.async false
set_option linter.all false
set_option maxRecDepth 100000
set_option maxHeartbeats 4000000
namespace L2
open PySem PySem.Spec PyProof.Rows
/-- the set of the ints of a list -/
def SetJ (P : Program) (w : World) (a : Addr) (S : Int → Bool) : HO := .ext fun h => ∃ n, h.SetOf (intKind P w) a S n
section
variable {X : Cx}
/-- set(xs), xs a list of ints -/
def rSetJ (P : Program) (w : World) (K : PySem.W.Frag) : List V → Hp → VK → Prop := fun xs H Q => ∃ (l : Addr) (ns : List Int), xs = [.ref l] ∧ SqL K H l (ns.map V.int) ∧ ns.length < 1000 ∧
  ∀ (p : Addr) (S : Int → Bool), H p = none → (∀ k, S k = ns.any (· == k)) → Q (.ref p) (upd H p (SetJ P w p S))
theorem cr_setJ (hc : X.calm = true) : CallR X (.type "set") (rSetJ X.prog X.w X.K) := by
  intro pins s σ H xs us Q I r h
  obtain ⟨l, ns, rfl, hs, hl, q⟩ := h
  obtain ⟨its, rv, hls, _⟩ := I.list hs
  rw [Vals.ref1 r]
  have hlen : its.length = ns.length := by rw [← rv.length, List.length_map]
  have hsz : its.toArray.size = ns.length := by rw [List.size_toArray, hlen]
  refine call_set_list (I.ok.hd hc) hls.isList (ns := ns) (by simpa using Vals.ints rv) (by rw [hsz]; show ns.length + 1 < 4096; omega) fun h' tk hS hk => ?_
  have ho : ∃ o, h'.get? s.heap.objs.size = some o := by
    obtain ⟨o, _, _, _, ho, _⟩ := hS
    exact ⟨o, ho⟩
  refine ⟨.ref _, upd H s.heap.objs.size (SetJ X.prog X.w s.heap.objs.size _), I.laid (t' := tk) (a := s.heap.objs.size) (fun b u e => hk b u (Heap.lt_size e) e) (Nat.le_refl _) ⟨⟨_, hS⟩, ho, fun h1 h2 p k => ?_⟩, rfl, q _ _ (I.hok.fresh (Nat.le_refl _)) fun k => ?_⟩
  · obtain ⟨n, o, es, ep, t, e, r⟩ := p
    exact ⟨n, o, es, ep, t, k _ e, r⟩
  · rw [firstMet_any, hsz]
    have e : (List.range ns.length).map (fun i => ns.getD i 0) = ns := by
      refine List.ext_getElem? fun j => ?_
      rw [List.getElem?_map]
      by_cases hj : j < ns.length
      · rw [List.getElem?_range hj, List.getElem?_eq_getElem hj]
        show some (ns.getD j 0) = some ns[j]
        rw [K10.getD_lt hj]
      · rw [List.getElem?_eq_none (by rw [List.length_range]; omega), List.getElem?_eq_none (by omega)]
        rfl
    rw [e]
/-- k in such a set -/
def rInJ (P : Program) (w : World) : R2 := fun x y H Q => ∃ k a S, x = V.int k ∧ y = V.ref a ∧ H a = some (SetJ P w a S) ∧ Q (.bl (S k)) H
theorem op_inJ : OpR X (compareOp .In) (rInJ X.prog X.w) := by
  intro pins s σ H x y v u Q I rx ry h
  obtain ⟨k, a, S, rfl, rfl, ha, q⟩ := h
  obtain ⟨tk, rfl⟩ := rx
  cases ry
  obtain ⟨⟨n, hS⟩, _⟩ := I.hok a _ ha
  exact wpAny_inSet_of (intKind_is _ _ _ _) rfl hS ⟨.bl (S k), H, I.tok _, rfl, q⟩
end
end L2
namespace K10
open PySem PySem.Spec PyProof.Rows L2
abbrev sMix : Stmt := top 40
def mixed (n : Nat) (sg so : List Int) (cs : List Int) : List Int := (List.range n).map fun (j : Nat) => if cs.any (· == (j : Int)) then so.getD j 0 else sg.getD j 0
def spMix (K : PySem.W.Frag) : Sp := fun vs H Q _ => ∃ (x : V) (a : Addr) (p m o : Int) (n s : Nat) (cs : List Int), vs = [x, .int m, .int o, .ref a] ∧ LineAt K H x p (n : Int) (s : Int) ∧ LB p (n : Int) (s : Int) ∧ 0 ≤ m ∧ quo p s m = 0 ∧ 0 ≤ o ∧ quo p s o = 0 ∧
  H a = some (.lst (cs.map V.int)) ∧ AscB cs (n : Int) ∧ cs.length < 1000 ∧ ∀ q H', Same H H' → H q = none → H' q = some (.lst ((mixed n (signs p n (digs p s m)) (signs p n (digs p s o)) cs).map V.int)) → Q (.ref q) H'
section
variable {P : Program} {w : World} {K : PySem.W.Frag} {mg : Str → Option Value} {base : Heap} {f fN fA : Addr} {fd dN dA : FuncData}
theorem scMix : FnScope ["line", "number", "other", "cells", "signs", "late", "taken", "cell"] ["line", "number", "other", "cells"] (defScope sMix) := ⟨rfl, rfl, rfl, by decide +kernel, rfl, by decide +kernel, by decide +kernel⟩
theorem ok_mix (F : FnP K "mixture_of" sMix f fd) (Z : Free mg) (O : LOk P w K mg base) (gN : mg "need_signs_of_page" = some (.ref fN)) (FN : FnP K "need_signs_of_page" sNeedSigns fN dN) (GN : FnOk P w K mg base CX0 4 fN dN ["line", "number"] (spPageOf K))
    (gA : mg "are_ascending_below" = some (.ref fA)) (FA : FnP K "are_ascending_below" sAscB fA dA) (GA : FnOk P w K mg base CX0 4 fA dA ["value", "bound"] (spAscB K)) :
    FnOk P w K mg base CX0 5 f fd ["line", "number", "other", "cells"] (spMix K) := by
  have bN : Binds K dN ["line", "number"] [] := FN.bindsN fun _ _ _ _ _ _ us hl => match us, hl with | [_, _], _ => rfl
  have bA : Binds K dA ["value", "bound"] [] := FA.bindsN fun _ _ _ _ _ _ us hl => match us, hl with | [_, _], _ => rfl
  refine F.ok scMix (fun vs H Q E h => ?_) (fun cdv A outer s H vs Q E hr h => ?_)
  · obtain ⟨x, a, p, m, o, n, s, cs, rfl, _⟩ := h
    rfl
  · obtain ⟨x, a, p, m, o, n, z, cs, rfl, hL, B, hm, hqm, ho, hqo, ha, G, hcl, k⟩ := h
    have hc2 := B.c2
    have nd := scMix.nd
    have hr1 : Room 1 _ := hr.mono (by decide)
    refine ⟨_, PSs.nox (pss_cons (ps_set (i := 4) nd rfl (Or.inr rfl) (pe_call GN hr rfl gN FN.kp bN .nil pass0 (pa_cons (pv 0) (pa_cons (pv 1) pa_nil))))
      (pss_cons (ps_set (i := 5) nd rfl (Or.inr rfl) (pe_call GN hr rfl gN FN.kp bN .nil pass0 (pa_cons (pv 0) (pa_cons (pv 2) pa_nil))))
      (pss_cons (ps_if (pt_not (pt_val (pe_call GA hr rfl gA FA.kp bA .nil pass0 (pa_cons (pv 3) (pa_cons (pe_cells O hr1 (pv 0)) pa_nil))))) (pss_one ps_dead) pss_nil)
      (pss_cons (ps_set (i := 6) nd rfl (Or.inr rfl) (pe_callTy (cr_setJ rfl) (by rfl) Z.tset (by decide +kernel) (pa_cons (pv 3) pa_nil)))
      (pss_one (ps_ret (pe_lc (own := [("cell", 7)]) (g := gName 7) (tt := tYes) (te := tIf (tTest (tOp (rInJ P w) (tVar 7) (tVar 6))) (tOp (rIxL K) (tVar 5) (tVar 7)) (tOp (rIxL K) (tVar 4) (tVar 7))) (by rfl) nd (pi_range1 (by rfl) Z.range (pa_cons (pe_cells O hr1 (pv 0)) pa_nil))
        (blkOk_by (own := [("cell", 7)]) (N := ["line", "number", "other", "cells", "signs", "late", "taken", "cell"]) (sc := defScope sMix) (by decide +kernel)) (fun _ _ _ _ _ => pg_name (i := 7) nd rfl (Or.inl rfl)) (fun _ _ _ _ _ => pts_nil)
        (fun _ _ _ _ _ => pe_ifExp (pt_cmpR op_inJ (pv 7) (pv 6) (by rfl)) (pe_ix ix_list (pv 5) (pv 7) (fun _ _ => rfl)) (pe_ix ix_list (pv 4) (pv 7) (fun _ _ => rfl)))))))))), ?_⟩
    refine ⟨_, rfl, _, rfl, x, p, n, z, m, rfl, hL, B, hm, by rw [Int.toNat_natCast]; exact hqm, fun q1 H1 s1 hq1 e1 => ?_⟩
    rw [Int.toNat_natCast, Int.toNat_natCast] at e1
    refine ⟨_, rfl, _, rfl, x, p, n, z, o, rfl, hL.same s1, B, ho, by rw [Int.toNat_natCast]; exact hqo, fun q2 H2 s2 hq2 e2 => ?_⟩
    rw [Int.toNat_natCast, Int.toNat_natCast] at e2
    have s12 := s1.trans s2
    refine ⟨_, rfl, x, p, n, z, rfl, hL.same s12, a, cs, n, rfl, s12 _ _ ha, G, fun H3 s3 => ⟨true, rfl, iteF ?_⟩⟩
    have s13 := s12.trans s3
    refine ⟨_, rfl, a, cs, rfl, SqL.of (s13 _ _ ha), hcl, fun t S ht hS => ?_⟩
    have s4 : Same H3 (upd H3 t (SetJ P w t S)) := Same.updf ht
    have s14 := s13.trans s4
    refine ⟨x, p, n, z, rfl, hL.same s14, n, rfl, by omega, by omega, fun D hD => ?_⟩
    have en : ((n : Int)).toNat = n := Int.toNat_natCast n
    rw [en]
    have ls : ∀ v, (signs p n (digs p z v)).length = n := fun v => by unfold signs; rw [List.length_map, List.length_range]
    refine lc_sel (walk_range (lo := 0) (n := n)) (fun (j : Nat) => some (.int (if cs.any (· == (j : Int)) then (signs p n (digs p z o)).getD j 0 else (signs p n (digs p z m)).getD j 0))) (by omega) hD (fun _ _ => trivial) ?_ ?_
    · rintro i v H5 H6 Qy Qn hi sH ⟨rfl, hv⟩ ky kn
      obtain rfl : v = .int (i : Int) := hv.trans (congrArg V.int (by omega))
      refine ⟨rfl, _, rfl, _, rfl, (i : Int), t, S, rfl, rfl, sH _ _ upd_same, _, rfl, ?_⟩
      rw [hS]
      refine ite2 (fun hc => ?_) (fun hc => ?_)
      · refine ⟨_, rfl, _, rfl, q2, _, _, _, rfl, rfl, SqL.of (sH _ _ (s4 _ _ (s3 _ _ e2))), at_map (by rw [ls]; exact hi), ky _ _ (Same.refl _) ?_⟩
        rw [if_pos hc]
      · refine ⟨_, rfl, _, rfl, q1, _, _, _, rfl, rfl, SqL.of (sH _ _ (s4 _ _ (s3 _ _ (s2 _ _ e1)))), at_map (by rw [ls]; exact hi), ky _ _ (Same.refl _) ?_⟩
        rw [if_neg hc]
    · intro H5 s5 hR
      refine k D H5 (s14.trans s5) (none_back s14 hD) ?_
      rw [hR, List.filterMap_eq_map', mixed, List.map_map]
      rfl
end
end K10
set_option Elab.async false
set_option linter.all false
set_option maxRecDepth 100000
set_option maxHeartbeats 4000000
namespace K10
open PySem PySem.Spec PyProof.Rows L2
def GP : Int := 2305843009213693951
def PrimeL (p : Int) : Prop := p = GP ∨ (3 ≤ p ∧ p < 1000 ∧ ∀ d : Int, 2 ≤ d → d < p → p % d ≠ 0)
def spPrime : Sp := fun vs H Q _ => ∃ p : Int, vs = [.int p] ∧ PrimeL p ∧ ∀ H', Same H H' → Q (.bl true) H'
def spInit (K : PySem.W.Frag) : Sp := fun vs H Q _ => ∃ (a dx : Addr) (p c s : Int), vs = [.ref a, .int p, .int c, .int s] ∧ H a = some (.ins (cL K) dx []) ∧ PrimeL p ∧ p < 2 ^ 62 ∧ 1 ≤ c ∧ c ≤ p ∧ 1 ≤ s ∧ 4 * (s - 1) < c ∧
  ∀ H', (∀ b o, b ≠ a → H b = some o → H' b = some o) → LineAt K H' (.ref a) p c s → Q .non H'
section
variable {P : Program} {w : World} {K : PySem.W.Frag} {mg : Str → Option Value} {base : Heap} {f fC fP fB : Addr} {fd dC dP dB : FuncData}
theorem scPrime : FnScope ["value", "divisor"] ["value"] (defScope sPrime) := ⟨rfl, rfl, rfl, by decide +kernel, rfl, by decide +kernel, by decide +kernel⟩
theorem ok_isPrime (F : FnP K "is_prime_of_line" sPrime f fd) (Z : Free mg) (gG : ∃ t, mg "GREAT_PRIME" = some (.int GP t)) (gE : ∃ t, mg "PRIMES_END" = some (.int 1000 t)) (gC : mg "is_count" = some (.ref fC)) (FC : FnP K "is_count" sCount fC dC) (GC : FnOk P w K mg base CX0 2 fC dC ["value"] spCount) :
    FnOk P w K mg base CX0 3 f fd ["value"] spPrime := by
  have bC : Binds K dC ["value"] [] := FC.bindsN fun _ _ _ _ _ _ us hl => match us, hl with | [_], _ => rfl
  obtain ⟨tG, gG⟩ := gG
  obtain ⟨tE, gE⟩ := gE
  refine F.ok scPrime (fun vs H Q E h => ?_) (fun cdv A outer s H vs Q E hr h => ?_)
  · obtain ⟨p, rfl, _⟩ := h
    rfl
  · obtain ⟨p, rfl, hp, k⟩ := h
    have nd := scPrime.nd
    refine ⟨_, PSs.nox (pss_cons (ps_if (pt_not (pt_val (pe_call GC hr rfl gC FC.kp bC .nil pass0 (pa_cons (pv 0) pa_nil)))) (pss_one (ps_ret pe_bl)) pss_nil)
      (pss_cons (ps_if (pt_cmpR op_eq (pv 0) (pe_glob (v := .int GP) (by rfl) gG ⟨tG, rfl⟩) (nomark _)) (pss_one (ps_ret pe_bl)) pss_nil)
      (pss_one (ps_ret (pe_and (pe_chain op_le op_lt pe_int (pv 0) (pe_glob (v := .int 1000) (by rfl) gE ⟨tE, rfl⟩))
        (pe_one (pe_callB (cr_all rfl) (by rfl) Z.all (by decide +kernel) (pa_cons (pe_lc (own := [("divisor", 1)]) (g := gName 1) (tt := tYes) (by rfl) nd (pi_range2 (by rfl) Z.range (pa_cons pe_int (pa_cons (pv 0) pa_nil)))
          (blkOk_by (own := [("divisor", 1)]) (N := ["value", "divisor"]) (sc := defScope sPrime) (by decide +kernel)) (fun _ _ _ _ _ => pg_name (i := 1) nd rfl (Or.inl rfl)) (fun _ _ _ _ _ => pts_nil)
          (fun _ _ _ _ _ => pe_cmpR op_ne (pe_op op_mod (pv 0) (pv 1)) pe_int (nomark _))) pa_nil)))))))), ?_⟩
    have p0 : p ≥ 0 := by
      rcases hp with e | ⟨h1, _⟩
      · rw [e]; decide
      · omega
    refine ⟨_, rfl, p, rfl, _, rfl, ?_⟩
    rw [decide_eq_true p0]
    refine iteF ⟨_, rfl, rfl, _, rfl, ?_⟩
    refine ite2 (fun _ => k H (Same.refl H)) (fun hne => ?_)
    have hne' : p ≠ GP := fun e => hne (decide_eq_true (congrArg V.int e))
    rcases hp with e | ⟨h1, h2, h3⟩
    · exact absurd e hne'
    · refine ⟨_, rfl, _, _, rfl, rfl, _, rfl, ?_⟩
      rw [decide_eq_true h1]
      refine iteT ⟨_, _, rfl, rfl, _, rfl, ?_⟩
      rw [decide_eq_true h2]
      refine iteT ⟨_, rfl, 2, p, rfl, ⟨by omega, by omega, by omega, by omega⟩, fun D hD => ?_⟩
      refine lc_sel (walk_range (lo := 2) (n := (p - 2).toNat)) (fun _ => some (.bl true)) (by omega) hD (fun _ _ => trivial) ?_ ?_
      · rintro i v H2 H3 Qy Qn hi sH ⟨rfl, hv⟩ ky kn
        obtain rfl : v = .int (2 + (i : Int)) := hv
        refine ⟨rfl, _, rfl, _, rfl, _, _, rfl, rfl, (by omega), rfl, ky _ _ (Same.refl _) ?_⟩
        refine (congrArg (fun c => some (V.bl c)) ?_).symm
        rw [Bool.not_eq_true', decide_eq_false]
        exact fun e => h3 (2 + (i : Int)) (by omega) (by omega) (V.int.inj e)
      · intro H2 s2 hR
        exact all_true hR (k H2 s2)
theorem scInit : FnScope ["self", "prime", "cells", "size"] ["self", "prime", "cells", "size"] (defScope (sLine 0)) := ⟨rfl, rfl, rfl, by decide +kernel, rfl, by decide +kernel, by decide +kernel⟩
theorem ok_init {q : Str} (F : FnM K "__init__" q 0 fd) (L : LC K) (gP : mg "is_prime_of_line" = some (.ref fP)) (FP : FnP K "is_prime_of_line" sPrime fP dP) (GPr : FnOk P w K mg base CX0 3 fP dP ["value"] spPrime)
    (gB : mg "is_count_below" = some (.ref fB)) (FB : FnP K "is_count_below" sBelow fB dB) (GB : FnOk P w K mg base CX0 3 fB dB ["value", "bound"] spBelow)
    (gC : mg "is_count" = some (.ref fC)) (FC : FnP K "is_count" sCount fC dC) (GC : FnOk P w K mg base CX0 2 fC dC ["value"] spCount) :
    FnOk P w K mg base CX0 4 (mL K "__init__") fd ["self", "prime", "cells", "size"] (spInit K) := by
  have bC : Binds K dC ["value"] [] := FC.bindsN fun _ _ _ _ _ _ us hl => match us, hl with | [_], _ => rfl
  have bP : Binds K dP ["value"] [] := FP.bindsN fun _ _ _ _ _ _ us hl => match us, hl with | [_], _ => rfl
  have bB : Binds K dB ["value", "bound"] [] := FB.bindsN fun _ _ _ _ _ _ us hl => match us, hl with | [_, _], _ => rfl
  refine F.ok scInit (fun vs H Q E h => ?_) (fun cdv A outer s H vs Q E hr h => ?_)
  · obtain ⟨a, dx, p, c, s, rfl, _⟩ := h
    rfl
  · obtain ⟨a, dx, p, c, z, rfl, ha, hp, p2, c1, c2, z1, z2, k⟩ := h
    have hr2 : Room 2 _ := hr.mono (by decide)
    refine ⟨_, PSs.nox (pss_cons (ps_if (pt_not (pt_val (pe_call GPr hr rfl gP FP.kp bP .nil pass0 (pa_cons (pv 1) pa_nil)))) (pss_one ps_dead) pss_nil)
      (pss_cons (ps_if (PW.pt (pw_or (pt_not (pt_val (pe_call GB hr rfl gB FB.kp bB .nil pass0 (pa_cons (pv 2) (pa_cons (pe_op op_add (pv 1) pe_int) pa_nil))))) (pw_or1 (pt_cmpR op_lt (pv 2) pe_int (nomark _))))) (pss_one ps_dead) pss_nil)
      (pss_cons (ps_if (PW.pt (pw_or (pt_not (pt_val (pe_call GC hr2 rfl gC FC.kp bC .nil pass0 (pa_cons (pv 3) pa_nil)))) (pw_or (pt_cmpR op_lt (pv 3) pe_int (nomark _)) (pw_or1 (pt_cmpR op_le (pv 2) (pe_op op_mul pe_int (pe_op op_sub (pv 3) pe_int)) (nomark _)))))) (pss_one ps_dead) pss_nil)
      (pss_cons (ps_fld (pv 0) (pv 1) rfl) (pss_cons (ps_fld (pv 0) (pv 2) rfl) (pss_one (ps_fld (pv 0) (pv 3) rfl))))))), ?_⟩
    refine ⟨_, rfl, p, rfl, hp, fun H1 s1 => ⟨true, rfl, iteF ?_⟩⟩
    refine ⟨_, rfl, _, rfl, _, _, rfl, rfl, c, p + 1, rfl, _, rfl, ?_⟩
    rw [decide_eq_true (show 0 ≤ c ∧ c < p + 1 from ⟨by omega, by omega⟩)]
    refine iteF ⟨_, rfl, _, _, rfl, rfl, _, rfl, ?_⟩
    rw [decide_eq_false (show ¬ c < 1 by omega)]
    refine iteF ⟨_, rfl, z, rfl, _, rfl, ?_⟩
    rw [decide_eq_true (show z ≥ 0 by omega)]
    refine iteF ⟨_, rfl, _, _, rfl, rfl, _, rfl, ?_⟩
    rw [decide_eq_false (show ¬ z < 1 by omega)]
    refine iteF ⟨_, rfl, _, rfl, _, _, rfl, rfl, _, _, rfl, rfl, Or.inl ⟨by decide, by decide⟩, _, _, rfl, rfl, _, rfl, ?_⟩
    rw [decide_eq_false (show ¬ c ≤ 4 * (z - 1) by omega)]
    refine iteF ?_
    refine ⟨_, rfl, _, rfl, a, _, dx, _, rfl, s1 _ _ ha, L.cl, L.nP, (by decide), ?_⟩
    refine ⟨_, rfl, _, rfl, a, _, dx, _, rfl, upd_same, L.cl, L.nC, (by show 1 < 1000; decide), ?_⟩
    refine ⟨_, rfl, _, rfl, a, _, dx, _, rfl, upd_same, L.cl, L.nS, (by show 2 < 1000; decide), ?_⟩
    refine k _ (fun b o ne e => ?_) ⟨a, dx, _, rfl, upd_same, ?_, ?_, ?_, ?_, ?_, ?_⟩
    · rw [upd_ne ne, upd_ne ne, upd_ne ne]
      exact s1 _ _ e
    all_goals rfl
end
end K10
set_option Elab.async false
set_option linter.all false
set_option maxRecDepth 100000
set_option maxHeartbeats 4000000
namespace K10
open PySem PySem.Spec PyProof.Rows L2
abbrev sExact : Stmt := top 47
def Flat (x : V) : Prop := x = .non ∨ (∃ b, x = .bl b) ∨ ∃ i, x = .int i
/-- alike, lists within lists at most so deep -/
def Eqs (H : Hp) : Nat → V → V → Prop
  | 0, x, y => x = y ∧ Flat x
  | n + 1, x, y => (x = y ∧ Flat x) ∨ ∃ (a b : Addr) (xs ys : List V), x = .ref a ∧ y = .ref b ∧ H a = some (.lst xs) ∧ H b = some (.lst ys) ∧ xs.length = ys.length ∧ xs.length ≤ 1000 ∧ ∀ (i : Nat) (u v : V), xs[i]? = some u → ys[i]? = some v → Eqs H n u v
theorem Eqs.same {H H' : Hp} (k : Same H H') : ∀ {n : Nat} {x y : V}, Eqs H n x y → Eqs H' n x y
  | 0, _, _, h => h
  | n + 1, _, _, h => by
    rcases h with h | ⟨a, b, xs, ys, e1, e2, e3, e4, e5, e6, e7⟩
    · exact .inl h
    · exact .inr ⟨a, b, xs, ys, e1, e2, k _ _ e3, k _ _ e4, e5, e6, fun i u v h1 h2 => Eqs.same k (e7 i u v h1 h2)⟩
def spExact (n : Nat) : Sp := fun vs H Q _ => ∃ x y : V, vs = [x, y] ∧ Eqs H n x y ∧ ∀ H', Same H H' → Q (.bl true) H'
abbrev NE : List Str := ["_law_mine", "_law_theirs", "_law_alike", "_law_a", "_law_b", "_law_key"]
theorem scExact : FnScope NE ["_law_mine", "_law_theirs"] (defScope sExact) := ⟨rfl, rfl, rfl, by decide +kernel, rfl, by decide +kernel, by decide +kernel⟩
/-- the type's name of what is flat, and what isinstance says of it -/
theorem flat_ty {K : PySem.W.Frag} {H : Hp} {x : V} (h : Flat x) : ∃ t, TyX K H x (.type t) ∧ kitB t "list" = some false ∧ kitB t "tuple" = some false ∧ kitB t "dict" = some false ∧ ∃ i b, kitB t "int" = some i ∧ kitB t "bool" = some b := by
  rcases h with rfl | ⟨b, rfl⟩ | ⟨i, rfl⟩
  · exact ⟨"NoneType", .base .non, by decide +kernel, by decide +kernel, by decide +kernel, false, false, by decide +kernel, by decide +kernel⟩
  · exact ⟨"bool", .base (.bl b), by decide +kernel, by decide +kernel, by decide +kernel, true, true, by decide +kernel, by decide +kernel⟩
  · exact ⟨"int", .base (.int i), by decide +kernel, by decide +kernel, by decide +kernel, true, false, by decide +kernel, by decide +kernel⟩
theorem flat_scal {x : V} (h : Flat x) : scal x x = true := by
  rcases h with rfl | ⟨b, rfl⟩ | ⟨i, rfl⟩ <;> rfl
section
variable {P : Program} {w : World} {K : PySem.W.Frag} {mg : Str → Option Value} {base : Heap} {f : Addr} {fd : FuncData}
theorem ok_exact (F : FnP K "_law_exact" sExact f fd) (Z : Free mg) (gE : mg "_law_exact" = some (.ref f)) : ∀ n : Nat, FnOk P w K mg base CX0 (n + 1) f fd ["_law_mine", "_law_theirs"] (spExact n) := by
  have bE : Binds K fd ["_law_mine", "_law_theirs"] [] := F.bindsN fun _ _ _ _ _ _ us hl => match us, hl with | [_, _], _ => rfl
  have kitF : ∀ {t : String}, kitB t "list" = some false → kitB t "tuple" = some false → PySem.W.kitAny K (.type t) [.type "list", .type "tuple"] = some false := fun h1 h2 =>
    kitAny_cons (kit_ty h1) (fun _ => kitAny_cons (kit_ty h2) (fun _ => kitAny_nil) (fun z => nomatch z)) (fun z => nomatch z)
  -- what is flat
  have flatR : ∀ {x : V} {H : Hp} {Q : VK}, Flat x → (∀ H', Same H H' → Q (.bl true) H') → True := fun _ _ => trivial
  intro n
  induction n with
  | zero =>
    refine F.ok scExact (fun vs H Q E h => ?_) (fun cdv A outer s H vs Q E hr h => ?_)
    · obtain ⟨x, y, rfl, _⟩ := h
      rfl
    · obtain ⟨x, y, rfl, ⟨rfl, hx⟩, k⟩ := h
      have nd := scExact.nd
      refine ⟨_, PSs.nox (pss_cons (ps_if (pt_val (pe_callB call_isiT (by rfl) Z.isi (by decide +kernel) (pa_cons (pv 0) (pa_cons (pe_tup (pa_cons (pe_bltn (v := .ty "list") (by rfl) Z.tlist (by decide +kernel) rfl) (pa_cons (pe_bltn (v := .ty "tuple") (by rfl) Z.ttuple (by decide +kernel) rfl) pa_nil))) pa_nil)))) (pss_cons ps_dead (pss_one ps_dead)) pss_nil)
        (pss_cons (ps_if (pt_val (pe_callB call_isi (by rfl) Z.isi (by decide +kernel) (pa_cons (pv 0) (pa_cons (pe_bltn (v := .ty "dict") (by rfl) Z.tdict (by decide +kernel) rfl) pa_nil)))) (pss_cons ps_dead (pss_one ps_dead)) pss_nil)
        (pss_cons (ps_set (i := 2) nd rfl (Or.inl rfl) (pe_cmpR op_eq (pe_callB call_isi (by rfl) Z.isi (by decide +kernel) (pa_cons (pv 0) (pa_cons (pe_bltn (v := .ty "int") (by rfl) Z.int (by decide +kernel) rfl) pa_nil))) (pe_callB call_isi (by rfl) Z.isi (by decide +kernel) (pa_cons (pv 1) (pa_cons (pe_bltn (v := .ty "int") (by rfl) Z.int (by decide +kernel) rfl) pa_nil))) (nomark _)))
        (pss_one (ps_ret (pe_and (pv 2) (pe_and (pe_cmpR op_eq (pe_callB call_isi (by rfl) Z.isi (by decide +kernel) (pa_cons (pv 0) (pa_cons (pe_bltn (v := .ty "bool") (by rfl) Z.tbool (by decide +kernel) rfl) pa_nil))) (pe_callB call_isi (by rfl) Z.isi (by decide +kernel) (pa_cons (pv 1) (pa_cons (pe_bltn (v := .ty "bool") (by rfl) Z.tbool (by decide +kernel) rfl) pa_nil))) (nomark _))
          (pe_one (pe_cmpR op_eq (pv 0) (pv 1) (nomark _)))))))))), ?_⟩
      obtain ⟨t, ty, k1, k2, k3, i, b, k4, k5⟩ := flat_ty (K := K) (H := H) hx
      refine ⟨_, rfl, (by show 2 ≤ sizeLine; decide), fun T hT => ?_⟩
      have s1 : Same H (upd H T (.tup [.ty "list", .ty "tuple"])) := Same.updf hT
      obtain ⟨t', ty', k1', k2', k3', i', b', k4', k5'⟩ := flat_ty (K := K) (H := upd H T (.tup [.ty "list", .ty "tuple"])) hx
      refine ⟨x, T, [.ty "list", .ty "tuple"], .type t', [.type "list", .type "tuple"], false, rfl, upd_same, .cons (.ty _) (.cons (.ty _) .nil), ty', kitF k1' k2', false, rfl, iteF ?_⟩
      refine ⟨_, rfl, x, .ty "dict", .type t', .type "dict", false, rfl, .ty _, ty', kit_ty k3', false, rfl, iteF ?_⟩
      refine ⟨_, rfl, x, .ty "int", .type t', .type "int", i', rfl, .ty _, ty', kit_ty k4', _, rfl, x, .ty "int", .type t', .type "int", i', rfl, .ty _, ty', kit_ty k4', rfl, ?_⟩
      rw [decide_eq_true (rfl : V.bl i' = V.bl i')]
      refine ⟨_, rfl, true, rfl, iteT ?_⟩
      refine ⟨_, rfl, x, .ty "bool", .type t', .type "bool", b', rfl, .ty _, ty', kit_ty k5', _, rfl, x, .ty "bool", .type t', .type "bool", b', rfl, .ty _, ty', kit_ty k5', rfl, ?_⟩
      rw [decide_eq_true (rfl : V.bl b' = V.bl b')]
      refine ⟨true, rfl, iteT ?_⟩
      refine ⟨_, rfl, _, rfl, flat_scal hx, ?_⟩
      rw [decide_eq_true (rfl : x = x)]
      exact k _ s1
  | succ n ih =>
    refine F.ok scExact (fun vs H Q E h => ?_) (fun cdv A outer s H vs Q E hr h => ?_)
    · obtain ⟨x, y, rfl, _⟩ := h
      rfl
    · obtain ⟨x, y, rfl, hxy, k⟩ := h
      have nd := scExact.nd
      refine ⟨_, PSs.nox (pss_cons (ps_if (pt_val (pe_callB call_isiT (by rfl) Z.isi (by decide +kernel) (pa_cons (pv 0) (pa_cons (pe_tup (pa_cons (pe_bltn (v := .ty "list") (by rfl) Z.tlist (by decide +kernel) rfl) (pa_cons (pe_bltn (v := .ty "tuple") (by rfl) Z.ttuple (by decide +kernel) rfl) pa_nil))) pa_nil))))
          (pss_cons (ps_set (i := 2) nd rfl (Or.inl rfl) (pe_and (pe_cmpR op_eq (pe_callB call_isi (by rfl) Z.isi (by decide +kernel) (pa_cons (pv 1) (pa_cons (pe_bltn (v := .ty "list") (by rfl) Z.tlist (by decide +kernel) rfl) pa_nil))) (pe_callB call_isi (by rfl) Z.isi (by decide +kernel) (pa_cons (pv 0) (pa_cons (pe_bltn (v := .ty "list") (by rfl) Z.tlist (by decide +kernel) rfl) pa_nil))) (nomark _))
            (pe_one (pe_cmpR op_eq (pe_callB call_isi (by rfl) Z.isi (by decide +kernel) (pa_cons (pv 1) (pa_cons (pe_bltn (v := .ty "tuple") (by rfl) Z.ttuple (by decide +kernel) rfl) pa_nil))) (pe_callB call_isi (by rfl) Z.isi (by decide +kernel) (pa_cons (pv 0) (pa_cons (pe_bltn (v := .ty "tuple") (by rfl) Z.ttuple (by decide +kernel) rfl) pa_nil))) (nomark _)))))
          (pss_one (ps_ret (pe_and (pv 2) (pe_and (pe_cmpR op_eq (pe_callB call_len_seq (by rfl) Z.len (by decide +kernel) (pa_cons (pv 0) pa_nil)) (pe_callB call_len_seq (by rfl) Z.len (by decide +kernel) (pa_cons (pv 1) pa_nil)) (nomark _))
            (pe_one (pe_callB (cr_all rfl) (by rfl) Z.all (by decide +kernel) (pa_cons (pe_lc (own := [("_law_a", 3), ("_law_b", 4)]) (g := gTup K 2 (gCons (gName 3) (gCons (gName 4) gNil))) (tt := tYes) (te := tCall (spExact n) [] E0 (tCons (tVar 3) (tCons (tVar 4) tNil))) (by rfl) nd (pi_zip (by rfl) Z.zip (pa_cons (pv 0) (pa_cons (pv 1) pa_nil)))
              (blkOk_by (own := [("_law_a", 3), ("_law_b", 4)]) (N := NE) (sc := defScope sExact) (by decide +kernel)) (fun _ _ _ _ _ => pg_tup rfl (pgs_cons (pg_name (i := 3) nd rfl (Or.inl rfl)) (pgs_cons (pg_name (i := 4) nd rfl (Or.inl rfl)) pgs_nil))) (fun _ _ _ _ _ => pts_nil)
              (fun _ _ _ _ _ => pe_call ih hr rfl gE F.kp bE .nil pass0 (pa_cons (pv 3) (pa_cons (pv 4) pa_nil)))) pa_nil)))))))) pss_nil)
        (pss_cons (ps_if (pt_val (pe_callB call_isi (by rfl) Z.isi (by decide +kernel) (pa_cons (pv 0) (pa_cons (pe_bltn (v := .ty "dict") (by rfl) Z.tdict (by decide +kernel) rfl) pa_nil)))) (pss_cons ps_dead (pss_one ps_dead)) pss_nil)
        (pss_cons (ps_set (i := 2) nd rfl (Or.inl rfl) (pe_cmpR op_eq (pe_callB call_isi (by rfl) Z.isi (by decide +kernel) (pa_cons (pv 0) (pa_cons (pe_bltn (v := .ty "int") (by rfl) Z.int (by decide +kernel) rfl) pa_nil))) (pe_callB call_isi (by rfl) Z.isi (by decide +kernel) (pa_cons (pv 1) (pa_cons (pe_bltn (v := .ty "int") (by rfl) Z.int (by decide +kernel) rfl) pa_nil))) (nomark _)))
        (pss_one (ps_ret (pe_and (pv 2) (pe_and (pe_cmpR op_eq (pe_callB call_isi (by rfl) Z.isi (by decide +kernel) (pa_cons (pv 0) (pa_cons (pe_bltn (v := .ty "bool") (by rfl) Z.tbool (by decide +kernel) rfl) pa_nil))) (pe_callB call_isi (by rfl) Z.isi (by decide +kernel) (pa_cons (pv 1) (pa_cons (pe_bltn (v := .ty "bool") (by rfl) Z.tbool (by decide +kernel) rfl) pa_nil))) (nomark _))
          (pe_one (pe_cmpR op_eq (pv 0) (pv 1) (nomark _)))))))))), ?_⟩
      rcases hxy with ⟨rfl, hx⟩ | ⟨a, b, xs, ys, rfl, rfl, ha, hb, hl, hl2, hE⟩
      · refine ⟨_, rfl, (by show 2 ≤ sizeLine; decide), fun T hT => ?_⟩
        have s1 : Same H (upd H T (.tup [.ty "list", .ty "tuple"])) := Same.updf hT
        obtain ⟨t', ty', k1', k2', k3', i', b', k4', k5'⟩ := flat_ty (K := K) (H := upd H T (.tup [.ty "list", .ty "tuple"])) hx
        refine ⟨x, T, [.ty "list", .ty "tuple"], .type t', [.type "list", .type "tuple"], false, rfl, upd_same, .cons (.ty _) (.cons (.ty _) .nil), ty', kitF k1' k2', false, rfl, iteF ?_⟩
        refine ⟨_, rfl, x, .ty "dict", .type t', .type "dict", false, rfl, .ty _, ty', kit_ty k3', false, rfl, iteF ?_⟩
        refine ⟨_, rfl, x, .ty "int", .type t', .type "int", i', rfl, .ty _, ty', kit_ty k4', _, rfl, x, .ty "int", .type t', .type "int", i', rfl, .ty _, ty', kit_ty k4', rfl, ?_⟩
        rw [decide_eq_true (rfl : V.bl i' = V.bl i')]
        refine ⟨_, rfl, true, rfl, iteT ?_⟩
        refine ⟨_, rfl, x, .ty "bool", .type t', .type "bool", b', rfl, .ty _, ty', kit_ty k5', _, rfl, x, .ty "bool", .type t', .type "bool", b', rfl, .ty _, ty', kit_ty k5', rfl, ?_⟩
        rw [decide_eq_true (rfl : V.bl b' = V.bl b')]
        refine ⟨true, rfl, iteT ?_⟩
        refine ⟨_, rfl, _, rfl, flat_scal hx, ?_⟩
        rw [decide_eq_true (rfl : x = x)]
        exact k _ s1
      · refine ⟨_, rfl, (by show 2 ≤ sizeLine; decide), fun T hT => ?_⟩
        have s1 : Same H (upd H T (.tup [.ty "list", .ty "tuple"])) := Same.updf hT
        have ha1 := s1 _ _ ha
        have hb1 := s1 _ _ hb
        have la : kitB "list" "list" = some true := by decide +kernel
        have lt : kitB "list" "tuple" = some false := by decide +kernel
        refine ⟨.ref a, T, [.ty "list", .ty "tuple"], .type "list", [.type "list", .type "tuple"], true, rfl, upd_same, .cons (.ty _) (.cons (.ty _) .nil), .base (.lst ha1), kitAny_cons (kit_ty la) (fun z => nomatch z) (fun _ => rfl), true, rfl, iteT ?_⟩
        refine ⟨_, rfl, .ref b, .ty "list", .type "list", .type "list", true, rfl, .ty _, .base (.lst hb1), kit_ty la, _, rfl, .ref a, .ty "list", .type "list", .type "list", true, rfl, .ty _, .base (.lst ha1), kit_ty la, rfl, true, rfl, iteT ?_⟩
        refine ⟨_, rfl, .ref b, .ty "tuple", .type "list", .type "tuple", false, rfl, .ty _, .base (.lst hb1), kit_ty lt, _, rfl, .ref a, .ty "tuple", .type "list", .type "tuple", false, rfl, .ty _, .base (.lst ha1), kit_ty lt, rfl, ?_⟩
        refine ⟨_, rfl, true, rfl, iteT ?_⟩
        refine ⟨_, rfl, a, xs, rfl, Or.inl (SqL.of ha1), _, rfl, b, ys, rfl, Or.inl (SqL.of hb1), rfl, ?_⟩
        rw [decide_eq_true (show V.int (xs.length : Int) = V.int (ys.length : Int) by rw [hl])]
        refine ⟨true, rfl, iteT ?_⟩
        refine ⟨_, rfl, _, rfl, a, b, xs, ys, rfl, SqL.of ha1, SqL.of hb1, fun D hD => ?_⟩
        refine lc_sel (n := xs.length) (walk_zip (K := K) (a := a) (b := b) (xs := xs) (ys := ys) (by omega)) (fun _ => some (.bl true)) (by omega) hD (fun H2 s2 => ⟨SqL.of (s2 _ _ ha1), SqL.of (s2 _ _ hb1)⟩) ?_ ?_
        · rintro i v H2 H3 Qy Qn hi sH ⟨T2, x1, x2, rfl, nT, rfl, g1, g2⟩ ky kn
          dsimp only at g1 g2
          refine ⟨T2, [_, _], rfl, .inl (.inl upd_same), rfl, _, [_], rfl, _, [], rfl, rfl, ?_⟩
          have sT : Same H2 (upd H2 T2 (.tup [x1, x2])) := Same.updf nT
          exact ⟨rfl, _, rfl, _, rfl, x1, x2, rfl, (hE i x1 x2 g1 g2).same (s1.trans (sH.trans sT)), fun H5 s5 => ky _ _ (sT.trans s5) rfl⟩
        · intro H2 s2 hR
          obtain ⟨bs, hB, hb'⟩ := all_bits (K := K) hR
          refine ⟨D, bs, rfl, hB, ?_⟩
          rw [hb']
          exact k H2 (s1.trans s2)
end
end K10
set_option Elab.async false
set_option linter.all false
set_option maxRecDepth 100000
set_option maxHeartbeats 4000000
namespace K10
open PySem PySem.Spec PyProof.Rows L2
abbrev sLS : Stmt := top 48
def psum (ds : List Int) (x : Int) : Nat → Int
  | 0 => 0
  | i + 1 => psum ds x i + ds.getD i 0 * x ^ i
theorem made_step (p d a b : Int) : (a % p + d * (b % p)) % p = (a + d * b) % p := by
  refine emod_of_dvd ?_
  have e : a % p + d * (b % p) - (a + d * b) = (a % p - a) + d * (b % p - b) := by grind
  rw [e]
  exact Int.dvd_add (dvd_emod p a) (Int.dvd_mul_of_dvd_right (dvd_emod p b))
theorem power_step (p x : Int) (i : Nat) : ((x ^ i % p) * x) % p = x ^ (i + 1) % p := by
  refine emod_of_dvd ?_
  have e : x ^ i % p * x - x ^ (i + 1) = (x ^ i % p - x ^ i) * x := by rw [Int.pow_succ]; grind
  rw [e]
  exact Int.dvd_mul_of_dvd_left (dvd_emod p _)
theorem psum_E {ds : List Int} {s : Nat} (hl : ds.length = s) (h1 : 1 ≤ s) (h4 : s ≤ 4) (x : Int) : psum ds x s = Ek ds 0 x := by
  have z : ∀ j, s ≤ j → ds.getD j 0 = 0 := fun j hj => getD_ge (by omega)
  match s, h1, h4 with
  | 1, _, _ => simp only [psum, Ek, z 1 (by omega), z 2 (by omega), z 3 (by omega)]; grind
  | 2, _, _ => simp only [psum, Ek, z 2 (by omega), z 3 (by omega)]; grind
  | 3, _, _ => simp only [psum, Ek, z 3 (by omega)]; grind
  | 4, _, _ => simp only [psum, Ek]; grind
structure SZ (p c : Int) (s : Nat) : Prop where
  p1 : 1 < p
  p2 : p < 2 ^ 62
  c1 : 1 ≤ c
  c2 : c ≤ 1000
  s1 : 1 ≤ s
  s4 : s ≤ 4
def spLS (K : PySem.W.Frag) : Sp := fun vs H Q _ => ∃ (z : Addr) (n p c : Int) (s : Nat), vs = [.int n, .ref z] ∧ H z = some (.lst [.int p, .int c, .int (s : Int)]) ∧ SZ p c s ∧ 0 ≤ n ∧
  ∀ q H', Same H H' → H q = none → H' q = some (.lst ((rowL (digs p s n) p 0 c.toNat).map V.int)) → Q (.ref q) H'
abbrev NLS : List Str := ["_law_number", "_law_sizes", "_law_prime", "_law_cells", "_law_size", "_law_digits", "_law_turn", "_law_found", "_law_spot", "_law_power", "_law_made", "_law_digit"]
section
variable {P : Program} {w : World} {K : PySem.W.Frag} {mg : Str → Option Value} {base : Heap} {f : Addr} {fd : FuncData}
theorem scLS : FnScope NLS ["_law_number", "_law_sizes"] (defScope sLS) := ⟨rfl, rfl, rfl, by decide +kernel, rfl, by decide +kernel, by decide +kernel⟩
theorem ok_LS (F : FnP K "_law_line_signs" sLS f fd) (Z : Free mg) : FnOk P w K mg base CX0 1 f fd ["_law_number", "_law_sizes"] (spLS K) := by
  refine F.ok scLS (fun vs H Q E h => ?_) (fun cdv A outer s H vs Q E hr h => ?_)
  · obtain ⟨z, n, p, c, s, rfl, _⟩ := h
    rfl
  · obtain ⟨az, n, p, c, z, rfl, ha, SZ0, hn, k⟩ := h
    obtain ⟨p1, p2, c1, c2, z1, z4⟩ := SZ0
    have nd := scLS.nd
    refine ⟨_, PSs.nox (pss_cons (ps_asg (pv 1) (pg_lst rfl (pgs_cons (pg_name (i := 2) nd rfl (Or.inl rfl)) (pgs_cons (pg_name (i := 3) nd rfl (Or.inl rfl)) (pgs_cons (pg_name (i := 4) nd rfl (Or.inl rfl)) pgs_nil)))))
      (pss_cons (ps_set (i := 5) nd rfl (Or.inl rfl) (pe_lst pa_nil))
      (pss_cons (ps_for PassesOwn.never rfl (pi_range1 (by rfl) Z.range (pa_cons (pv 4) pa_nil)) (pg_name (i := 6) nd rfl (Or.inl rfl))
        (pss_cons (ps_expr (pe_bm PySem.F.plainAttrs_list PySem.F.slot_list_append PySem.F.type_list_append mt_append (pv 5) (pa_cons (pe_op op_mod (pe_callTy call_int1 (by rfl) Z.int (by decide +kernel) (pa_cons (pv 0) pa_nil)) (pv 2)) pa_nil)))
        (pss_one (ps_set (i := 0) nd rfl (Or.inl rfl) (pe_op op_fdivW (pe_callTy call_int1 (by rfl) Z.int (by decide +kernel) (pa_cons (pv 0) pa_nil)) (pv 2))))))
      (pss_cons (ps_set (i := 7) nd rfl (Or.inl rfl) (pe_lst pa_nil))
      (pss_cons (ps_for PassesOwn.never rfl (pi_range2 (by rfl) Z.range (pa_cons pe_int (pa_cons (pe_op op_add (pv 3) pe_int) pa_nil))) (pg_name (i := 8) nd rfl (Or.inl rfl))
        (pss_cons (ps_asg (pe_tup (pa_cons pe_int (pa_cons pe_int pa_nil))) (pg_tup rfl (pgs_cons (pg_name (i := 9) nd rfl (Or.inl rfl)) (pgs_cons (pg_name (i := 10) nd rfl (Or.inl rfl)) pgs_nil))))
        (pss_cons (ps_for PassesOwn.never rfl (pi_list (pv 5)) (pg_name (i := 11) nd rfl (Or.inl rfl))
          (pss_one (ps_par (i := 10) (j := 9) rfl nd rfl rfl (by decide) rfl rfl (pa_cons (pe_op op_mod (pe_callTy call_int1 (by rfl) Z.int (by decide +kernel) (pa_cons (pe_op op_add (pv 10) (pe_op op_mul (pv 11) (pv 9))) pa_nil)) (pv 2)) (pa_cons (pe_op op_mod (pe_callTy call_int1 (by rfl) Z.int (by decide +kernel) (pa_cons (pe_op op_mul (pv 9) (pv 8)) pa_nil)) (pv 2)) pa_nil)) rfl)))
        (pss_one (ps_expr (pe_bm PySem.F.plainAttrs_list PySem.F.slot_list_append PySem.F.type_list_append mt_append (pv 7) (pa_cons (pv 10) pa_nil)))))))
      (pss_one (ps_ret (pv 7)))))))), ?_⟩
    refine ⟨_, rfl, az, [.int p, .int c, .int (z : Int)], rfl, SqL.of ha, rfl, .int p, _, rfl, .int c, _, rfl, .int (z : Int), [], rfl, rfl, ?_⟩
    refine ⟨(by show 0 ≤ sizeLine; decide), fun d0 hd0 => ?_⟩
    have s0 : Same H (upd H d0 (.lst [])) := Same.updf hd0
    refine ⟨_, rfl, z, rfl, by omega, by omega, ?_⟩
    have ez : ((z : Int)).toNat = z := Int.toNat_natCast z
    rw [ez]
    refine for_it (walk_range (lo := 0) (n := z)) (fun i σ H2 => Same H H2 ∧ H2 d0 = some (.lst ((digs p i n).map V.int)) ∧ ∃ v6, σ = [some (.int (quo p i n)), some (.ref az), some (.int p), some (.int c), some (.int (z : Int)), some (.ref d0), v6, none, none, none, none, none]) ⟨s0, upd_same, none, rfl⟩ (fun _ _ _ _ _ => trivial) ?_ ?_
    · rintro i v σ H2 H3 hi ⟨sH, fH, v6, rfl⟩ ⟨rfl, rfl⟩
      refine ⟨_, rfl, Or.inl ⟨rfl, _, SqL.of fH⟩, _, rfl, Or.inl ⟨_, rfl, _, rfl, _, _, rfl, rfl, (by omega), d0, _, _, rfl, rfl, fH, ?_, ?_⟩⟩
      · rw [List.length_map, digs_len]
        have : (2000 : Nat) ≤ sizeLine := by decide
        omega
      refine ⟨_, rfl, Or.inl ⟨_, rfl, _, rfl, _, _, rfl, rfl, ⟨by omega, div_log (by omega) (by omega)⟩, fun b o e => ?_, ?_, _, rfl⟩⟩
      · rw [upd_ne (ne_of_none e hd0)]
        exact sH _ _ e
      · rw [upd_same, digs_succ, List.map_append]
        rfl
    · rintro σ H2 ⟨sH, fH, v6, rfl⟩
      refine ⟨(by show 0 ≤ sizeLine; decide), fun g0 hg0 => ?_⟩
      have s1 : Same H2 (upd H2 g0 (.lst [])) := Same.updf hg0
      have hg1 : H g0 = none := none_back sH hg0
      have ngd : d0 ≠ g0 := ne_of_none fH hg0
      refine ⟨_, rfl, _, _, rfl, rfl, 1, c + 1, rfl, ⟨by omega, by omega, by omega, by omega⟩, ?_⟩
      have ec : (c + 1 - 1).toNat = c.toNat := by omega
      rw [ec]
      refine for_it (walk_range (lo := 1) (n := c.toNat)) (fun i σ H3 => Same H H3 ∧ H3 d0 = some (.lst ((digs p z n).map V.int)) ∧ H3 g0 = some (.lst ((rowL (digs p z n) p 0 i).map V.int)) ∧ ∃ v8 v9 v10 v11, σ = [some (.int (quo p z n)), some (.ref az), some (.int p), some (.int c), some (.int (z : Int)), some (.ref d0), v6, some (.ref g0), v8, v9, v10, v11])
        ⟨sH.trans s1, s1 _ _ fH, upd_same, none, none, none, none, rfl⟩ (fun _ _ _ _ _ => trivial) ?_ ?_
      · rintro i v σ H3 H4 hi ⟨sH3, fH3, gH3, v8, v9, v10, v11, rfl⟩ ⟨rfl, hv⟩
        obtain ⟨x, hx⟩ : ∃ x : Int, x = 1 + (i : Int) := ⟨_, rfl⟩
        obtain rfl : v = .int x := hv.trans (congrArg V.int hx.symm)
        refine ⟨(by show 2 ≤ sizeLine; decide), fun T hT => ?_⟩
        have sT : Same H4 (upd H4 T (.tup [.int 1, .int 0])) := Same.updf hT
        refine ⟨T, [.int 1, .int 0], rfl, .inl (.inl upd_same), rfl, .int 1, [.int 0], rfl, .int 0, [], rfl, rfl, ?_⟩
        refine ⟨_, rfl, d0, rfl, ⟨_, SqL.of (sT _ _ fH3)⟩, ?_⟩
        refine for_it (walk_list (K := K) (a := d0) (xs := (digs p z n).map V.int)) (fun j σ H5 => H5 = upd H4 T (.tup [.int 1, .int 0]) ∧ ∃ v11 m pw, σ = [some (.int (quo p z n)), some (.ref az), some (.int p), some (.int c), some (.int (z : Int)), some (.ref d0), v6, some (.ref g0), some (.int x), some (.int pw), some (.int m), v11] ∧ m = psum (digs p z n) x j % p ∧ (j = 0 → pw = 1) ∧ (0 < j → pw = x ^ j % p))
          ⟨rfl, v11, 0, 1, rfl, (Int.zero_emod p).symm, fun _ => rfl, fun z => absurd z (by decide)⟩ (fun j σ H5 _ h => by rw [h.1]; exact SqL.of (sT _ _ fH3)) ?_ ?_
        · rintro j v σ H5 H6 hj ⟨rfl, v11, m, pw, rfl, hm, hpw0, hpw1⟩ ⟨rfl, hv⟩
          rw [List.length_map] at hj
          rw [List.getElem?_map, List.getElem?_eq_getElem hj] at hv
          obtain rfl : V.int (digs p z n)[j] = v := Option.some.inj hv
          have dl : 0 ≤ (digs p z n)[j] ∧ (digs p z n)[j] < p := by
            have e0 : (digs p z n)[j]? = some (quo p j n % p) := by
              have hj2 : j < z := by rw [digs_len] at hj; exact hj
              unfold digs
              rw [List.getElem?_map, List.getElem?_range hj2]
              rfl
            have e : (digs p z n)[j] = quo p j n % p := Option.some.inj ((List.getElem?_eq_getElem hj).symm.trans e0)
            rw [e]
            exact ⟨Int.emod_nonneg _ (by omega), Int.emod_lt_of_pos _ (by omega)⟩
          have hpw : pw % p = x ^ j % p := by
            by_cases h0 : j = 0
            · rw [hpw0 h0, h0, Int.pow_zero]
            · rw [hpw1 (by omega), Int.emod_emod_of_dvd _ (Int.dvd_refl p)]
          refine ⟨_, rfl, _, rfl, _, rfl, _, _, rfl, rfl, Or.inl ⟨by omega, by omega⟩, _, _, rfl, rfl, Or.inl ⟨_, rfl, _, rfl, _, _, rfl, rfl, (by omega), ?_⟩⟩
          refine ⟨_, rfl, _, rfl, _, _, rfl, rfl, Or.inr ⟨by omega, by omega⟩, Or.inl ⟨_, rfl, _, rfl, _, _, rfl, rfl, (by omega), _, _, rfl, ?_⟩⟩
          refine ⟨rfl, _, _, _, rfl, ?_, fun z => absurd z (Nat.succ_ne_zero j), fun _ => ?_⟩
          · have e1 : (m + (digs p z n)[j] * pw) % p = (psum (digs p z n) x j + (digs p z n)[j] * x ^ j) % p := by
              rw [← made_step p _ (psum (digs p z n) x j) (x ^ j), hm, ← hpw, made_step, ← made_step p _ (psum (digs p z n) x j % p) pw, Int.emod_emod_of_dvd _ (Int.dvd_refl p), made_step]
            show (m + (digs p z n)[j] * pw) % p = psum (digs p z n) x (j + 1) % p
            rw [e1]
            show _ = (psum (digs p z n) x j + (digs p z n).getD j 0 * x ^ j) % p
            rw [getD_lt hj]
          · show (pw * x) % p = x ^ (j + 1) % p
            rw [← power_step, ← hpw]
            refine emod_of_dvd ?_
            have e : pw * x - pw % p * x = -((pw % p - pw) * x) := by grind
            rw [e]
            exact Int.dvd_neg.mpr (Int.dvd_mul_of_dvd_left (dvd_emod p pw))
        · rintro σ H5 ⟨rfl, v11, m, pw, rfl, hm, _, _⟩
          rw [List.length_map, digs_len, psum_E (digs_len p z n) z1 z4] at hm
          refine ⟨_, rfl, Or.inl ⟨rfl, _, SqL.of (sT _ _ gH3)⟩, _, rfl, g0, _, _, rfl, rfl, sT _ _ gH3, ?_, ?_⟩
          · rw [List.length_map, rowL_len]
            have : (2000 : Nat) ≤ sizeLine := by decide
            omega
          refine ⟨fun b o e => ?_, ?_, ?_, _, _, _, _, rfl⟩
          · rw [upd_ne (ne_of_none e hg1)]
            exact sT _ _ (sH3 _ _ e)
          · rw [upd_ne ngd]
            exact sT _ _ fH3
          · rw [upd_same, hm, hx]
            unfold rowL
            rw [List.range_succ, List.map_append, List.map_append]
            rfl
      · rintro σ H3 ⟨sH3, fH3, gH3, v8, v9, v10, v11, rfl⟩
        exact ⟨_, rfl, k g0 H3 sH3 hg1 gH3⟩
end
end K10
set_option Elab.async false
set_option linter.all false
set_option maxRecDepth 100000
set_option maxHeartbeats 4000000
/-! What a page's number, digits and signs have to do with each other. -/
namespace K10
open PySem PySem.Spec PyProof.Rows L2
/-- the number comes back -/
theorem nBy_digs {p : Int} (hp : 1 < p) : ∀ (s : Nat) (n : Int), 0 ≤ n → nBy p (digs p s n) + quo p s n * p ^ s = n
  | 0, n, _ => by
    show (0 : Int) + n * p ^ 0 = n
    rw [Int.pow_zero]
    omega
  | s + 1, n, hn => by
    have ih := nBy_digs hp s n hn
    have h1 : ∀ (l : List Int) (d : Int), nBy p (l ++ [d]) = nBy p l + d * p ^ l.length := by
      intro l d
      induction l with
      | nil =>
        show (0 : Int) * p + d = 0 + d * p ^ 0
        rw [Int.pow_zero]
        omega
      | cons a l il =>
        show nBy p (l ++ [d]) * p + a = (nBy p l * p + a) + d * p ^ (l.length + 1)
        rw [il, Int.pow_succ]
        grind
    have h2 := Int.emod_add_mul_ediv (quo p s n) p
    rw [digs_succ, h1, digs_len]
    show nBy p (digs p s n) + quo p s n % p * p ^ s + quo p s n / p * p ^ (s + 1) = n
    rw [Int.pow_succ]
    grind
theorem quo_eq {p : Int} (hp : 0 < p) : ∀ (s : Nat) (n : Int), 0 ≤ n → n < p ^ s → quo p s n = 0
  | 0, n, h0, h1 => by
    rw [Int.pow_zero] at h1
    show n = 0
    omega
  | s + 1, n, h0, h1 => by
    have key : ∀ (s : Nat) (n : Int), quo p (s + 1) n = quo p s (n / p) := by
      intro s
      induction s with
      | zero => intro n; rfl
      | succ s ih => intro n; show quo p (s + 1) n / p = _; rw [ih n]; rfl
    rw [key]
    refine quo_eq hp s (n / p) (Int.ediv_nonneg h0 (by omega)) ?_
    rw [Int.pow_succ] at h1
    exact Int.ediv_lt_of_lt_mul hp h1
theorem digs_low {p : Int} (hp : 0 < p) (s : Nat) (n : Int) (j : Nat) : 0 ≤ (digs p s n).getD j 0 ∧ (digs p s n).getD j 0 < p := by
  by_cases hj : j < s
  · have e : (digs p s n).getD j 0 = quo p j n % p := by
      rw [List.getD_eq_getElem?_getD]
      unfold digs
      rw [List.getElem?_map, List.getElem?_range hj]
      rfl
    rw [e]
    exact ⟨Int.emod_nonneg _ (by omega), Int.emod_lt_of_pos _ hp⟩
  · rw [getD_ge (by rw [digs_len]; omega)]
    omega
/-- the primes that the law draws -/
def P8 : List Int := [3, 5, 7, 11, 13, 31, 997, 2305843009213693951]
/-- small numbers beside a prime of the law -/
theorem cop8 {p : Int} (hp : p ∈ P8) {m : Int} (h1 : 0 < m) (h2 : m < p) (h3 : m < 15) : Int.gcd p m = 1 := by
  have hm : m = 1 ∨ m = 2 ∨ m = 3 ∨ m = 4 ∨ m = 5 ∨ m = 6 ∨ m = 7 ∨ m = 8 ∨ m = 9 ∨ m = 10 ∨ m = 11 ∨ m = 12 ∨ m = 13 ∨ m = 14 := by omega
  simp only [P8, List.mem_cons, List.not_mem_nil, or_false] at hp
  rcases hp with rfl | rfl | rfl | rfl | rfl | rfl | rfl | rfl <;> rcases hm with rfl | rfl | rfl | rfl | rfl | rfl | rfl | rfl | rfl | rfl | rfl | rfl | rfl | rfl <;> first | (exfalso; omega) | decide +kernel
theorem cancel8 {p : Int} (hp : p ∈ P8) {m y : Int} (h1 : 0 < m) (h2 : m < p) (h3 : m < 15) (h : p ∣ m * y) : p ∣ y := by
  have e : Nat.gcd p.natAbs m.natAbs = 1 := cop8 hp h1 h2 h3
  have d := Int.natAbs_dvd_natAbs.mpr h
  rw [Int.natAbs_mul] at d
  exact Int.natAbs_dvd_natAbs.mp (Nat.Coprime.dvd_of_dvd_mul_left (show Nat.Coprime p.natAbs m.natAbs from e) d)
theorem cop_dvd {p : Int} (hp : p ∈ P8) {m : Int} (h1 : 0 < m) (h2 : m < p) (h3 : m < 15) (c : Int) (d1 : c ∣ m) (d2 : c ∣ p) : c ∣ 1 := by
  have e : Nat.gcd p.natAbs m.natAbs = 1 := cop8 hp h1 h2 h3
  have d := Nat.dvd_gcd (Int.natAbs_dvd_natAbs.mpr d2) (Int.natAbs_dvd_natAbs.mpr d1)
  rw [e] at d
  exact Int.natAbs_dvd_natAbs.mp d
theorem signs_row {p : Int} {n s : Nat} {ds : List Int} (hp : 1 < p) (hl : ds.length = s) (h1 : 1 ≤ s) (h4 : s ≤ 4) : signs p n ds = rowL ds p 0 n := by
  unfold signs rowL
  refine List.map_congr_left fun j _ => ?_
  rw [← wAt_E (by omega)]
  cases ds with
  | nil => simp at hl; omega
  | cons d ds =>
    show _ = ((wAt p (1 + (j : Int)) ds * (1 + (j : Int)) + d) % p) % p
    rw [Int.emod_emod_of_dvd _ (Int.dvd_refl p)]
    rfl
/-! ### unlike pages agree in fewer cells than the size -/
/-- the sum of digits at x, plainly -/
def pv4 (e0 e1 e2 e3 x : Int) : Int := e0 + e1 * x + e2 * x ^ 2 + e3 * x ^ 3
/-- roots at unlike places below 16 make the digits nought -/
theorem roots1 {p e0 : Int} {x : Int} (h : p ∣ pv4 e0 0 0 0 x) : p ∣ e0 := by
  have e : pv4 e0 0 0 0 x = e0 := by unfold pv4; grind
  rwa [e] at h
theorem roots2 {p e0 e1 : Int} (hp : p ∈ P8) {x y : Int} (hxy : x < y) (hd : y - x < p) (hd2 : y - x < 15) (h1 : p ∣ pv4 e0 e1 0 0 x) (h2 : p ∣ pv4 e0 e1 0 0 y) : p ∣ e0 ∧ p ∣ e1 := by
  have d := Int.dvd_sub h2 h1
  have e : pv4 e0 e1 0 0 y - pv4 e0 e1 0 0 x = (y - x) * e1 := by unfold pv4; grind
  rw [e] at d
  have q1 := cancel8 hp (by omega) hd hd2 d
  refine ⟨?_, q1⟩
  have e2 : e0 = pv4 e0 e1 0 0 x - e1 * x := by unfold pv4; grind
  rw [e2]
  exact Int.dvd_sub h1 (Int.dvd_mul_of_dvd_left q1)
theorem roots3 {p e0 e1 e2 : Int} (hp : p ∈ P8) {x y z : Int} (hxy : x < y) (hyz : y < z) (hd : z - x < p) (hd2 : z - x < 15) (h1 : p ∣ pv4 e0 e1 e2 0 x) (h2 : p ∣ pv4 e0 e1 e2 0 y) (h3 : p ∣ pv4 e0 e1 e2 0 z) : p ∣ e0 ∧ p ∣ e1 ∧ p ∣ e2 := by
  -- the quotient by (t - x), at y and at z
  have d2 := Int.dvd_sub h2 h1
  have d3 := Int.dvd_sub h3 h1
  have q2 : pv4 e0 e1 e2 0 y - pv4 e0 e1 e2 0 x = (y - x) * pv4 (e1 + e2 * x) e2 0 0 y := by unfold pv4; grind
  have q3 : pv4 e0 e1 e2 0 z - pv4 e0 e1 e2 0 x = (z - x) * pv4 (e1 + e2 * x) e2 0 0 z := by unfold pv4; grind
  rw [q2] at d2
  rw [q3] at d3
  obtain ⟨r1, r2⟩ := roots2 hp hyz (by omega) (by omega) (cancel8 hp (by omega) (by omega) (by omega) d2) (cancel8 hp (by omega) hd hd2 d3)
  have r3 : p ∣ e1 := by
    have e : e1 = (e1 + e2 * x) - e2 * x := by grind
    rw [e]
    exact Int.dvd_sub r1 (Int.dvd_mul_of_dvd_left r2)
  refine ⟨?_, r3, r2⟩
  have e : e0 = pv4 e0 e1 e2 0 x - (e1 * x + e2 * x ^ 2) := by unfold pv4; grind
  rw [e]
  exact Int.dvd_sub h1 (Int.dvd_add (Int.dvd_mul_of_dvd_left r3) (Int.dvd_mul_of_dvd_left r2))
theorem roots4 {p e0 e1 e2 e3 : Int} (hp : p ∈ P8) {x y z t : Int} (hxy : x < y) (hyz : y < z) (hzt : z < t) (hd : t - x < p) (hd2 : t - x < 15) (h1 : p ∣ pv4 e0 e1 e2 e3 x) (h2 : p ∣ pv4 e0 e1 e2 e3 y) (h3 : p ∣ pv4 e0 e1 e2 e3 z) (h4 : p ∣ pv4 e0 e1 e2 e3 t) : p ∣ e0 ∧ p ∣ e1 ∧ p ∣ e2 ∧ p ∣ e3 := by
  have d2 := Int.dvd_sub h2 h1
  have d3 := Int.dvd_sub h3 h1
  have d4 := Int.dvd_sub h4 h1
  have q : ∀ u, pv4 e0 e1 e2 e3 u - pv4 e0 e1 e2 e3 x = (u - x) * pv4 (e1 + e2 * x + e3 * x ^ 2) (e2 + e3 * x) e3 0 u := by intro u; unfold pv4; grind
  rw [q] at d2 d3 d4
  obtain ⟨r1, r2, r3⟩ := roots3 hp hyz hzt (by omega) (by omega) (cancel8 hp (by omega) (by omega) (by omega) d2) (cancel8 hp (by omega) (by omega) (by omega) d3) (cancel8 hp (by omega) hd hd2 d4)
  have s2 : p ∣ e2 := by
    have e : e2 = (e2 + e3 * x) - e3 * x := by grind
    rw [e]
    exact Int.dvd_sub r2 (Int.dvd_mul_of_dvd_left r3)
  have s1 : p ∣ e1 := by
    have e : e1 = (e1 + e2 * x + e3 * x ^ 2) - (e2 * x + e3 * x ^ 2) := by grind
    rw [e]
    exact Int.dvd_sub r1 (Int.dvd_add (Int.dvd_mul_of_dvd_left s2) (Int.dvd_mul_of_dvd_left r3))
  refine ⟨?_, s1, s2, r3⟩
  have e : e0 = pv4 e0 e1 e2 e3 x - (e1 * x + (e2 * x ^ 2 + e3 * x ^ 3)) := by unfold pv4; grind
  rw [e]
  exact Int.dvd_sub h1 (Int.dvd_add (Int.dvd_mul_of_dvd_left s1) (Int.dvd_add (Int.dvd_mul_of_dvd_left s2) (Int.dvd_mul_of_dvd_left r3)))
end K10
set_option Elab.async false
set_option linter.all false
set_option maxRecDepth 100000
set_option maxHeartbeats 4000000
namespace K10
open PySem PySem.Spec PyProof.Rows L2
abbrev sAgr : Stmt := top 50
abbrev sDL : Stmt := top 49
/-- as many like signs as the size has: the same digits -/
theorem few {p : Int} {s n : Nat} {ds es : List Int} (hp : p ∈ P8) (hn : n ≤ 15) (hnp : (n : Int) ≤ p) (s1 : 1 ≤ s) (s4 : s ≤ 4) (l1 : ds.length = s) (l2 : es.length = s) (b1 : ∀ j, 0 ≤ ds.getD j 0 ∧ ds.getD j 0 < p) (b2 : ∀ j, 0 ≤ es.getD j 0 ∧ es.getD j 0 < p)
    (h : s ≤ ((List.range n).filter fun (j : Nat) => decide (Ek ds 0 (1 + (j : Int)) % p = Ek es 0 (1 + (j : Int)) % p)).length) : ds = es := by
  obtain ⟨L, hL⟩ : ∃ L, L = (List.range n).filter fun (j : Nat) => decide (Ek ds 0 (1 + (j : Int)) % p = Ek es 0 (1 + (j : Int)) % p) := ⟨_, rfl⟩
  rw [← hL] at h
  have srt : L.Pairwise (· < ·) := by rw [hL]; exact List.pairwise_lt_range.filter _
  have mem : ∀ x ∈ L, x < n ∧ p ∣ pv4 (ds.getD 0 0 - es.getD 0 0) (ds.getD 1 0 - es.getD 1 0) (ds.getD 2 0 - es.getD 2 0) (ds.getD 3 0 - es.getD 3 0) (1 + (x : Int)) := fun x hx => by
    rw [hL, List.mem_filter, List.mem_range] at hx
    refine ⟨hx.1, ?_⟩
    have e := of_decide_eq_true hx.2
    have d := Int.dvd_of_emod_eq_zero (Int.emod_eq_emod_iff_emod_sub_eq_zero.mp e)
    have e2 : Ek ds 0 (1 + (x : Int)) - Ek es 0 (1 + (x : Int)) = pv4 (ds.getD 0 0 - es.getD 0 0) (ds.getD 1 0 - es.getD 1 0) (ds.getD 2 0 - es.getD 2 0) (ds.getD 3 0 - es.getD 3 0) (1 + (x : Int)) := by
      unfold Ek pv4
      grind
    rw [e2] at d
    exact d
  have lt : ∀ i k (hi : i < L.length) (hk : k < L.length), i < k → L[i] < L[k] := fun i k hi hk => List.pairwise_iff_getElem.mp srt i k hi hk
  have z1 : ∀ j, s ≤ j → ds.getD j 0 = 0 := fun j hj => getD_ge (by omega)
  have z2 : ∀ j, s ≤ j → es.getD j 0 = 0 := fun j hj => getD_ge (by omega)
  have eq_of : ∀ j, p ∣ ds.getD j 0 - es.getD j 0 → ds.getD j 0 = es.getD j 0 := fun j d => by
    obtain ⟨c, hc⟩ := d
    have h1 := b1 j
    have h2 := b2 j
    have c0 : c = 0 := by
      rcases Int.lt_trichotomy c 0 with hc0 | hc0 | hc0
      · have := Int.mul_le_mul_of_nonneg_left (show c ≤ -1 by omega) (show 0 ≤ p by omega)
        omega
      · exact hc0
      · have := Int.mul_le_mul_of_nonneg_left (show 1 ≤ c by omega) (show 0 ≤ p by omega)
        omega
    rw [c0] at hc
    omega
  have all : ∀ j, j < s → ds.getD j 0 = es.getD j 0 := by
    match s, s1, s4 with
    | 1, _, _ =>
      obtain ⟨_, m0⟩ := mem L[0] (List.getElem_mem (by omega))
      rw [z1 1 (by omega), z1 2 (by omega), z1 3 (by omega), z2 1 (by omega), z2 2 (by omega), z2 3 (by omega)] at m0
      have r := roots1 m0
      intro j hj
      obtain rfl : j = 0 := by omega
      exact eq_of 0 r
    | 2, _, _ =>
      obtain ⟨_, m0⟩ := mem L[0] (List.getElem_mem (by omega))
      obtain ⟨n1, m1⟩ := mem L[1] (List.getElem_mem (by omega))
      have l01 := lt 0 1 (by omega) (by omega) (by omega)
      rw [z1 2 (by omega), z1 3 (by omega), z2 2 (by omega), z2 3 (by omega)] at m0 m1
      obtain ⟨r0, r1⟩ := roots2 hp (by omega) (by omega) (by omega) m0 m1
      intro j hj
      obtain rfl | rfl : j = 0 ∨ j = 1 := by omega
      · exact eq_of 0 r0
      · exact eq_of 1 r1
    | 3, _, _ =>
      obtain ⟨_, m0⟩ := mem L[0] (List.getElem_mem (by omega))
      obtain ⟨_, m1⟩ := mem L[1] (List.getElem_mem (by omega))
      obtain ⟨n2, m2⟩ := mem L[2] (List.getElem_mem (by omega))
      have l01 := lt 0 1 (by omega) (by omega) (by omega)
      have l12 := lt 1 2 (by omega) (by omega) (by omega)
      rw [z1 3 (by omega), z2 3 (by omega)] at m0 m1 m2
      obtain ⟨r0, r1, r2⟩ := roots3 hp (by omega) (by omega) (by omega) (by omega) m0 m1 m2
      intro j hj
      obtain rfl | rfl | rfl : j = 0 ∨ j = 1 ∨ j = 2 := by omega
      · exact eq_of 0 r0
      · exact eq_of 1 r1
      · exact eq_of 2 r2
    | 4, _, _ =>
      obtain ⟨_, m0⟩ := mem L[0] (List.getElem_mem (by omega))
      obtain ⟨_, m1⟩ := mem L[1] (List.getElem_mem (by omega))
      obtain ⟨_, m2⟩ := mem L[2] (List.getElem_mem (by omega))
      obtain ⟨n3, m3⟩ := mem L[3] (List.getElem_mem (by omega))
      have l01 := lt 0 1 (by omega) (by omega) (by omega)
      have l12 := lt 1 2 (by omega) (by omega) (by omega)
      have l23 := lt 2 3 (by omega) (by omega) (by omega)
      obtain ⟨r0, r1, r2, r3⟩ := roots4 hp (by omega) (by omega) (by omega) (by omega) (by omega) m0 m1 m2 m3
      intro j hj
      obtain rfl | rfl | rfl | rfl : j = 0 ∨ j = 1 ∨ j = 2 ∨ j = 3 := by omega
      · exact eq_of 0 r0
      · exact eq_of 1 r1
      · exact eq_of 2 r2
      · exact eq_of 3 r3
  refine List.ext_getElem (by omega) fun j h1 h2 => ?_
  have := all j (by omega)
  rw [getD_lt h1, getD_lt h2] at this
  exact this
structure Sizes (p : Int) (n s : Nat) : Prop where
  pr : p ∈ P8
  n1 : 1 ≤ n
  n15 : n ≤ 15
  np : (n : Int) ≤ p
  s1 : 1 ≤ s
  sn : 4 * (s - 1) < n
def spDL (K : PySem.W.Frag) : Sp := fun vs H Q _ => ∃ (pu : Addr) (N : Nat), vs = [.ref pu] ∧ Purse H pu N ∧ N ≤ 2 ^ 39 ∧
  ∀ (q : Addr) (H' : Hp) (p : Int) (n s : Nat) (M : Nat), But pu H H' → H q = none → q ≠ pu → H' q = some (.lst [.int p, .int (n : Int), .int (s : Int)]) → Sizes p n s → M ≤ N + 3 → Purse H' pu M → Q (.ref q) H'
/-- the law's count of like signs -/
def spAgr (K : PySem.W.Frag) : Sp := fun vs H Q _ => ∃ (a b : Addr) (xs : List (Option Int)) (sg : List Int), vs = [.ref a, .ref b] ∧ SqL K H a (xs.map oV) ∧ SqL K H b (sg.map V.int) ∧ xs.length = sg.length ∧ sg.length ≤ 1000 ∧ ∀ H', Same H H' → Q (.int (agr sg xs : Nat)) H'
section
variable {P : Program} {w : World} {K : PySem.W.Frag} {mg : Str → Option Value} {base : Heap} {f : Addr} {fd : FuncData}
theorem scAgr : FnScope ["_law_one", "_law_other", "_law_at"] ["_law_one", "_law_other"] (defScope sAgr) := ⟨rfl, rfl, rfl, by decide +kernel, rfl, by decide +kernel, by decide +kernel⟩
theorem ok_agr (F : FnP K "_law_agree" sAgr f fd) (Z : Free mg) : FnOk P w K mg base CX0 1 f fd ["_law_one", "_law_other"] (spAgr K) := by
  refine F.ok scAgr (fun vs H Q E h => ?_) (fun cdv A outer s H vs Q E hr h => ?_)
  · obtain ⟨a, b, xs, sg, rfl, _⟩ := h
    rfl
  · obtain ⟨a, b, xs, sg, rfl, hX, hS, hl, hn, k⟩ := h
    have nd := scAgr.nd
    refine ⟨_, PSs.nox (pss_one (ps_ret (pe_callB call_len_seq (by rfl) Z.len (by decide +kernel) (pa_cons (pe_lc (own := [("_law_at", 2)]) (g := gName 2)
        (tt := tAnd (tTest (tOp (fun x y H Q => y = .non ∧ Q (.bl (!decide (x = .non))) H) (tOp (rIxL K) (tVar 0) (tVar 2)) (tC .non))) (tTest (tOp rEq (tOp (rIxL K) (tVar 0) (tVar 2)) (tOp (rIxL K) (tVar 1) (tVar 2))))) (te := tVar 2) (by rfl) nd (pi_range1 (by rfl) Z.range (pa_cons (pe_callB call_len_seq (by rfl) Z.len (by decide +kernel) (pa_cons (pv 0) pa_nil)) pa_nil))
      (blkOk_by (own := [("_law_at", 2)]) (N := ["_law_one", "_law_other", "_law_at"]) (sc := defScope sAgr) (by decide +kernel)) (fun _ _ _ _ _ => pg_name (i := 2) nd rfl (Or.inl rfl))
      (fun _ _ _ _ _ => pts_one (PW.pt (pw_and (pt_cmpR op_notN (pe_ix ix_list (pv 0) (pv 2) (fun _ _ => rfl)) pe_non (nomark _)) (pw_and1 (pt_cmpR op_eq (pe_ix ix_list (pv 0) (pv 2) (fun _ _ => rfl)) (pe_ix ix_list (pv 1) (pv 2) (fun _ _ => rfl)) (nomark _))))))
      (fun _ _ _ _ _ => pv 2)) pa_nil)))), ?_⟩
    have e1 : ((xs.map oV).length : Int).toNat = sg.length := by rw [List.length_map]; omega
    refine ⟨_, rfl, a, _, rfl, Or.inl hX, _, rfl, by omega, by rw [List.length_map]; omega, fun D hD => ?_⟩
    rw [e1]
    refine lc_sel (walk_range (lo := 0) (n := sg.length)) (fun (j : Nat) => if xs.getD j none = some (sg.getD j 0) then some (.int (j : Int)) else none) (by omega) hD (fun _ _ => trivial) ?_ ?_
    · rintro i v H2 H3 Qy Qn hi sH ⟨rfl, hv⟩ ky kn
      obtain rfl : v = .int (i : Int) := hv.trans (congrArg V.int (by omega))
      refine ⟨rfl, _, rfl, _, rfl, a, _, _, _, rfl, rfl, sH.seq hX, oV_at (by omega), rfl, _, rfl, ?_⟩
      cases e : xs.getD i none with
      | none => exact iteF (iteF (kn _ (Same.refl _) (by rw [e, if_neg (fun z => by cases z)])))
      | some m =>
        refine iteT ⟨_, rfl, _, rfl, a, _, _, _, rfl, rfl, sH.seq hX, oV_at (by omega), _, rfl, _, rfl, b, _, _, _, rfl, rfl, sH.seq hS, at_map hi, ?_⟩
        rw [e]
        refine ⟨rfl, _, rfl, ?_⟩
        by_cases hm : m = sg.getD i 0
        · rw [decide_eq_true (show oV (some m) = V.int (sg.getD i 0) from congrArg V.int hm)]
          exact iteT ⟨_, rfl, ky _ _ (Same.refl _) (by rw [e, if_pos (by rw [hm])])⟩
        · rw [decide_eq_false (show ¬ oV (some m) = V.int (sg.getD i 0) from fun z => hm (V.int.inj z))]
          exact iteF (kn _ (Same.refl _) (by rw [e, if_neg (fun z => hm (Option.some.inj z))]))
    · intro H2 s2 hR
      refine ⟨D, _, rfl, Or.inl (SqL.of hR), ?_⟩
      rw [agr_sel]
      exact k H2 s2
end
end K10
set_option Elab.async false
set_option linter.all false
set_option maxRecDepth 100000
set_option maxHeartbeats 4000000
namespace K10
open PySem PySem.Spec PyProof.Rows L2
section
variable {P : Program} {w : World} {K : PySem.W.Frag} {mg : Str → Option Value} {base : Heap} {f fO fD : Addr} {fd dO dD : FuncData}
theorem scDL : FnScope ["_law_purse_here", "_law_prime", "_law_cells"] ["_law_purse_here"] (defScope sDL) := ⟨rfl, rfl, rfl, by decide +kernel, rfl, by decide +kernel, by decide +kernel⟩
theorem ok_DL (F : FnP K "_law_drawn_line" sDL f fd) (Z : Free mg) (gO : mg "_law_one_of" = some (.ref fO)) (FO : FnP K "_law_one_of" sOne fO dO) (GO : FnOk P w K mg base CX0 3 fO dO ["_law_purse_here", "_law_some"] (spOne K))
    (gD : mg "_law_draw" = some (.ref fD)) (FD : FnP K "_law_draw" sDraw fD dD) (GD : FnOk P w K mg base CX0 2 fD dD ["_law_purse_here", "_law_many"] spDraw) : FnOk P w K mg base CX0 4 f fd ["_law_purse_here"] (spDL K) := by
  have bO : Binds K dO ["_law_purse_here", "_law_some"] [] := FO.bindsN fun _ _ _ _ _ _ us hl => match us, hl with | [_, _], _ => rfl
  have bD : Binds K dD ["_law_purse_here", "_law_many"] [] := FD.bindsN fun _ _ _ _ _ _ us hl => match us, hl with | [_, _], _ => rfl
  refine F.ok scDL (fun vs H Q E h => ?_) (fun cdv A outer s H vs Q E hr h => ?_)
  · obtain ⟨pu, N, rfl, _⟩ := h
    rfl
  · obtain ⟨pu, N, rfl, hP, hN, k⟩ := h
    have nd := scDL.nd
    have hr2 : Room 2 _ := hr.mono (by decide)
    refine ⟨_, PSs.nox (pss_cons (ps_set (i := 1) nd rfl (Or.inl rfl) (pe_call GO hr rfl gO FO.kp bO .nil pass0 (pa_cons (pv 0) (pa_cons (pe_lst (pa_cons pe_int (pa_cons pe_int (pa_cons pe_int (pa_cons pe_int (pa_cons pe_int (pa_cons pe_int (pa_cons pe_int (pa_cons pe_int pa_nil))))))))) pa_nil))))
      (pss_cons (ps_set (i := 2) nd rfl (Or.inl rfl) (pe_op op_add pe_int (pe_call GD hr2 rfl gD FD.kp bD .nil pass0 (pa_cons (pv 0) (pa_cons (pe_callB (call_min2 rfl) (by rfl) Z.min (by decide +kernel) (pa_cons (pv 1) (pa_cons pe_int pa_nil))) pa_nil)))))
      (pss_one (ps_ret (pe_lst (pa_cons (pv 1) (pa_cons (pv 2) (pa_cons (pe_op op_add pe_int (pe_call GD hr2 rfl gD FD.kp bD .nil pass0 (pa_cons (pv 0) (pa_cons (pe_op op_add (pe_op op_fdiv (pe_callTy call_int1 (by rfl) Z.int (by decide +kernel) (pa_cons (pe_op op_sub (pv 2) pe_int) pa_nil)) pe_int) pe_int) pa_nil)))) pa_nil)))))))), ?_⟩
    refine ⟨_, rfl, (by show 8 ≤ sizeLine; decide), fun l0 hl0 => ?_⟩
    have s0 : Same H (upd H l0 (.lst (P8.map V.int))) := Same.updf hl0
    have nl : l0 ≠ pu := fun e => by
      obtain ⟨A0, B, c, i, e2, _⟩ := hP
      rw [e, e2] at hl0
      cases hl0
    refine ⟨pu, l0, P8.map V.int, N, rfl, nl, SqL.of upd_same, (by decide), (by decide), hP.same s0, by omega, fun x H1 hx b1 P1 => ?_⟩
    rw [List.mem_map] at hx
    obtain ⟨p, hp, rfl⟩ := hx
    have hp3 : 3 ≤ p := by
      simp only [P8, List.mem_cons, List.not_mem_nil, or_false] at hp
      omega
    refine ⟨_, rfl, _, rfl, _, _, rfl, ?_⟩
    obtain ⟨m, hm⟩ : ∃ m : Int, m = if (15 : Int) < p then 15 else p := ⟨_, rfl⟩
    have hm1 : 1 ≤ m ∧ m ≤ 15 ∧ m ≤ p := by
      rw [hm]
      split <;> omega
    have mx := mixes_one (m := m) (by omega) (by omega)
    rw [← hm]
    refine ⟨pu, m, N + 1, rfl, by omega, log_small (by omega) (by omega), P1, by omega, by omega, fun r H2 r0 r1 b2 P2 => ?_⟩
    rw [mx] at P2
    refine ⟨_, _, rfl, rfl, ?_⟩
    obtain ⟨n, hn⟩ : ∃ n : Nat, (n : Int) = 1 + r := ⟨(1 + r).toNat, by omega⟩
    show gName 2 (V.int (1 + r)) _ _ _
    rw [← hn]
    refine ⟨_, rfl, _, rfl, _, rfl, _, rfl, _, _, rfl, rfl, Or.inl ⟨_, rfl, _, _, rfl, rfl, ⟨by decide, by decide⟩, _, _, rfl, rfl, ?_⟩⟩
    have d0 : 0 ≤ ((n : Int) - 1) / 4 := Int.ediv_nonneg (by omega) (by decide)
    have d1 : ((n : Int) - 1) / 4 ≤ 3 := by omega
    have mx2 := mixes_one (m := ((n : Int) - 1) / 4 + 1) (by omega) (by omega)
    refine ⟨pu, ((n : Int) - 1) / 4 + 1, N + 2, rfl, by omega, log_small (by omega) (by omega), P2, by omega, by omega, fun t H3 t0 t1 b3 P3 => ?_⟩
    rw [mx2] at P3
    refine ⟨_, _, rfl, rfl, (by show 3 ≤ sizeLine; decide), fun q hq => ?_⟩
    obtain ⟨sz, hs⟩ : ∃ sz : Nat, (sz : Int) = 1 + t := ⟨(1 + t).toNat, by omega⟩
    have bAll : But pu H H3 := ((But.of s0).trans b1).trans (b2.trans b3)
    have nq : q ≠ pu := fun e => by
      obtain ⟨A0, B, c, i, e2, _⟩ := P3
      rw [e, e2] at hq
      cases hq
    have hq0 : H q = none := by
      cases e : H q with
      | none => rfl
      | some o =>
        have := bAll _ _ nq e
        rw [hq] at this
        cases this
    exact k q _ p n sz _ (bAll.trans (But.of (Same.updf hq))) hq0 nq (upd_same.trans (congrArg (fun z => some (HO.lst [V.int p, V.int (n : Int), V.int z])) hs.symm)) ⟨hp, by omega, by omega, by omega, by omega, by omega⟩ (Nat.le_refl _) (P3.same (Same.updf hq))
end
end K10
set_option Elab.async false
set_option linter.all false
set_option maxRecDepth 100000
set_option maxHeartbeats 8000000
/-! A page is right. -/
namespace K10
open PySem PySem.Spec PyProof.Rows L2
abbrev sPR : Stmt := top 51
theorem mixes_le {m : Int} (h0 : 1 ≤ m) (h : m < 2 ^ 62) : mixes m ≤ 3 := by
  have e : Builtin.Int.intBits m ≤ 62 := PyProof.Rows.intBits_le (by omega)
  unfold mixes
  omega
theorem log_62 {m : Int} (h0 : 1 ≤ m) (h : m < 2 ^ 62) : m.natAbs.log2 < 9000 := div_log (by omega) (by omega)
theorem P8_lt {p : Int} (h : p ∈ P8) : 3 ≤ p ∧ p < 2 ^ 62 := by
  simp only [P8, List.mem_cons, List.not_mem_nil, or_false] at h
  omega
theorem eqs_ints {H : Hp} {a b : Addr} {l : List V} (ha : H a = some (.lst l)) (hb : H b = some (.lst l)) (hl : l.length ≤ 1000) (hf : ∀ v ∈ l, Flat v) (n : Nat) : Eqs H (n + 1) (.ref a) (.ref b) := by
  refine .inr ⟨a, b, l, l, rfl, rfl, ha, hb, rfl, hl, fun i u v h1 h2 => ?_⟩
  have e : u = v := Option.some.inj (h1.symm.trans h2)
  rw [← e]
  have f := hf u (List.mem_of_getElem? h1)
  cases n with
  | zero => exact ⟨rfl, f⟩
  | succ n => exact .inl ⟨rfl, f⟩
theorem flat_ints (l : List Int) : ∀ v ∈ l.map V.int, Flat v := fun v hv => by
  rw [List.mem_map] at hv
  obtain ⟨i, _, rfl⟩ := hv
  exact .inr (.inr ⟨i, rfl⟩)
theorem flat_oV (l : List (Option Int)) : ∀ v ∈ l.map oV, Flat v := fun v hv => by
  rw [List.mem_map] at hv
  obtain ⟨i, _, rfl⟩ := hv
  cases i with
  | none => exact .inl rfl
  | some i => exact .inr (.inr ⟨i, rfl⟩)
/-- like signs of two rows -/
theorem agr_rows (ds es : List Int) (p : Int) (n : Nat) : agr (rowL es p 0 n) ((rowL ds p 0 n).map some) = ((List.range n).filter fun (j : Nat) => decide (Ek ds 0 (1 + (j : Int)) % p = Ek es 0 (1 + (j : Int)) % p)).length := by
  unfold agr
  rw [rowL_len]
  congr 1
  refine List.filter_congr fun j hj => ?_
  have hj' : j < n := List.mem_range.mp hj
  have e1 : ((rowL ds p 0 n).map some).getD j none = some (Ek ds 0 (1 + (j : Int)) % p) := by
    rw [List.getD_eq_getElem?_getD]
    unfold rowL
    rw [List.getElem?_map, List.getElem?_map, List.getElem?_range hj']
    rfl
  have e2 : (rowL es p 0 n).getD j 0 = Ek es 0 (1 + (j : Int)) % p := by
    rw [List.getD_eq_getElem?_getD]
    unfold rowL
    rw [List.getElem?_map, List.getElem?_range hj']
    rfl
  rw [e1, e2]
  simp
theorem mixed_nil (n : Nat) (ds es : List Int) (p : Int) : mixed n (rowL ds p 0 n) (rowL es p 0 n) [] = rowL ds p 0 n := by
  unfold mixed
  refine List.ext_getElem? fun j => ?_
  rw [List.getElem?_map]
  by_cases hj : j < n
  · rw [List.getElem?_range hj]
    show some (if ([] : List Int).any (· == (j : Int)) = true then _ else (rowL ds p 0 n).getD j 0) = _
    rw [if_neg (by simp), getD_lt (by rw [rowL_len]; exact hj), List.getElem?_eq_getElem]
  · rw [List.getElem?_eq_none (by rw [List.length_range]; omega), List.getElem?_eq_none (by rw [rowL_len]; omega)]
    rfl
theorem inV_any (cs : List Int) (j : Int) : inV (.int j) (cs.map V.int) = cs.any (· == j) := by
  unfold inV
  rw [List.any_map]
  congr 1
theorem Sizes.dg {p : Int} {n s : Nat} (S : Sizes p n s) (m : Int) : DG p s (digs p s m) := by
  have hp := P8_lt S.pr
  have := S.sn
  have := S.n15
  have hs := S.s1
  refine ⟨by omega, hp.2, S.s1, by omega, digs_len _ _ _, digs_low (by omega) s m, fun i h1 h2 c d1 d2 => cop_dvd S.pr (m := (i : Int)) (by omega) ?_ (by omega) c d1 d2⟩
  have := S.np
  omega
theorem Sizes.lb {p : Int} {n s : Nat} (S : Sizes p n s) : LB p (n : Int) (s : Int) := by
  have hp := P8_lt S.pr
  have := S.sn
  have := S.n15
  have := S.s1
  have := S.n1
  exact ⟨by omega, by omega, by omega, by omega, by omega, by omega⟩
theorem Sizes.sz {p : Int} {n s : Nat} (S : Sizes p n s) : SZ p (n : Int) s := by
  have hp := P8_lt S.pr
  have := S.sn
  have := S.n15
  have := S.n1
  exact ⟨by omega, hp.2, by omega, by omega, S.s1, by omega⟩
theorem Sizes.row {p : Int} {n s : Nat} (S : Sizes p n s) (m : Int) : signs p n (digs p s m) = rowL (digs p s m) p 0 n := by
  have hp := P8_lt S.pr
  have := S.sn
  have := S.n15
  exact signs_row (by omega) (digs_len _ _ _) S.s1 (by omega)
/-- unlike numbers -/
theorem Sizes.few {p : Int} {n s : Nat} (S : Sizes p n s) {m o : Int} (hm : 0 ≤ m) (hm2 : m < p ^ s) (ho : 0 ≤ o) (ho2 : o < p ^ s) (h : o ≠ m) : ¬ ((agr (rowL (digs p s o) p 0 n) ((rowL (digs p s m) p 0 n).map some) : Nat) : Int) ≥ (s : Int) := fun hge => by
  have hp := P8_lt S.pr
  have h1 := S.sn
  have h2 := S.n15
  rw [agr_rows] at hge
  have e := K10.few S.pr S.n15 S.np S.s1 (by omega) (digs_len p s m) (digs_len p s o) (digs_low (by omega) s m) (digs_low (by omega) s o) (by omega)
  have e1 := nBy_digs (p := p) (by omega) s m hm
  have e2 := nBy_digs (p := p) (by omega) s o ho
  rw [quo_eq (by omega) s m hm hm2, Int.zero_mul] at e1
  rw [quo_eq (by omega) s o ho ho2, Int.zero_mul, ← e] at e2
  omega
def spPR (K : PySem.W.Frag) : Sp := fun vs H Q _ => ∃ (pu z : Addr) (x : V) (p m : Int) (n s N : Nat), vs = [.ref pu, x, .ref z, .int m] ∧ Purse H pu N ∧ N ≤ 2 ^ 38 ∧ LineAt K H x p (n : Int) (s : Int) ∧ H z = some (.lst [.int p, .int (n : Int), .int (s : Int)]) ∧ Sizes p n s ∧ 0 ≤ m ∧ m < p ^ s ∧
  ∀ (H' : Hp) (M : Nat), But pu H H' → Purse H' pu M → M ≤ N + 100 → Q (.bl true) H'
abbrev NPR : List Str := ["_law_purse_here", "_law_line", "_law_sizes", "_law_number", "_law_due", "_law_told", "_law_other", "_law_theirs", "_law_value", "_law_kept", "_law_cells", "_law_late", "_law_mine", "_law_at"]
theorem scPR : FnScope NPR ["_law_purse_here", "_law_line", "_law_sizes", "_law_number"] (defScope sPR) := ⟨rfl, rfl, rfl, by decide +kernel, rfl, by decide +kernel, by decide +kernel⟩
end K10
set_option Elab.async false
set_option linter.all false
set_option maxRecDepth 100000
set_option maxHeartbeats 8000000
namespace K10
open PySem PySem.Spec PyProof.Rows L2
theorem via_nx {f b c : L2.St → Hp → Prop} {r : VK} {σ : L2.St} {H : Hp} (h : f σ H) : (Ends.mk f r b c).nx σ H := h
theorem via_seq {t u : TS} {D : Ends} {σ : L2.St} {H : Hp} (h : t { D with nx := u D } σ H) : tSeq t u D σ H := h
theorem via_asg {te : TE} {g : TG} {D : Ends} {σ : L2.St} {H : Hp} (h : te σ H fun x H1 => g x σ H1 D.nx) : tAsg te g D σ H := h
theorem fresh_ne {X : Hp} {pu b : Addr} {M : Nat} (h : Purse X pu M) (hb : X b = none) : b ≠ pu := fun e => by
  obtain ⟨A0, B, c, i, e2, _⟩ := h
  rw [e, e2] at hb
  cases hb
theorem But.none {pu b : Addr} {X Y : Hp} (k : But pu X Y) (ne : b ≠ pu) (h : Y b = none) : X b = none := by
  cases e : X b with
  | none => rfl
  | some o =>
    have := k _ _ ne e
    rw [h] at this
    cases this
/-- the other number: a digit or two -/
theorem other_num {K : PySem.W.Frag} {σ : L2.St} {H : Hp} {Q : VK} {pu z : Addr} {p r : Int} {n s M : Nat} (S : Sizes p n s) (e0 : σ[0]? = some (some (.ref pu))) (e2 : σ[2]? = some (some (.ref z))) (e6 : σ[6]? = some (some (.int r))) (hz : H z = some (.lst [.int p, .int (n : Int), .int (s : Int)])) (nz : z ≠ pu) (hP : Purse H pu M) (hM : M ≤ 2 ^ 39)
    (r0 : 0 ≤ r) (r1 : r < p) (k : ∀ (o : Int) (H' : Hp) (M' : Nat), 0 ≤ o → o < p ^ s → But pu H H' → Purse H' pu M' → M' ≤ M + 3 → Q (.int o) H') :
    tIf (tTest (tOp (rI0 fun i j => .bl (decide (i > j))) (tOp (rIxL K) (tVar 2) (tC (.int 2))) (tC (.int 1)))) (tOp (rI0 fun i j => .int (i + j)) (tVar 6) (tOp (rI CMul fun i j => .int (i * j)) (tOp (rIxL K) (tVar 2) (tC (.int 0))) (tCall spDraw [] E0 (tCons (tVar 0) (tCons (tOp (rIxL K) (tVar 2) (tC (.int 0))) tNil))))) (tVar 6) σ H Q := by
  have hp := P8_lt S.pr
  have hs1 := S.s1
  refine ⟨_, e2, z, _, 2, .int (s : Int), rfl, rfl, SqL.of hz, rfl, _, _, rfl, rfl, _, rfl, ?_⟩
  refine ite2 (fun h => ?_) (fun h => ?_)
  · have h1 : (s : Int) > 1 := of_decide_eq_true h
    refine ⟨_, e6, _, e2, z, _, 0, .int p, rfl, rfl, SqL.of hz, rfl, _, e0, _, e2, z, _, 0, .int p, rfl, rfl, SqL.of hz, rfl, ?_⟩
    refine ⟨pu, p, M, rfl, by omega, log_62 (by omega) hp.2, hP, ?_, ?_, fun t H' t0 t1 b P1 => ?_⟩
    · have := mixes_le (m := p) (by omega) hp.2
      omega
    · have := mixes_le (m := p) (by omega) hp.2
      omega
    refine ⟨_, _, rfl, rfl, Or.inl ⟨by omega, by omega⟩, _, _, rfl, rfl, ?_⟩
    refine k _ H' _ ?_ ?_ b P1 ?_
    · have := Int.mul_nonneg (show 0 ≤ p by omega) t0
      omega
    · have e1 : p * t ≤ p * (p - 1) := Int.mul_le_mul_of_nonneg_left (by omega) (by omega)
      have e2 : p * (p - 1) = p * p - p := by grind
      have e3 : p ^ 2 ≤ p ^ s := by
        obtain ⟨u, hu⟩ : ∃ u, s = 2 + u := ⟨s - 2, by omega⟩
        rw [hu, Int.pow_add]
        have h3 : 0 < p ^ u := Int.pow_pos (by omega)
        have h4 : 0 < p ^ 2 := Int.pow_pos (by omega)
        have := Int.mul_le_mul_of_nonneg_left (show 1 ≤ p ^ u by omega) (Int.le_of_lt h4)
        rw [Int.mul_one] at this
        exact this
      have e4 : p ^ 2 = p * p := by grind
      omega
    · have := mixes_le (m := p) (by omega) hp.2
      omega
  · have h1 : ¬ (s : Int) > 1 := fun z => h (decide_eq_true z)
    have h2 : s = 1 := by omega
    refine ⟨_, e6, k r H M r0 ?_ (But.refl _ _) hP (by omega)⟩
    rw [h2, Int.pow_one]
    exact r1
theorem Purse.same' {H H' : Hp} {p : Addr} {N : Nat} (k : H' p = H p) (h : Purse H p N) : Purse H' p N := by
  obtain ⟨A, B, c, i, e, r⟩ := h
  exact ⟨A, B, c, i, k.trans e, r⟩
theorem LineAt.but {K : PySem.W.Frag} {H H' : Hp} {x : V} {p c s : Int} {pu : Addr} {N : Nat} (hP : Purse H pu N) (k : But pu H H') (h : LineAt K H x p c s) : LineAt K H' x p c s := by
  obtain ⟨a, dx, fs, e1, e2, r⟩ := h
  refine ⟨a, dx, fs, e1, k _ _ (fun e => ?_) e2, r⟩
  obtain ⟨A0, B, c, i, e3, _⟩ := hP
  rw [e, e3] at e2
  cases e2
theorem eqs_three {H : Hp} {a b c d : Addr} {i j : Int} {l : List V} (ha : H a = some (.lst [.int i, .int j, .ref c])) (hb : H b = some (.lst [.int i, .int j, .ref d])) (hc : H c = some (.lst l)) (hd : H d = some (.lst l)) (hl : l.length ≤ 1000) (hf : ∀ v ∈ l, Flat v) : Eqs H 2 (.ref a) (.ref b) := by
  refine .inr ⟨a, b, _, _, rfl, rfl, ha, hb, rfl, Nat.le_of_ble_eq_true rfl, fun t u v h1 h2 => ?_⟩
  match t with
  | 0 =>
    obtain rfl := Option.some.inj h1
    obtain rfl := Option.some.inj h2
    exact .inl ⟨rfl, .inr (.inr ⟨_, rfl⟩)⟩
  | 1 =>
    obtain rfl := Option.some.inj h1
    obtain rfl := Option.some.inj h2
    exact .inl ⟨rfl, .inr (.inr ⟨_, rfl⟩)⟩
  | 2 =>
    obtain rfl := Option.some.inj h1
    obtain rfl := Option.some.inj h2
    exact eqs_ints hc hd hl hf 0
  | t + 3 => simp at h1
/-- two unlike pages are alike in few cells -/
theorem unlike_ok {K : PySem.W.Frag} {σ : L2.St} {H : Hp} {D : Ends} {t : TS} {z a b : Addr} {p m o : Int} {n s : Nat} (S : Sizes p n s) (e2 : σ[2]? = some (some (.ref z))) (e3 : σ[3]? = some (some (.int m))) (e4 : σ[4]? = some (some (.ref a))) (e6 : σ[6]? = some (some (.int o))) (e7 : σ[7]? = some (some (.ref b)))
    (hz : H z = some (.lst [.int p, .int (n : Int), .int (s : Int)])) (ha : H a = some (.lst ((rowL (digs p s m) p 0 n).map V.int))) (hb : H b = some (.lst ((rowL (digs p s o) p 0 n).map V.int))) (m0 : 0 ≤ m) (m1 : m < p ^ s) (o0 : 0 ≤ o) (o1 : o < p ^ s)
    (k : ∀ H', Same H H' → D.nx σ H') :
    tIfS (tAnd (tTest (tOp rNe (tVar 6) (tVar 3))) (tTest (tOp (rI0 fun i j => .bl (decide (i ≥ j))) (tCall (spAgr K) [] (fun _ _ _ => False) (tCons (tVar 4) (tCons (tVar 7) tNil))) (tOp (rIxL K) (tVar 2) (tC (.int 2)))))) t tNext D σ H := by
  have hn15 := S.n15
  refine ⟨_, e6, _, e3, rfl, _, rfl, ?_⟩
  by_cases h : o = m
  · rw [decide_eq_true (congrArg V.int h)]
    exact iteF (iteF (k H (Same.refl H)))
  · rw [decide_eq_false (fun e => h (V.int.inj e))]
    have due' : ((rowL (digs p s m) p 0 n).map V.int) = (((rowL (digs p s m) p 0 n).map some).map oV) := by
      rw [List.map_map]
      rfl
    rw [due'] at ha
    refine iteT ⟨_, e4, _, e7, a, b, _, _, rfl, SqL.of ha, SqL.of hb, by rw [List.length_map, rowL_len, rowL_len], by rw [rowL_len]; omega, fun H' s1 => ?_⟩
    refine ⟨_, e2, z, _, 2, .int (s : Int), rfl, rfl, SqL.of (s1 _ _ hz), rfl, _, _, rfl, rfl, _, rfl, ?_⟩
    rw [decide_eq_false (S.few m0 m1 o0 o1 h)]
    exact iteF (k H' s1)
/-- the drawn picture -/
theorem val_lc {K : PySem.W.Frag} {σ : L2.St} {H : Hp} {Q : VK} {pu z a b : Addr} {p m o : Int} {n s M : Nat} (S : Sizes p n s) (e0 : σ[0]? = some (some (.ref pu))) (e2 : σ[2]? = some (some (.ref z))) (e4 : σ[4]? = some (some (.ref a))) (e7 : σ[7]? = some (some (.ref b))) (hl : σ.length = 14)
    (hz : H z = some (.lst [.int p, .int (n : Int), .int (s : Int)])) (nz : z ≠ pu) (na : a ≠ pu) (nb : b ≠ pu) (ha : H a = some (.lst ((rowL (digs p s m) p 0 n).map V.int))) (hb : H b = some (.lst ((rowL (digs p s o) p 0 n).map V.int))) (hP : Purse H pu M) (hM : M ≤ 2 ^ 39)
    (k : ∀ (q : Addr) (xs : List (Option Int)) (H' : Hp) (M' : Nat), q ≠ pu → H q = none → But pu H H' → Purse H' pu M' → M' ≤ M + 60 → H' q = some (.lst (xs.map oV)) → xs.length = n → (∀ i, some i ∈ xs → 0 ≤ i ∧ i < p) → Q (.ref q) H') :
    tLc (iRng1 (tCons (tOp (rIxL K) (tVar 2) (tC (.int 1))) tNil)) (gName 13) tYes (tCall (spOne K) [] E0 (tCons (tVar 0) (tCons (tLst (tCons (tOp (rIxL K) (tVar 4) (tVar 13)) (tCons (tOp (rIxL K) (tVar 7) (tVar 13)) (tCons (tC .non) (tCons (tCall spDraw [] E0 (tCons (tVar 0) (tCons (tOp (rIxL K) (tVar 2) (tC (.int 0))) tNil))) tNil))))) tNil))) [13] σ H Q := by
  have hp := P8_lt S.pr
  have hn15 := S.n15
  have hn1 := S.n1
  have m3 := mixes_le (m := p) (by omega) hp.2
  have rl : ∀ v, (rowL (digs p s v) p 0 n).length = n := fun v => rowL_len _ _ _ _
  have rb : ∀ (v : Int) (j : Nat), 0 ≤ (rowL (digs p s v) p 0 n).getD j 0 ∧ (rowL (digs p s v) p 0 n).getD j 0 < p := fun v j => by
    by_cases hj : j < n
    · have e : (rowL (digs p s v) p 0 n).getD j 0 = Ek (digs p s v) 0 (1 + (j : Int)) % p := by
        rw [List.getD_eq_getElem?_getD]
        unfold rowL
        rw [List.getElem?_map, List.getElem?_range hj]
        rfl
      rw [e]
      exact ⟨Int.emod_nonneg _ (by omega), Int.emod_lt_of_pos _ (by omega)⟩
    · rw [getD_ge (by rw [rl]; omega)]
      omega
  have w : ∀ j, j ≠ 13 → j < 14 → ∀ (v : V), (((wipe σ [13]).set 13 (some v))[j]? = σ[j]?) := fun j hj hj2 v => by
    rw [List.getElem?_set_ne (fun e => hj e.symm)]
    show ((wipe σ []).set 13 none)[j]? = _
    rw [List.getElem?_set_ne (fun e => hj e.symm)]
    rfl
  have w13 : ∀ (v : V), (((wipe σ [13]).set 13 (some v))[13]? = some (some v)) := fun v => by
    rw [List.getElem?_set_self]
    show 13 < ((wipe σ []).set 13 none).length
    rw [List.length_set]
    show 13 < σ.length
    omega
  have ww : ∀ v : V, wipe ((wipe σ [13]).set 13 (some v)) [13] = wipe σ [13] := fun v => by
    show (((σ.set 13 none).set 13 (some v)).set 13 none) = σ.set 13 none
    rw [List.set_set, List.set_set]
  refine ⟨_, e2, z, _, 1, .int (n : Int), rfl, rfl, SqL.of hz, rfl, n, rfl, by omega, by omega, fun D hD => ?_⟩
  have tn : ((n : Int)).toNat = n := Int.toNat_natCast n
  rw [tn]
  have nD : D ≠ pu := fresh_ne hP hD
  have nDa : a ≠ D := ne_of_none ha hD
  have nDb : b ≠ D := ne_of_none hb hD
  have nDz : z ≠ D := ne_of_none hz hD
  refine lc_it (walk_range (lo := 0) (n := n)) (fun i H' => But pu H H' ∧ (∃ M', Purse H' pu M' ∧ M' ≤ M + 4 * i) ∧ ∃ xs : List (Option Int), H' D = some (.lst (xs.map oV)) ∧ xs.length = i ∧ ∀ v, some v ∈ xs → 0 ≤ v ∧ v < p)
    ⟨But.of (Same.updf hD), ⟨M, hP.same (Same.updf hD), by omega⟩, [], upd_same, rfl, fun v hv => nomatch hv⟩ (fun _ _ _ _ => trivial) ?_ ?_
  · rintro i v H2 H3 hi ⟨bH, ⟨M2, P2, hM2⟩, xs, hxs, hlx, hb'⟩ ⟨rfl, hv⟩
    obtain rfl : v = .int (i : Int) := hv.trans (congrArg V.int (by omega))
    have za := bH _ _ nz hz
    have aa := bH _ _ na ha
    have bb := bH _ _ nb hb
    refine ⟨ww _, ?_⟩
    refine ⟨_, (w 0 (by decide) (by decide) _).trans e0, _, (w 4 (by decide) (by decide) _).trans e4, _, w13 _, a, _, _, _, rfl, rfl, SqL.of aa, at_map (by rw [rl]; exact hi), _, (w 7 (by decide) (by decide) _).trans e7, _, w13 _, b, _, _, _, rfl, rfl, SqL.of bb, at_map (by rw [rl]; exact hi), ?_⟩
    refine ⟨_, (w 0 (by decide) (by decide) _).trans e0, _, (w 2 (by decide) (by decide) _).trans e2, z, _, 0, .int p, rfl, rfl, SqL.of za, rfl, pu, p, M2, rfl, by omega, log_62 (by omega) hp.2, P2, by omega, by omega, fun r H4 r0 r1 b4 P4 => ?_⟩
    refine ⟨(by show 4 ≤ sizeLine; decide), fun l hl => ?_⟩
    obtain ⟨ys, hys⟩ : ∃ ys : List (Option Int), ys = [some ((rowL (digs p s m) p 0 n).getD i 0), some ((rowL (digs p s o) p 0 n).getD i 0), none, some r] := ⟨_, rfl⟩
    have yb : ∀ v, some v ∈ ys → 0 ≤ v ∧ v < p := fun v hv => by
      rw [hys] at hv
      simp only [List.mem_cons, List.not_mem_nil, or_false, Option.some.injEq, reduceCtorEq, false_or] at hv
      rcases hv with rfl | rfl | rfl
      · exact rb _ _
      · exact rb _ _
      · exact ⟨r0, r1⟩
    have nl : l ≠ pu := fresh_ne P4 hl
    have s5 : Same H4 (upd H4 l (.lst (ys.map oV))) := Same.updf hl
    refine ⟨pu, l, ys.map oV, _, rfl, nl, SqL.of (by rw [hys]; exact upd_same), (by rw [hys]; exact Nat.le_of_ble_eq_true rfl), (by rw [hys]; exact Nat.le_of_ble_eq_true rfl), P4.same (Same.updf hl), by omega, fun y H6 hy b6 P6 => ?_⟩
    rw [List.mem_map] at hy
    obtain ⟨u, hu, rfl⟩ := hy
    have bAll : But pu H3 H6 := b4.trans ((But.of (Same.updf hl)).trans b6)
    refine ⟨_, bAll _ _ nD hxs, ?_, fun c oo nc ec => ?_, ⟨_, Purse.same' ?_ P6, ?_⟩, xs ++ [u], ?_, ?_, ?_⟩
    · rw [List.length_map]
      have : (2000 : Nat) ≤ sizeLine := by decide
      omega
    · rw [upd_ne (ne_of_none ec hD)]
      exact bAll _ _ nc (bH _ _ nc ec)
    · exact upd_ne (Ne.symm nD)
    · omega
    · rw [upd_same, List.map_append]
      rfl
    · rw [List.length_append, hlx]
      rfl
    · intro v hv
      rcases List.mem_append.mp hv with h | h
      · exact hb' v h
      · rw [List.mem_singleton] at h
        exact yb v (h ▸ hu)
  · rintro H' ⟨bH, ⟨M', P', hM'⟩, xs, hxs, hlx, hb'⟩
    exact k D xs H' M' nD hD bH P' (by omega) hxs hlx hb'
end K10
set_option Elab.async false
set_option linter.all false
set_option maxRecDepth 100000
set_option maxHeartbeats 8000000
namespace K10
open PySem PySem.Spec PyProof.Rows L2
/-- ascending counts below n, at most i of them, all below i -/
structure Asc (cs : List Int) (i : Nat) : Prop where
  len : cs.length ≤ i
  up : ∀ j, j + 1 < cs.length → cs.getD j 0 < cs.getD (j + 1) 0
  nn : ∀ x ∈ cs, 0 ≤ x
  lt : ∀ x ∈ cs, x < (i : Int)
theorem Asc.nil : Asc [] 0 := ⟨Nat.le_refl _, fun j h => by simp at h, fun x h => (nomatch h), fun x h => nomatch h⟩
theorem Asc.keep {cs : List Int} {i : Nat} (a : Asc cs i) : Asc cs (i + 1) := ⟨by have := a.len; omega, a.up, a.nn, fun x h => by have := a.lt x h; omega⟩
theorem Asc.push {cs : List Int} {i : Nat} (a : Asc cs i) : Asc (cs ++ [(i : Int)]) (i + 1) := by
  have hl := a.len
  refine ⟨by rw [List.length_append, List.length_singleton]; omega, fun j hj => ?_, fun x h => ?_, fun x h => ?_⟩
  · rw [List.length_append, List.length_singleton] at hj
    by_cases h : j + 1 < cs.length
    · have := a.up j h
      rw [List.getD_eq_getElem?_getD, List.getD_eq_getElem?_getD, List.getElem?_append_left (by omega), List.getElem?_append_left h, ← List.getD_eq_getElem?_getD, ← List.getD_eq_getElem?_getD]
      exact this
    · have e : j + 1 = cs.length := by omega
      rw [List.getD_eq_getElem?_getD, List.getD_eq_getElem?_getD, List.getElem?_append_left (by omega), e, List.getElem?_append_right (Nat.le_refl _), Nat.sub_self, List.getElem?_cons_zero]
      have hj' : j < cs.length := by omega
      rw [List.getElem?_eq_getElem hj']
      exact a.lt _ (List.getElem_mem hj')
  · rcases List.mem_append.mp h with h | h
    · exact a.nn x h
    · rw [List.mem_singleton] at h
      omega
  · rcases List.mem_append.mp h with h | h
    · have := a.lt x h
      omega
    · rw [List.mem_singleton] at h
      omega
theorem Asc.b {cs : List Int} {n : Nat} (a : Asc cs n) (h : n ≤ 1000) : AscB cs (n : Int) := ⟨by have := a.len; omega, a.up, a.nn, a.lt⟩
/-- the drawn cells -/
theorem cells_lc {K : PySem.W.Frag} {σ : L2.St} {H : Hp} {Q : VK} {pu z : Addr} {p : Int} {n s M : Nat} (S : Sizes p n s) (e0 : σ[0]? = some (some (.ref pu))) (e2 : σ[2]? = some (some (.ref z))) (hl : σ.length = 14)
    (hz : H z = some (.lst [.int p, .int (n : Int), .int (s : Int)])) (nz : z ≠ pu) (hP : Purse H pu M) (hM : M ≤ 2 ^ 39)
    (k : ∀ (q : Addr) (cs : List Int) (H' : Hp) (M' : Nat), q ≠ pu → H q = none → But pu H H' → Purse H' pu M' → M' ≤ M + 15 → H' q = some (.lst (cs.map V.int)) → Asc cs n → Q (.ref q) H') :
    tLc (iRng1 (tCons (tOp (rIxL K) (tVar 2) (tC (.int 1))) tNil)) (gName 13) (tTest (tOp rEq (tCall spDraw [] E0 (tCons (tVar 0) (tCons (tC (.int 2)) tNil))) (tC (.int 0)))) (tVar 13) [13] σ H Q := by
  have hn15 := S.n15
  have w : ∀ j, j ≠ 13 → j < 14 → ∀ (v : V), (((wipe σ [13]).set 13 (some v))[j]? = σ[j]?) := fun j hj hj2 v => by
    rw [List.getElem?_set_ne (fun e => hj e.symm)]
    show ((wipe σ []).set 13 none)[j]? = _
    rw [List.getElem?_set_ne (fun e => hj e.symm)]
    rfl
  have w13 : ∀ (v : V), (((wipe σ [13]).set 13 (some v))[13]? = some (some v)) := fun v => by
    rw [List.getElem?_set_self]
    show 13 < ((wipe σ []).set 13 none).length
    rw [List.length_set]
    show 13 < σ.length
    omega
  have ww : ∀ v : V, wipe ((wipe σ [13]).set 13 (some v)) [13] = wipe σ [13] := fun v => by
    show (((σ.set 13 none).set 13 (some v)).set 13 none) = σ.set 13 none
    rw [List.set_set, List.set_set]
  refine ⟨_, e2, z, _, 1, .int (n : Int), rfl, rfl, SqL.of hz, rfl, n, rfl, by omega, by omega, fun D hD => ?_⟩
  have tn : ((n : Int)).toNat = n := Int.toNat_natCast n
  rw [tn]
  have nD : D ≠ pu := fresh_ne hP hD
  have m2 : mixes 2 = 1 := mixes_one (by decide) (by decide)
  refine lc_it (walk_range (lo := 0) (n := n)) (fun i H' => But pu H H' ∧ (∃ M', Purse H' pu M' ∧ M' ≤ M + i) ∧ ∃ cs : List Int, H' D = some (.lst (cs.map V.int)) ∧ Asc cs i)
    ⟨But.of (Same.updf hD), ⟨M, hP.same (Same.updf hD), by omega⟩, [], upd_same, Asc.nil⟩ (fun _ _ _ _ => trivial) ?_ ?_
  · rintro i v H2 H3 hi ⟨bH, ⟨M2, P2, hM2⟩, cs, hcs, ha⟩ ⟨rfl, hv⟩
    obtain rfl : v = .int (i : Int) := hv.trans (congrArg V.int (by omega))
    refine ⟨ww _, ?_⟩
    refine ⟨_, (w 0 (by decide) (by decide) _).trans e0, pu, 2, M2, rfl, by decide, log_62 (by decide) (by decide), P2, by omega, by omega, fun r H4 r0 r1 b4 P4 => ?_⟩
    rw [m2] at P4
    refine ⟨rfl, _, rfl, ?_⟩
    refine ite2 (fun _ => ?_) (fun _ => ?_)
    · refine ⟨_, w13 _, _, b4 _ _ nD hcs, ?_, fun c oo nc ec => ?_, ⟨_, Purse.same' ?_ P4, ?_⟩, cs ++ [(i : Int)], ?_, ha.push⟩
      · rw [List.length_map]
        have := ha.len
        have : (2000 : Nat) ≤ sizeLine := by decide
        omega
      · rw [upd_ne (ne_of_none ec hD)]
        exact b4 _ _ nc (bH _ _ nc ec)
      · exact upd_ne (Ne.symm nD)
      · omega
      · rw [upd_same, List.map_append]
        rfl
    · exact ⟨bH.trans b4, ⟨_, P4, by omega⟩, cs, b4 _ _ nD hcs, ha.keep⟩
  · rintro H' ⟨bH, ⟨M', P', hM'⟩, cs, hcs, ha⟩
    exact k D cs H' M' nD hD bH P' (by omega) hcs ha
/-- the law's own mixture -/
theorem mine_lc {K : PySem.W.Frag} {σ : L2.St} {H : Hp} {Q : VK} {z a b c : Addr} {p : Int} {n s : Nat} {sg so cs : List Int} (S : Sizes p n s) (e2 : σ[2]? = some (some (.ref z))) (e4 : σ[4]? = some (some (.ref a))) (e7 : σ[7]? = some (some (.ref b))) (e10 : σ[10]? = some (some (.ref c))) (hl : σ.length = 14)
    (hz : H z = some (.lst [.int p, .int (n : Int), .int (s : Int)])) (ha : H a = some (.lst (sg.map V.int))) (hb : H b = some (.lst (so.map V.int))) (hc : H c = some (.lst (cs.map V.int))) (lg : sg.length = n) (lo : so.length = n)
    (k : ∀ (q : Addr) (H' : Hp), Same H H' → H q = none → H' q = some (.lst ((mixed n sg so cs).map V.int)) → Q (.ref q) H') :
    tLc (iRng1 (tCons (tOp (rIxL K) (tVar 2) (tC (.int 1))) tNil)) (gName 13) tYes (tIf (tTest (tOp (rIn K false) (tVar 13) (tVar 10))) (tOp (rIxL K) (tVar 7) (tVar 13)) (tOp (rIxL K) (tVar 4) (tVar 13))) [13] σ H Q := by
  have hn15 := S.n15
  have w : ∀ j, j ≠ 13 → j < 14 → ∀ (v : V), (((wipe σ [13]).set 13 (some v))[j]? = σ[j]?) := fun j hj hj2 v => by
    rw [List.getElem?_set_ne (fun e => hj e.symm)]
    show ((wipe σ []).set 13 none)[j]? = _
    rw [List.getElem?_set_ne (fun e => hj e.symm)]
    rfl
  have w13 : ∀ (v : V), (((wipe σ [13]).set 13 (some v))[13]? = some (some v)) := fun v => by
    rw [List.getElem?_set_self]
    show 13 < ((wipe σ []).set 13 none).length
    rw [List.length_set]
    show 13 < σ.length
    omega
  have ww : ∀ v : V, wipe ((wipe σ [13]).set 13 (some v)) [13] = wipe σ [13] := fun v => by
    show (((σ.set 13 none).set 13 (some v)).set 13 none) = σ.set 13 none
    rw [List.set_set, List.set_set]
  refine ⟨_, e2, z, _, 1, .int (n : Int), rfl, rfl, SqL.of hz, rfl, n, rfl, by omega, by omega, fun D hD => ?_⟩
  have tn : ((n : Int)).toNat = n := Int.toNat_natCast n
  rw [tn]
  refine lc_sel (walk_range (lo := 0) (n := n)) (fun j => some (.int (if cs.any (· == (j : Int)) then so.getD j 0 else sg.getD j 0))) (by omega) hD (fun _ _ => trivial) ?_ ?_
  · rintro i v H2 H3 Qy Qn hi sH ⟨rfl, hv⟩ ky kn
    obtain rfl : v = .int (i : Int) := hv.trans (congrArg V.int (by omega))
    refine ⟨ww _, _, w13 _, _, (w 10 (by decide) (by decide) _).trans e10, c, _, rfl, Or.inl (SqL.of (sH _ _ hc)), rfl, ?_, _, rfl, ?_⟩
    · rw [List.all_map]
      exact List.all_eq_true.mpr fun x _ => rfl
    rw [inV_any]
    by_cases h : cs.any (· == (i : Int)) = true
    · rw [h]
      refine iteT ⟨_, (w 7 (by decide) (by decide) _).trans e7, _, w13 _, b, _, _, _, rfl, rfl, SqL.of (sH _ _ hb), at_map (by rw [lo]; exact hi), ky _ _ (Same.refl _) ?_⟩
      rw [if_pos h]
    · rw [Bool.not_eq_true] at h
      rw [h]
      refine iteF ⟨_, (w 4 (by decide) (by decide) _).trans e4, _, w13 _, a, _, _, _, rfl, rfl, SqL.of (sH _ _ ha), at_map (by rw [lg]; exact hi), ky _ _ (Same.refl _) ?_⟩
      rw [if_neg (by rw [h]; exact Bool.false_ne_true)]
  · intro H2 s2 hR
    refine k D H2 s2 hD (hR.trans (congrArg (fun l => some (HO.lst l)) ?_))
    unfold mixed
    rw [List.filterMap_eq_map', List.map_map]
    rfl
end K10
set_option Elab.async false
set_option linter.all false
set_option maxRecDepth 100000
set_option maxHeartbeats 8000000
namespace K10
open PySem PySem.Spec PyProof.Rows L2
theorem mixed_len (n : Nat) (a b c : List Int) : (mixed n a b c).length = n := by
  unfold mixed
  rw [List.length_map, List.length_range]
theorem Asc.nil' (n : Nat) : Asc [] n := ⟨Nat.zero_le _, fun j h => by simp at h, fun x h => (nomatch h), fun x h => nomatch h⟩
theorem eqs_refs3 {H : Hp} {a b a1 a2 a3 b1 b2 b3 : Addr} (ha : H a = some (.lst [.ref a1, .ref a2, .ref a3])) (hb : H b = some (.lst [.ref b1, .ref b2, .ref b3])) (h1 : Eqs H 1 (.ref a1) (.ref b1)) (h2 : Eqs H 1 (.ref a2) (.ref b2)) (h3 : Eqs H 1 (.ref a3) (.ref b3)) : Eqs H 2 (.ref a) (.ref b) := by
  refine .inr ⟨a, b, _, _, rfl, rfl, ha, hb, rfl, Nat.le_of_ble_eq_true rfl, fun t u v e1 e2 => ?_⟩
  match t with
  | 0 =>
    obtain rfl := Option.some.inj e1
    obtain rfl := Option.some.inj e2
    exact h1
  | 1 =>
    obtain rfl := Option.some.inj e1
    obtain rfl := Option.some.inj e2
    exact h2
  | 2 =>
    obtain rfl := Option.some.inj e1
    obtain rfl := Option.some.inj e2
    exact h3
  | t + 3 => simp at e1
section
variable {P : Program} {w : World} {K : PySem.W.Frag} {mg : Str → Option Value} {base : Heap} {f fLS fPO fE fNO fD fO fAg fA fM : Addr} {fd dLS dPO dE dNO dD dO dAg dA dM : FuncData}
theorem ok_PR (F : FnP K "_law_page_right" sPR f fd) (Z : Free mg)
    (gLS : mg "_law_line_signs" = some (.ref fLS)) (FLS : FnP K "_law_line_signs" sLS fLS dLS) (GLS : FnOk P w K mg base CX0 1 fLS dLS ["_law_number", "_law_sizes"] (spLS K))
    (gPO : mg "page_of" = some (.ref fPO)) (FPO : FnP K "page_of" sPageOf fPO dPO) (GPO : FnOk P w K mg base CX0 5 fPO dPO ["line", "number"] (spPageOf K))
    (gE : mg "_law_exact" = some (.ref fE)) (FE : FnP K "_law_exact" sExact fE dE) (GE : ∀ n : Nat, FnOk P w K mg base CX0 (n + 1) fE dE ["_law_mine", "_law_theirs"] (spExact n))
    (gNO : mg "number_of" = some (.ref fNO)) (FNO : FnP K "number_of" sNumOf fNO dNO) (GNO : FnOk P w K mg base CX0 5 fNO dNO ["line", "page"] (spNumOf K))
    (gD : mg "_law_draw" = some (.ref fD)) (FD : FnP K "_law_draw" sDraw fD dD) (GD : FnOk P w K mg base CX0 2 fD dD ["_law_purse_here", "_law_many"] spDraw)
    (gO : mg "_law_one_of" = some (.ref fO)) (FO : FnP K "_law_one_of" sOne fO dO) (GO : FnOk P w K mg base CX0 3 fO dO ["_law_purse_here", "_law_some"] (spOne K))
    (gAg : mg "_law_agree" = some (.ref fAg)) (FAg : FnP K "_law_agree" sAgr fAg dAg) (GAg : FnOk P w K mg base CX0 1 fAg dAg ["_law_one", "_law_other"] (spAgr K))
    (gA : mg "agreeing" = some (.ref fA)) (FA : FnP K "agreeing" sAgree fA dA) (GA : FnOk P w K mg base CX0 5 fA dA ["line", "number", "value"] (spAgree K))
    (gM : mg "mixture_of" = some (.ref fM)) (FM : FnP K "mixture_of" sMix fM dM) (GM : FnOk P w K mg base CX0 5 fM dM ["line", "number", "other", "cells"] (spMix K)) :
    FnOk P w K mg base CX0 6 f fd ["_law_purse_here", "_law_line", "_law_sizes", "_law_number"] (spPR K) := by
  have bLS : Binds K dLS ["_law_number", "_law_sizes"] [] := FLS.bindsN fun _ _ _ _ _ _ us hl => match us, hl with | [_, _], _ => rfl
  have bPO : Binds K dPO ["line", "number"] [] := FPO.bindsN fun _ _ _ _ _ _ us hl => match us, hl with | [_, _], _ => rfl
  have bE : Binds K dE ["_law_mine", "_law_theirs"] [] := FE.bindsN fun _ _ _ _ _ _ us hl => match us, hl with | [_, _], _ => rfl
  have bNO : Binds K dNO ["line", "page"] [] := FNO.bindsN fun _ _ _ _ _ _ us hl => match us, hl with | [_, _], _ => rfl
  have bD : Binds K dD ["_law_purse_here", "_law_many"] [] := FD.bindsN fun _ _ _ _ _ _ us hl => match us, hl with | [_, _], _ => rfl
  have bO : Binds K dO ["_law_purse_here", "_law_some"] [] := FO.bindsN fun _ _ _ _ _ _ us hl => match us, hl with | [_, _], _ => rfl
  have bAg : Binds K dAg ["_law_one", "_law_other"] [] := FAg.bindsN fun _ _ _ _ _ _ us hl => match us, hl with | [_, _], _ => rfl
  have bA : Binds K dA ["line", "number", "value"] [] := FA.bindsN fun _ _ _ _ _ _ us hl => match us, hl with | [_, _, _], _ => rfl
  have bM : Binds K dM ["line", "number", "other", "cells"] [] := FM.bindsN fun _ _ _ _ _ _ us hl => match us, hl with | [_, _, _, _], _ => rfl
  refine F.ok scPR (fun vs H Q E h => ?_) (fun cdv A outer s H vs Q E hr h => ?_)
  · obtain ⟨pu, z, x, p, m, n, s, N, rfl, _⟩ := h
    rfl
  · obtain ⟨pu, z, x, p, m, n, sz, N, rfl, hP, hN, hL, hz, S, hm, hm2, k⟩ := h
    have nd := scPR.nd
    have hr1 : Room 1 _ := hr.mono (by decide)
    have hr2 : Room 2 _ := hr.mono (by decide)
    have hr3 : Room 3 _ := hr.mono (by decide)
    refine ⟨_, PSs.nox (pss_cons (ps_set (i := 4) nd rfl (Or.inr rfl) (pe_call GLS hr1 rfl gLS FLS.kp bLS .nil pass0 (pa_cons (pv 3) (pa_cons (pv 2) pa_nil))))
      (pss_cons (ps_set (i := 5) nd rfl (Or.inl rfl) (pe_call GPO hr rfl gPO FPO.kp bPO .nil pass0 (pa_cons (pv 1) (pa_cons (pv 3) pa_nil))))
      (pss_cons (ps_if (PW.pt (pw_or (pt_not (pt_val (pe_call (GE 1) hr2 rfl gE FE.kp bE .nil pass0 (pa_cons (pv 5) (pa_cons (pv 4) pa_nil)))))
        (pw_or1 (pt_not (pt_val (pe_call (GE 0) hr1 rfl gE FE.kp bE .nil pass0 (pa_cons (pe_call GNO hr rfl gNO FNO.kp bNO .nil pass0 (pa_cons (pv 1) (pa_cons (pe_callTy call_list_of (by rfl) Z.tlist (by decide +kernel) (pa_cons (pv 4) pa_nil)) pa_nil))) (pa_cons (pv 3) pa_nil)))))))) (pss_one (ps_ret pe_bl)) pss_nil)
      (pss_cons (ps_expr (pe_bm PySem.F.plainAttrs_list PySem.F.slot_list_append PySem.F.type_list_append mt_append (pv 5) (pa_cons pe_str pa_nil)))
      (pss_cons (ps_set (i := 6) nd rfl (Or.inl rfl) (pe_call GD hr2 rfl gD FD.kp bD .nil pass0 (pa_cons (pv 0) (pa_cons (pe_ix ix_list (pv 2) pe_int (fun _ _ => rfl)) pa_nil))))
      (pss_cons (ps_set (i := 6) nd rfl (Or.inl rfl) (pe_ifExp (pt_cmpR op_gt (pe_ix ix_list (pv 2) pe_int (fun _ _ => rfl)) pe_int (nomark _))
        (pe_op op_add (pv 6) (pe_op op_mul (pe_ix ix_list (pv 2) pe_int (fun _ _ => rfl)) (pe_call GD hr2 rfl gD FD.kp bD .nil pass0 (pa_cons (pv 0) (pa_cons (pe_ix ix_list (pv 2) pe_int (fun _ _ => rfl)) pa_nil))))) (pv 6)))
      (pss_cons (ps_set (i := 7) nd rfl (Or.inr rfl) (pe_call GLS hr1 rfl gLS FLS.kp bLS .nil pass0 (pa_cons (pv 6) (pa_cons (pv 2) pa_nil))))
      (pss_cons (ps_if (PW.pt (pw_and (pt_cmpR op_ne (pv 6) (pv 3) (nomark _)) (pw_and1 (pt_cmpR op_ge (pe_call GAg hr1 rfl gAg FAg.kp bAg .nil pass0 (pa_cons (pv 4) (pa_cons (pv 7) pa_nil))) (pe_ix ix_list (pv 2) pe_int (fun _ _ => rfl)) (nomark _))))) (pss_one (ps_ret pe_bl)) pss_nil)
      (pss_cons (ps_setLc (i := 8) (own := [("_law_at", 13)]) (g := gName 13) (tt := tYes) (te := tCall (spOne K) [] E0 (tCons (tVar 0) (tCons (tLst (tCons (tOp (rIxL K) (tVar 4) (tVar 13)) (tCons (tOp (rIxL K) (tVar 7) (tVar 13)) (tCons (tC .non) (tCons (tCall spDraw [] E0 (tCons (tVar 0) (tCons (tOp (rIxL K) (tVar 2) (tC (.int 0))) tNil))) tNil))))) tNil))) (by rfl) nd rfl rfl rfl (pi_range1 (by rfl) Z.range (pa_cons (pe_ix ix_list (pv 2) pe_int (fun _ _ => rfl)) pa_nil))
        (blkOk_by (own := [("_law_at", 13)]) (N := NPR) (sc := defScope sPR) (by decide +kernel)) (fun _ _ _ _ _ => pg_name (i := 13) nd rfl (Or.inl rfl)) (fun _ _ _ _ _ => pts_nil)
        (fun _ _ _ _ _ => pe_call GO hr3 rfl gO FO.kp bO .nil pass0 (pa_cons (pv 0) (pa_cons (pe_lst (pa_cons (pe_ix ix_list (pv 4) (pv 13) (fun _ _ => rfl)) (pa_cons (pe_ix ix_list (pv 7) (pv 13) (fun _ _ => rfl)) (pa_cons pe_non (pa_cons (pe_call GD hr2 rfl gD FD.kp bD .nil pass0 (pa_cons (pv 0) (pa_cons (pe_ix ix_list (pv 2) pe_int (fun _ _ => rfl)) pa_nil))) pa_nil))))) pa_nil))))
      (pss_cons (ps_set (i := 9) nd rfl (Or.inl rfl) (pe_callTy call_list_of (by rfl) Z.tlist (by decide +kernel) (pa_cons (pv 8) pa_nil)))
      (pss_cons (ps_if (pt_not (pt_val (pe_call (GE 2) hr3 rfl gE FE.kp bE .nil pass0
          (pa_cons (pe_lst (pa_cons (pe_call GA hr rfl gA FA.kp bA .nil pass0 (pa_cons (pv 1) (pa_cons (pv 3) (pa_cons (pv 8) pa_nil)))) (pa_cons (pe_call GA hr rfl gA FA.kp bA .nil pass0 (pa_cons (pv 1) (pa_cons (pv 6) (pa_cons (pv 8) pa_nil)))) (pa_cons (pv 8) pa_nil))))
          (pa_cons (pe_lst (pa_cons (pe_call GAg hr1 rfl gAg FAg.kp bAg .nil pass0 (pa_cons (pv 8) (pa_cons (pv 4) pa_nil))) (pa_cons (pe_call GAg hr1 rfl gAg FAg.kp bAg .nil pass0 (pa_cons (pv 8) (pa_cons (pv 7) pa_nil))) (pa_cons (pv 9) pa_nil)))) pa_nil))))) (pss_one (ps_ret pe_bl)) pss_nil)
      (pss_cons (ps_set (i := 10) nd rfl (Or.inr rfl) (pe_lc (own := [("_law_at", 13)]) (g := gName 13) (tt := tTest (tOp rEq (tCall spDraw [] E0 (tCons (tVar 0) (tCons (tC (.int 2)) tNil))) (tC (.int 0)))) (te := tVar 13) (by rfl) nd (pi_range1 (by rfl) Z.range (pa_cons (pe_ix ix_list (pv 2) pe_int (fun _ _ => rfl)) pa_nil))
        (blkOk_by (own := [("_law_at", 13)]) (N := NPR) (sc := defScope sPR) (by decide +kernel)) (fun _ _ _ _ _ => pg_name (i := 13) nd rfl (Or.inl rfl))
        (fun _ _ _ _ _ => pts_one (pt_cmpR op_eq (pe_call GD hr2 rfl gD FD.kp bD .nil pass0 (pa_cons (pv 0) (pa_cons pe_int pa_nil))) pe_int (nomark _))) (fun _ _ _ _ _ => pv 13)))
      (pss_cons (ps_set (i := 11) nd rfl (Or.inl rfl) (pe_call GM hr rfl gM FM.kp bM .nil pass0 (pa_cons (pv 1) (pa_cons (pv 3) (pa_cons (pv 6) (pa_cons (pv 10) pa_nil))))))
      (pss_cons (ps_setLc (i := 12) (own := [("_law_at", 13)]) (g := gName 13) (tt := tYes) (te := tIf (tTest (tOp (rIn K false) (tVar 13) (tVar 10))) (tOp (rIxL K) (tVar 7) (tVar 13)) (tOp (rIxL K) (tVar 4) (tVar 13))) (by rfl) nd rfl rfl rfl (pi_range1 (by rfl) Z.range (pa_cons (pe_ix ix_list (pv 2) pe_int (fun _ _ => rfl)) pa_nil))
        (blkOk_by (own := [("_law_at", 13)]) (N := NPR) (sc := defScope sPR) (by decide +kernel)) (fun _ _ _ _ _ => pg_name (i := 13) nd rfl (Or.inl rfl)) (fun _ _ _ _ _ => pts_nil)
        (fun _ _ _ _ _ => pe_ifExp (pt_cmpR op_in_seq (pv 13) (pv 10) (by rfl)) (pe_ix ix_list (pv 7) (pv 13) (fun _ _ => rfl)) (pe_ix ix_list (pv 4) (pv 13) (fun _ _ => rfl))))
      (pss_cons (ps_if (pt_not (pt_val (pe_call (GE 1) hr2 rfl gE FE.kp bE .nil pass0 (pa_cons (pv 11) (pa_cons (pv 12) pa_nil))))) (pss_one (ps_ret pe_bl)) pss_nil)
      (pss_cons (ps_expr (pe_bm PySem.F.plainAttrs_list PySem.F.slot_list_append PySem.F.type_list_append mt_append (pv 11) (pa_cons pe_str pa_nil)))
      (pss_one (ps_ret (pe_call (GE 2) hr3 rfl gE FE.kp bE .nil pass0
          (pa_cons (pe_lst (pa_cons (pe_call GM hr rfl gM FM.kp bM .nil pass0 (pa_cons (pv 1) (pa_cons (pv 3) (pa_cons (pv 6) (pa_cons (pv 10) pa_nil))))) (pa_cons (pe_call GM hr rfl gM FM.kp bM .nil pass0 (pa_cons (pv 1) (pa_cons (pv 3) (pa_cons (pv 6) (pa_cons (pe_lst pa_nil) pa_nil))))) (pa_cons (pe_call GPO hr rfl gPO FPO.kp bPO .nil pass0 (pa_cons (pv 1) (pa_cons (pv 3) pa_nil))) pa_nil))))
          (pa_cons (pe_lst (pa_cons (pv 12) (pa_cons (pv 4) (pa_cons (pv 4) pa_nil)))) pa_nil))))))))))))))))))))), ?_⟩
    have hp := P8_lt S.pr
    have hn15 := S.n15
    have hn1 := S.n1
    have hs1 := S.s1
    have hsn := S.sn
    have hs4 : sz ≤ 4 := by omega
    have tn : ((n : Int)).toNat = n := Int.toNat_natCast n
    have ts : ((sz : Int)).toNat = sz := Int.toNat_natCast sz
    have qm : quo p sz m = 0 := quo_eq (by omega) sz m hm hm2
    have rl : ∀ v, (rowL (digs p sz v) p 0 n).length = n := fun v => rowL_len _ _ _ _
    have line1000 : (2000 : Nat) ≤ sizeLine := by decide
    -- due, told
    refine ⟨_, rfl, _, rfl, z, m, p, n, sz, rfl, hz, S.sz, hm, fun q1 H1 s1 hq1 e1 => ?_⟩
    rw [tn] at e1
    refine ⟨_, rfl, _, rfl, x, p, n, sz, m, rfl, hL.same s1, S.lb, hm, by rw [ts]; exact qm, fun q2 H2 s2 hq2 e2 => ?_⟩
    rw [tn, ts, S.row] at e2
    have e12 := s2 _ _ e1
    have s12 := s1.trans s2
    refine ⟨_, rfl, _, rfl, .ref q2, .ref q1, rfl, eqs_ints e2 e12 (by rw [List.length_map, rl]; omega) (flat_ints _) 0, fun H3 s3 => ⟨true, rfl, iteF ?_⟩⟩
    have s13 := s12.trans s3
    refine ⟨_, rfl, _, rfl, q1, _, rfl, Or.inl (SqL.of (s3 _ _ e12)), fun l4 hl4 => ?_⟩
    have s4 : Same H3 (upd H3 l4 (.lst ((rowL (digs p sz m) p 0 n).map V.int))) := Same.updf hl4
    have s14 := s13.trans s4
    refine ⟨x, l4, p, n, sz, digs p sz m, rfl, hL.same s14, S.dg m, by omega, by omega, upd_same, fun H5 s5 => ?_⟩
    have s15 := s14.trans s5
    have nb : nBy p (digs p sz m) = m := by
      have := nBy_digs (p := p) (by omega) sz m hm
      rw [qm, Int.zero_mul] at this
      omega
    rw [nb]
    refine ⟨_, rfl, .int m, .int m, rfl, ⟨rfl, .inr (.inr ⟨m, rfl⟩)⟩, fun H6 s6 => ⟨true, rfl, iteF ?_⟩⟩
    have s16 := s15.trans s6
    have sq2 : Same H2 H6 := s3.trans (s4.trans (s5.trans s6))
    have a2 := sq2 _ _ e2
    have a1 := sq2 _ _ e12
    have n12 : q1 ≠ q2 := fun e => by
      have := s2 _ _ e1
      rw [e] at e1
      rw [hq2] at e1
      cases e1
    -- told.append
    refine ⟨_, rfl, Or.inl ⟨rfl, _, SqL.of a2⟩, q2, _, _, rfl, rfl, a2, by rw [List.length_map, rl]; omega, ?_⟩
    obtain ⟨H7, eH7⟩ : ∃ X, X = upd H6 q2 (.lst ((rowL (digs p sz m) p 0 n).map V.int ++ [.str "more"])) := ⟨_, rfl⟩
    rw [← eH7]
    have k7 : Same H H7 := fun b o e => by
      rw [eH7, upd_ne (ne_of_none e (none_back s1 hq2))]
      exact s16 _ _ e
    have e7 : H7 q1 = some (.lst ((rowL (digs p sz m) p 0 n).map V.int)) := by rw [eH7, upd_ne n12]; exact a1
    have zpu : z ≠ pu := fun e => by
      obtain ⟨A0, B, c, i, e2, _⟩ := hP
      rw [e, e2] at hz
      cases hz
    have q1pu : q1 ≠ pu := fresh_ne hP hq1
    have P7 : Purse H7 pu N := hP.same k7
    -- the other number
    have z7 := k7 _ _ hz
    refine ⟨_, rfl, _, rfl, z, _, 0, .int p, rfl, rfl, SqL.of z7, rfl, pu, p, N, rfl, by omega, log_62 (by omega) hp.2, P7, ?_, ?_, fun r H8 r0 r1 b8 P8' => ?_⟩
    · have := mixes_le (m := p) (by omega) hp.2
      omega
    · have := mixes_le (m := p) (by omega) hp.2
      omega
    have m8 := mixes_le (m := p) (by omega) hp.2
    refine other_num S rfl rfl rfl (b8 _ _ zpu z7) zpu P8' (by omega) r0 r1 fun o H9 M9 o0 o1 b9 P9 l9 => ?_
    have b79 : But pu H7 H9 := b8.trans b9
    have B9 : But pu H H9 := (But.of k7).trans b79
    have z9 := B9 _ _ zpu hz
    have e9 := b79 _ _ q1pu e7
    have qo : quo p sz o = 0 := quo_eq (by omega) sz o o0 o1
    -- theirs
    refine ⟨_, rfl, _, rfl, z, o, p, n, sz, rfl, z9, S.sz, o0, fun q10 H10 s10 hq10 e10 => ?_⟩
    rw [tn] at e10
    have q10pu : q10 ≠ pu := fresh_ne P9 hq10
    have P10 : Purse H10 pu M9 := P9.same s10
    have B10 : But pu H H10 := B9.trans (But.of s10)
    have d10 := s10 _ _ e9
    have z10 := s10 _ _ z9
    -- unlike pages
    refine unlike_ok S rfl rfl rfl rfl rfl z10 d10 e10 hm hm2 o0 o1 fun H11 s11 => ?_
    have P11 := P10.same s11
    have B11 : But pu H H11 := B10.trans (But.of s11)
    have z11 := s11 _ _ z10
    have d11 := s11 _ _ d10
    have t11 := s11 _ _ e10
    refine via_nx (via_seq (via_asg ?_))
    refine val_lc S rfl rfl rfl rfl rfl z11 zpu q1pu q10pu d11 t11 P11 (by omega) fun q12 xs H12 M12 n12 hq12 b12 P12 l12 e12x len12 bnd => ?_
    have B12 : But pu H H12 := B11.trans b12
    have d12 := b12 _ _ q1pu d11
    have t12 := b12 _ _ q10pu t11
    have z12 := b12 _ _ zpu z11
    -- kept
    refine ⟨_, rfl, q12, xs.map oV, rfl, Or.inl (SqL.of e12x), fun q13 hq13 => ?_⟩
    obtain ⟨H13, eH13⟩ : ∃ X, X = upd H12 q13 (.lst (xs.map oV)) := ⟨_, rfl⟩
    rw [← eH13]
    have s13 : Same H12 H13 := by rw [eH13]; exact Same.updf hq13
    have k13 : H13 q13 = some (.lst (xs.map oV)) := by rw [eH13]; exact upd_same
    have v13 := s13 _ _ e12x
    have B13 : But pu H H13 := B12.trans (But.of s13)
    have hL13 := hL.but hP B13
    have lx : (xs.map oV).length ≤ 1000 := by rw [List.length_map]; omega
    -- how many agree
    refine ⟨_, rfl, _, rfl, _, rfl, x, q12, p, m, n, sz, xs, rfl, hL13, S.lb, hm, qm, v13, len12, bnd, fun H14 s14 => ?_⟩
    rw [S.row]
    refine ⟨_, rfl, _, rfl, _, rfl, x, q12, p, o, n, sz, xs, rfl, hL13.same s14, S.lb, o0, qo, s14 _ _ v13, len12, bnd, fun H15 s15 => ?_⟩
    rw [S.row]
    have s1315 := s14.trans s15
    refine ⟨_, rfl, (by show 3 ≤ sizeLine; decide), fun l16 hl16 => ?_⟩
    have s16' : Same H15 (upd H15 l16 (.lst [.int (agr (rowL (digs p sz m) p 0 n) xs : Nat), .int (agr (rowL (digs p sz o) p 0 n) xs : Nat), .ref q12])) := Same.updf hl16
    have s1316 := s1315.trans s16'
    have sd := fun b oo e => s1316 b oo (s13 b oo e)
    refine ⟨_, rfl, _, rfl, q12, q1, xs, _, rfl, SqL.of (s1316 _ _ v13), SqL.of (sd _ _ d12), by rw [rl, len12], by rw [rl]; omega, fun H17 s17 => ?_⟩
    refine ⟨_, rfl, _, rfl, q12, q10, xs, _, rfl, SqL.of (s17 _ _ (s1316 _ _ v13)), SqL.of (s17 _ _ (sd _ _ t12)), by rw [rl, len12], by rw [rl]; omega, fun H18 s18 => ?_⟩
    refine ⟨_, rfl, (by show 3 ≤ sizeLine; decide), fun l19 hl19 => ?_⟩
    have s19 : Same H18 (upd H18 l19 (.lst [.int (agr (rowL (digs p sz m) p 0 n) xs : Nat), .int (agr (rowL (digs p sz o) p 0 n) xs : Nat), .ref q13])) := Same.updf hl19
    have s1619 := (s17.trans s18).trans s19
    refine ⟨.ref l16, .ref l19, rfl, eqs_three (s1619 _ _ upd_same) upd_same (s1619 _ _ (s1316 _ _ v13)) (s1619 _ _ (s1316 _ _ k13)) lx (flat_oV xs), fun H20 s20 => ⟨true, rfl, iteF ?_⟩⟩
    have s1320 : Same H13 H20 := s1316.trans (s1619.trans s20)
    have B20 : But pu H H20 := B13.trans (But.of s1320)
    have P20 : Purse H20 pu M12 := (P12.same s13).same s1320
    have d20 := s1320 _ _ (s13 _ _ d12)
    have t20 := s1320 _ _ (s13 _ _ t12)
    have z20 := s1320 _ _ (s13 _ _ z12)
    refine via_nx (via_seq (via_asg ?_))
    refine cells_lc S rfl rfl rfl z20 zpu P20 (by omega) fun q21 cs H21 M21 n21 hq21 b21 P21 l21 e21 A21 => ?_
    have B21 : But pu H H21 := B20.trans b21
    have d21 := b21 _ _ q1pu d20
    have t21 := b21 _ _ q10pu t20
    have z21 := b21 _ _ zpu z20
    have hL21 := hL.but hP B21
    have hA := A21.b (by omega)
    have hcl := A21.len
    -- the mixture
    refine ⟨_, rfl, _, rfl, _, rfl, _, rfl, x, q21, p, m, o, n, sz, cs, rfl, hL21, S.lb, hm, qm, o0, qo, e21, hA, by omega, fun q22 H22 s22 hq22 e22 => ?_⟩
    rw [S.row, S.row] at e22
    refine via_nx (via_seq (via_asg ?_))
    refine mine_lc S rfl rfl rfl rfl rfl (s22 _ _ z21) (s22 _ _ d21) (s22 _ _ t21) (s22 _ _ e21) (rl m) (rl o) fun q23 H23 s23 hq23 e23 => ?_
    have e22' := s23 _ _ e22
    refine ⟨_, rfl, _, rfl, .ref q22, .ref q23, rfl, eqs_ints e22' e23 (by rw [List.length_map, mixed_len]; omega) (flat_ints _) 0, fun H24 s24 => ⟨true, rfl, iteF ?_⟩⟩
    have e22'' := s24 _ _ e22'
    refine ⟨_, rfl, Or.inl ⟨rfl, _, SqL.of e22''⟩, q22, _, _, rfl, rfl, e22'', by rw [List.length_map, mixed_len]; omega, ?_⟩
    obtain ⟨H25, eH25⟩ : ∃ X, X = upd H24 q22 (.lst ((mixed n (rowL (digs p sz m) p 0 n) (rowL (digs p sz o) p 0 n) cs).map V.int ++ [.str "more"])) := ⟨_, rfl⟩
    rw [← eH25]
    have s2124 : Same H21 H24 := s22.trans (s23.trans s24)
    have k25 : Same H21 H25 := fun b oo e => by
      rw [eH25, upd_ne (ne_of_none e hq22)]
      exact s2124 _ _ e
    have n2322 : q23 ≠ q22 := fun e => by
      rw [e] at hq23
      rw [e22] at hq23
      cases hq23
    have m25 : H25 q23 = some (.lst ((mixed n (rowL (digs p sz m) p 0 n) (rowL (digs p sz o) p 0 n) cs).map V.int)) := by
      rw [eH25, upd_ne n2322]
      exact s24 _ _ e23
    have B25 : But pu H H25 := B21.trans (But.of k25)
    have P25 : Purse H25 pu M21 := P21.same k25
    -- the last
    refine ⟨_, rfl, _, rfl, _, rfl, _, rfl, x, q21, p, m, o, n, sz, cs, rfl, hL.but hP B25, S.lb, hm, qm, o0, qo, k25 _ _ e21, hA, by omega, fun q26 H26 s26 hq26 e26 => ?_⟩
    rw [S.row, S.row] at e26
    have B26 : But pu H H26 := B25.trans (But.of s26)
    refine ⟨_, rfl, _, rfl, _, rfl, (by show 0 ≤ sizeLine; decide), fun l27 hl27 => ?_⟩
    have s27 : Same H26 (upd H26 l27 (.lst [])) := Same.updf hl27
    refine ⟨x, l27, p, m, o, n, sz, [], rfl, hL.but hP (B26.trans (But.of s27)), S.lb, hm, qm, o0, qo, upd_same, (Asc.nil' n).b (by omega), by decide, fun q28 H28 s28 hq28 e28 => ?_⟩
    rw [S.row, S.row, mixed_nil] at e28
    have B28 : But pu H H28 := (B26.trans (But.of s27)).trans (But.of s28)
    refine ⟨_, rfl, _, rfl, x, p, n, sz, m, rfl, hL.but hP B28, S.lb, hm, by rw [ts]; exact qm, fun q29 H29 s29 hq29 e29 => ?_⟩
    rw [tn, ts, S.row] at e29
    refine ⟨(by show 3 ≤ sizeLine; decide), fun l30 hl30 => ?_⟩
    have s30 : Same H29 (upd H29 l30 (.lst [.ref q26, .ref q28, .ref q29])) := Same.updf hl30
    refine ⟨_, rfl, _, rfl, _, rfl, (by show 3 ≤ sizeLine; decide), fun l31 hl31 => ?_⟩
    have s31 : Same (upd H29 l30 (.lst [.ref q26, .ref q28, .ref q29])) (upd (upd H29 l30 (.lst [.ref q26, .ref q28, .ref q29])) l31 (.lst [.ref q23, .ref q1, .ref q1])) := Same.updf hl31
    have s2931 := s30.trans s31
    have s2631 := s27.trans (s28.trans (s29.trans s2931))
    have s2531 := s26.trans s2631
    have s2831 := s29.trans s2931
    have d31 := s2531 _ _ (k25 _ _ d21)
    have rlm : ((rowL (digs p sz m) p 0 n).map V.int).length ≤ 1000 := by
      rw [List.length_map, rl]
      omega
    refine ⟨.ref l30, .ref l31, rfl, eqs_refs3 (s31 _ _ upd_same) upd_same (eqs_ints (s2631 _ _ e26) (s2531 _ _ m25) (by rw [List.length_map, mixed_len]; omega) (flat_ints _) 0) (eqs_ints (s2831 _ _ e28) d31 rlm (flat_ints _) 0) (eqs_ints (s2931 _ _ e29) d31 rlm (flat_ints _) 0), fun H32 s32 => ?_⟩
    have s2532 := s2531.trans s32
    exact k H32 M21 (B25.trans (But.of s2532)) (P25.same s2532) (by omega)
end
end K10
set_option Elab.async false
set_option linter.all false
set_option maxRecDepth 100000
set_option maxHeartbeats 4000000
/-! Two lines are equal: their own ==; != of them. -/
namespace L2
open PySem PySem.Spec PyProof.Rows
/-- what != of two instances of a class with an own == and no own != leans on -/
structure NeC (K : PySem.W.Frag) (C f : Addr) : Prop where
  cl : ∃ nm q N bs sn sub ab col dd hdct k0 k1 k2 k3 k5 newId, K.lookup C = some (excClassObj nm q C N bs [.type "object"] hdct sn sub ab col dd k0 k1 k2 k3 k5 newId) ∧ PySem.W.nsOkIn K N = true ∧ PySem.W.nsIn K N "__ne__" = some none ∧ PySem.W.nsIn K N "__eq__" = some (some (.ref f))
  fn : PySem.W.isFn K (.ref f) = true
theorem ns_some_of {K : PySem.W.Frag} {h : Heap} {N : Addr} {mg : Str → Option Value} {n : Str} {v : Value} (X : K.In h) (G : h.Ns N mg) (e : PySem.W.nsIn K N n = some (some v)) : mg n = some v := by
  obtain ⟨o, es, ep, ho, hd, _, hf⟩ := G
  unfold PySem.W.nsIn at e
  split at e
  · rename_i c d es' n' sl q
    have := X _ _ q
    rw [ho] at this
    cases this
    cases hd
    split at e
    · rename_i en he
      cases e
      rw [← hf]
      unfold nsFind findBy
      rw [← Array.find?_toList, he]
      rfl
    · split at e <;> cases e
  · cases e
theorem NeC.own {K : PySem.W.Frag} {C f x : Addr} {h : Heap} (n : NeC K C f) (X : K.In h) {o : Obj} (hx : h.get? x = some o) (hc : o.cls = .ref C) : h.OwnEqNoNe x C f "object" [.type "object"] := by
  obtain ⟨nm, q, N, bs, sn, sub, ab, col, dd, hdct, k0, k1, k2, k3, k5, newId, hC, hN, h1, h2⟩ := n.cl
  have hfn := n.fn
  have G : h.Ns N (h.nsMap N) := .of_isNs (PySem.W.isNs_of_in X hN)
  have ef : PySem.W.typeIn K (.ref f) = some (.type "function") := by
    unfold PySem.W.isFn at hfn
    exact beq_iff_eq.mp hfn
  obtain ⟨of, hof, hcf⟩ := Option.map_eq_some_iff.mp (show (K.lookup f).map (·.cls) = some (.type "function") from ef)
  exact ⟨o, of, nm, q, N, bs, hdct, sn, sub, ab, col, dd, k0, k1, k2, k3, k5, newId, h.nsMap N, _, hx, hc, X _ _ hC, G, ns_some_of X G h2, X _ _ hof, hcf, PySem.F.cmp_object.mro, PySem.F.cmp_object.eq.lookup, PySem.W.ns_none_of X G h1⟩
section
variable {X : Cx} {n : Nat} {CX : CXT} {C f : Addr} {fd : FuncData} {ps : List Str} {R : Addr → Addr → Hp → Prop} {E : XK}
/-- x != y, where the own == says that they are equal -/
def rNeG (D : Eqv) : R2 := fun x y H Q => D x y H ∧ ∀ H', Ext H H' → Q (.bl false) H'
theorem op_neG (F : FnOk X.prog X.w X.K X.mg X.base CX n f fd ps (spEq R)) (N : NeC X.K C f) (hb : Binds X.K fd ps []) (hx : Passes CX X E) (hr : Room (n + 1) X.A) : OpR X (compareOp .NotEq) (rNeG (DIns C R)) := by
  intro pins s σ H x y v u Q I rx ry hq
  obtain ⟨⟨a, b, dx, dy, fs, gs, rfl, rfl, ha, hb', hrr⟩, q⟩ := hq
  cases rx
  cases ry
  obtain ⟨mA, J, _⟩ := ins_get I.hok ha
  obtain ⟨mB, J', _⟩ := ins_get I.hok hb'
  obtain ⟨od, J, _⟩ := J.look
  obtain ⟨od', J', _⟩ := J'.look
  refine compareOp_ne_ownEq PySem.F.cmp_object (N.own I.kIn J.at_ J.cls) J'.at_ J'.cls (hu_of hr) ?_
  have hr1 : Room n X.A.in1 := hr.in1
  have hsp : spEq R [.ref a, .ref b] H (fun v H' => v = .bl true ∧ Ext H H') E := ⟨a, b, rfl, hrr, fun H' e => ⟨rfl, e⟩⟩
  have e0 : Env0 X.prog X.w X.K X.mg X.base X.A.in1 X.stack s H := by
    have e := I.env0
    exact ⟨e.frames, e.mod, e.bs, e.bsz, e.funs, e.frf, e.hok, e.bare⟩
  have hl := F.len _ _ _ _ hsp
  have r2 : Vals [V.ref a, V.ref b] [Value.ref a, Value.ref b] := .cons rfl (.cons rfl .nil)
  refine wpAny_call (codeAny_mono (F.run X.A.in1 X.stack s H ⟨[.ref a, .ref b], []⟩ [.ref a, .ref b] [.ref a, .ref b] _ E hr1 e0 (by
    have := hb s [.ref a, .ref b] I.kIn (by simpa using hl)
    simpa using this) r2 hsp) fun r s' hq => ?_)
  cases r with
  | error e => exact hx pins σ H s e s' I hq
  | ok fl =>
    cases fl with
    | ret w =>
      obtain ⟨z, H', I', rz, ez, ex⟩ := I.after hq
      subst ez
      cases rz
      exact ⟨true, rfl, .bl false, H', I', rfl, q H' ex⟩
    | next => exact False.elim hq
    | brk => exact False.elim hq
    | cont => exact False.elim hq
end
end L2
namespace K10
open PySem PySem.Spec PyProof.Rows L2
/-- two lines alike -/
def Alike (K : PySem.W.Frag) : Addr → Addr → Hp → Prop := fun a b H => ∃ p c s : Int, LineAt K H (.ref a) p c s ∧ LineAt K H (.ref b) p c s
section
variable {P : Program} {w : World} {K : PySem.W.Frag} {mg : Str → Option Value} {base : Heap} {fd : FuncData}
theorem scEq : FnScope ["self", "other"] ["self", "other"] (defScope (sLine 4)) := ⟨rfl, rfl, rfl, by decide +kernel, rfl, by decide +kernel, by decide +kernel⟩
theorem ok_eq {q : Str} (F : FnM K "__eq__" q 4 fd) (Z : Free mg) (gL : mg "Line" = some (.ref (cL K))) (L : LC K) (I : LI K) : FnOk P w K mg base CX0 1 (mL K "__eq__") fd ["self", "other"] (spEq (Alike K)) := by
  refine F.ok scEq (fun vs H Q E h => ?_) (fun cdv A outer s H vs Q E hr h => ?_)
  · obtain ⟨a, b, rfl, _⟩ := h
    rfl
  · obtain ⟨a, b, rfl, ⟨p, c, z, ⟨a', dx, fs, e1, ha, p1, c1, s1, _⟩, ⟨b', dy, gs, e2, hb, p2, c2, s2, _⟩⟩, k⟩ := h
    cases e1
    cases e2
    refine ⟨_, PSs.nox (pss_one (ps_ret (pe_and (pe_callB call_isi (by rfl) Z.isi (by decide +kernel) (pa_cons (pv 1) (pa_cons (pe_glob (v := .ref (cL K)) (by rfl) gL rfl) pa_nil)))
      (pe_and (pe_cmpR op_eq (pe_fld (pv 0) rfl) (pe_fld (pv 1) rfl) (nomark _)) (pe_and (pe_cmpR op_eq (pe_fld (pv 0) rfl) (pe_fld (pv 1) rfl) (nomark _)) (pe_one (pe_cmpR op_eq (pe_fld (pv 0) rfl) (pe_fld (pv 1) rfl) (nomark _)))))))), ?_⟩
    refine ⟨_, rfl, .ref b, .ref (cL K), .ref (cL K), .ref (cL K), true, rfl, .own _, .base (.ins hb I.cl I.ha I.hn I.ht I.hm), ?_, true, rfl, iteT ?_⟩
    · unfold PySem.W.kitOne
      rw [if_pos (beq_self_eq_true _)]
    refine ⟨_, rfl, a, _, dx, fs, _, rfl, ha, L.cl, L.nP, p1, _, rfl, b, _, dy, gs, _, rfl, hb, L.cl, L.nP, p2, rfl, _, rfl, ?_⟩
    rw [decide_eq_true (rfl : V.int p = V.int p)]
    refine iteT ⟨_, rfl, a, _, dx, fs, _, rfl, ha, L.cl, L.nC, c1, _, rfl, b, _, dy, gs, _, rfl, hb, L.cl, L.nC, c2, rfl, _, rfl, ?_⟩
    rw [decide_eq_true (rfl : V.int c = V.int c)]
    refine iteT ⟨_, rfl, a, _, dx, fs, _, rfl, ha, L.cl, L.nS, s1, _, rfl, b, _, dy, gs, _, rfl, hb, L.cl, L.nS, s2, rfl, ?_⟩
    rw [decide_eq_true (rfl : V.int z = V.int z)]
    exact k H Ext.rfl'
end
end K10
set_option Elab.async false
set_option linter.all false
set_option maxRecDepth 100000
set_option maxHeartbeats 8000000
namespace K10
open PySem PySem.Spec PyProof.Rows L2
theorem mixes_nine {m : Int} (h0 : 1 ≤ m) (h : m < 2 ^ 248) : mixes m ≤ 9 := by
  have e : Builtin.Int.intBits m ≤ 248 := PyProof.Rows.intBits_le (by omega)
  unfold mixes
  omega
theorem log_248 {m : Int} (h0 : 1 ≤ m) (h : m < 2 ^ 248) : m.natAbs.log2 < 9000 := by
  have e : m.natAbs < 2 ^ 248 := by omega
  have := PySem.Flt.log2_lt_of (by decide) e
  omega
theorem flatI (l : List Int) (j : Nat) : (l.map V.int)[j]? = (l[j]?).map V.int := List.getElem?_map
/-- the numbers that are asked -/
theorem num_ok {K : PySem.W.Frag} {σ : L2.St} {H : Hp} {Q : VK} {pu : Addr} {m : Int} {M : Nat} (e1 : σ[1]? = some (some (.ref pu))) (e6 : σ[6]? = some (some (.int m))) (hl : σ.length = 14) (m1 : 1 ≤ m) (m2 : m < 2 ^ 248) (hP : Purse H pu M) (hM : M ≤ 2 ^ 38)
    (k : ∀ (q : Addr) (ns : List Int) (H' : Hp) (M' : Nat), q ≠ pu → H q = none → But pu H H' → Purse H' pu M' → M' ≤ M + 50 → H' q = some (.lst (ns.map V.int)) → ns.length ≤ 60 → (∀ x ∈ ns, 0 ≤ x ∧ x < m) → Q (.ref q) H') :
    tIf (tTest (tOp (rI0 fun i j => .bl (decide (i < j))) (tVar 6) (tC (.int 60)))) (tLstRg (tRg1 (tVar 6))) (tOp rCat (tLc (iRng1 (tCons (tC (.int 5)) tNil)) (gName 8) tYes (tCall spDraw [] E0 (tCons (tVar 1) (tCons (tVar 6) tNil))) [8]) (tLst (tCons (tC (.int 0)) (tCons (tOp (rI0 fun i j => .int (i - j)) (tVar 6) (tC (.int 1))) tNil)))) σ H Q := by
  have w : ∀ j, j ≠ 8 → j < 14 → ∀ (v : V), (((wipe σ [8]).set 8 (some v))[j]? = σ[j]?) := fun j hj hj2 v => by
    rw [List.getElem?_set_ne (fun e => hj e.symm)]
    show ((wipe σ []).set 8 none)[j]? = _
    rw [List.getElem?_set_ne (fun e => hj e.symm)]
    rfl
  have ww : ∀ v : V, wipe ((wipe σ [8]).set 8 (some v)) [8] = wipe σ [8] := fun v => by
    show (((σ.set 8 none).set 8 (some v)).set 8 none) = σ.set 8 none
    rw [List.set_set, List.set_set]
  have mx := mixes_nine m1 m2
  refine ⟨_, e6, _, _, rfl, rfl, _, rfl, ?_⟩
  refine ite2 (fun h => ?_) (fun h => ?_)
  · have hm : m < 60 := of_decide_eq_true h
    refine ⟨_, e6, m, rfl, RgOk.of_le (by omega) (by omega) (by omega) (by omega), fun q hq => ?_⟩
    have er : rgV 0 m = ((List.range m.toNat).map fun i : Nat => (i : Int)).map V.int := by
      unfold rgV
      rw [List.map_map, Int.sub_zero]
      refine List.map_congr_left fun i _ => ?_
      show V.int (0 + (i : Int)) = V.int (i : Int)
      rw [Int.zero_add]
    refine k q _ _ M (fresh_ne hP hq) hq (But.of (Same.updf hq)) (hP.same (Same.updf hq)) (by omega) (by rw [upd_same, er]) (by rw [List.length_map, List.length_range]; omega) fun x hx => ?_
    rw [List.mem_map] at hx
    obtain ⟨i, hi, rfl⟩ := hx
    rw [List.mem_range] at hi
    omega
  · refine ⟨5, rfl, by decide, by decide, fun D hD => ?_⟩
    have nD : D ≠ pu := fresh_ne hP hD
    refine lc_it (walk_range (lo := 0) (n := 5)) (fun i H' => But pu H H' ∧ (∃ M', Purse H' pu M' ∧ M' ≤ M + 9 * i) ∧ ∃ xs : List Int, H' D = some (.lst (xs.map V.int)) ∧ xs.length = i ∧ ∀ x ∈ xs, 0 ≤ x ∧ x < m)
      ⟨But.of (Same.updf hD), ⟨M, hP.same (Same.updf hD), by omega⟩, [], upd_same, rfl, fun x h => nomatch h⟩ (fun _ _ _ _ => trivial) ?_ ?_
    · rintro i v H2 H3 hi ⟨bH, ⟨M2, P2, hM2⟩, xs, hxs, hlx, hb⟩ ⟨rfl, hv⟩
      refine ⟨ww _, ?_⟩
      refine ⟨_, (w 1 (by decide) (by decide) _).trans e1, _, (w 6 (by decide) (by decide) _).trans e6, pu, m, M2, rfl, m1, log_248 m1 m2, P2, by omega, by omega, fun r H4 r0 r1 b4 P4 => ?_⟩
      refine ⟨_, b4 _ _ nD hxs, ?_, fun c oo nc ec => ?_, ⟨_, Purse.same' ?_ P4, ?_⟩, xs ++ [r], ?_, ?_, ?_⟩
      · rw [List.length_map]
        have : (2000 : Nat) ≤ sizeLine := by decide
        omega
      · rw [upd_ne (ne_of_none ec hD)]
        exact b4 _ _ nc (bH _ _ nc ec)
      · exact upd_ne (Ne.symm nD)
      · omega
      · rw [upd_same, List.map_append]
        rfl
      · rw [List.length_append, hlx]
        rfl
      · intro x hx
        rcases List.mem_append.mp hx with h | h
        · exact hb x h
        · rw [List.mem_singleton] at h
          rw [h]
          exact ⟨r0, r1⟩
    · rintro H' ⟨bH, ⟨M', P', hM'⟩, xs, hxs, hlx, hb⟩
      refine ⟨_, e6, _, _, rfl, rfl, (by show 2 ≤ sizeLine; decide), fun l hl => ?_⟩
      have sl : Same H' (upd H' l (.lst [.int 0, .int (m - 1)])) := Same.updf hl
      refine ⟨D, l, _, _, rfl, rfl, sl _ _ hxs, upd_same, ?_, fun q hq => ?_⟩
      · rw [List.length_map]
        show xs.length + 2 ≤ sizeLine
        have : (2000 : Nat) ≤ sizeLine := by decide
        omega
      have sq : Same (upd H' l (.lst [.int 0, .int (m - 1)])) (upd (upd H' l (.lst [.int 0, .int (m - 1)])) q (.lst (xs.map V.int ++ [.int 0, .int (m - 1)]))) := Same.updf hq
      have b3 := bH.trans (But.of (sl.trans sq))
      have P3 := P'.same (sl.trans sq)
      have nq : q ≠ pu := fresh_ne (P'.same sl) hq
      refine k q (xs ++ [0, m - 1]) _ M' nq (bH.none nq (none_back sl hq)) b3 P3 (by omega) ?_ ?_ fun x hx => ?_
      · rw [upd_same, List.map_append]
        rfl
      · rw [List.length_append]
        show xs.length + 2 ≤ 60
        omega
      · rcases List.mem_append.mp hx with h | h
        · exact hb x h
        · simp only [List.mem_cons, List.not_mem_nil, or_false] at h
          rcases h with rfl | rfl <;> omega
theorem noDiv (p : Nat) (h : ∀ d : Nat, d < p → 2 ≤ d → p % d ≠ 0) : ∀ d : Int, 2 ≤ d → d < (p : Int) → (p : Int) % d ≠ 0 := fun d h1 h2 e => by
  obtain ⟨k, rfl⟩ : ∃ k : Nat, d = k := ⟨d.toNat, by omega⟩
  exact h k (by omega) (by omega) (by omega)
theorem prime8 {p : Int} (h : p ∈ P8) : PrimeL p := by
  simp only [P8, List.mem_cons, List.not_mem_nil, or_false] at h
  rcases h with rfl | rfl | rfl | rfl | rfl | rfl | rfl | rfl
  · exact .inr ⟨by decide, by decide, noDiv 3 (by decide)⟩
  · exact .inr ⟨by decide, by decide, noDiv 5 (by decide)⟩
  · exact .inr ⟨by decide, by decide, noDiv 7 (by decide)⟩
  · exact .inr ⟨by decide, by decide, noDiv 11 (by decide)⟩
  · exact .inr ⟨by decide, by decide, noDiv 13 (by decide)⟩
  · exact .inr ⟨by decide, by decide, noDiv 31 (by decide)⟩
  · exact .inr ⟨by decide, by decide, noDiv 997 (by decide +kernel)⟩
  · exact .inl rfl
theorem pow_small {p : Int} {n s : Nat} (S : Sizes p n s) : 1 ≤ p ^ s ∧ p ^ s < 2 ^ 248 := by
  have hp := P8_lt S.pr
  have h1 := S.sn
  have h2 := S.n15
  have hs : s ≤ 4 := by omega
  have h0 : 0 < p ^ s := Int.pow_pos (by omega)
  refine ⟨by omega, ?_⟩
  have a1 : p * p < 2 ^ 124 := by
    have x1 : p * p ≤ p * (2 ^ 62) := Int.mul_le_mul_of_nonneg_left (by omega) (by omega)
    have x2 : p * 2 ^ 62 < 2 ^ 62 * 2 ^ 62 := Int.mul_lt_mul_of_pos_right hp.2 (by decide)
    have x3 : (2 : Int) ^ 62 * 2 ^ 62 = 2 ^ 124 := by decide
    omega
  have a0 : 0 < p * p := Int.mul_pos (by omega) (by omega)
  have a2 : (p * p) * (p * p) < 2 ^ 248 := by
    have x1 : (p * p) * (p * p) ≤ (p * p) * (2 ^ 124) := Int.mul_le_mul_of_nonneg_left (by omega) (by omega)
    have x2 : (p * p) * 2 ^ 124 < 2 ^ 124 * 2 ^ 124 := Int.mul_lt_mul_of_pos_right a1 (by decide)
    have x3 : (2 : Int) ^ 124 * 2 ^ 124 = 2 ^ 248 := by decide
    omega
  have e4 : p ^ 4 = (p * p) * (p * p) := by grind
  have e5 : p ^ s ≤ p ^ 4 := by
    obtain ⟨u, hu⟩ : ∃ u, 4 = s + u := ⟨4 - s, by omega⟩
    rw [hu, Int.pow_add]
    have h3 : 0 < p ^ u := Int.pow_pos (by omega)
    have := Int.mul_le_mul_of_nonneg_left (show 1 ≤ p ^ u by omega) (Int.le_of_lt h0)
    rw [Int.mul_one] at this
    exact this
  omega
end K10
set_option Elab.async false
set_option linter.all false
set_option maxRecDepth 100000
set_option maxHeartbeats 16000000
/-! The law. -/
namespace K10
open PySem PySem.Spec PyProof.Rows L2
abbrev sLaw : Stmt := top 52
abbrev NLaw : List Str := ["_law_script", "_law_purse_here", "_law_turn", "_law_sizes", "_law_line", "_law_fresh", "_law_many", "_law_at", "_law_late", "_law_numbers", "_law_number", "_law_changed", "_law_unread", "_law_told"]
theorem scLaw : FnScope NLaw ["_law_script"] (defScope sLaw) := ⟨rfl, rfl, rfl, by decide +kernel, rfl, by decide +kernel, by decide +kernel⟩
def spLaw (K : PySem.W.Frag) : Sp := fun vs H Q _ => ∃ (a : Addr) (ns : List Int), vs = [.ref a] ∧ SqL K H a (ns.map V.int) ∧ ∀ H', Q (.bl true) H'
theorem eqs_five {H : Hp} {a b q1 q2 p1 p2 : Addr} {i : Int} {x y : Bool} (ha : H a = some (.lst [.ref q1, .ref q2, .int i, .bl x, .bl y])) (hb : H b = some (.lst [.ref p1, .ref p2, .int i, .bl x, .bl y])) (h1 : Eqs H 1 (.ref q1) (.ref p1)) (h2 : Eqs H 1 (.ref q2) (.ref p2)) : Eqs H 2 (.ref a) (.ref b) := by
  refine .inr ⟨a, b, _, _, rfl, rfl, ha, hb, rfl, Nat.le_of_ble_eq_true rfl, fun t u v e1 e2 => ?_⟩
  match t with
  | 0 =>
    obtain rfl := Option.some.inj e1
    obtain rfl := Option.some.inj e2
    exact h1
  | 1 =>
    obtain rfl := Option.some.inj e1
    obtain rfl := Option.some.inj e2
    exact h2
  | 2 =>
    obtain rfl := Option.some.inj e1
    obtain rfl := Option.some.inj e2
    exact .inl ⟨rfl, .inr (.inr ⟨_, rfl⟩)⟩
  | 3 =>
    obtain rfl := Option.some.inj e1
    obtain rfl := Option.some.inj e2
    exact .inl ⟨rfl, .inr (.inl ⟨_, rfl⟩)⟩
  | 4 =>
    obtain rfl := Option.some.inj e1
    obtain rfl := Option.some.inj e2
    exact .inl ⟨rfl, .inr (.inl ⟨_, rfl⟩)⟩
  | t + 5 => simp at e1
/-- a line made: what stood stands -/
theorem made_line {H H' : Hp} {x dx : Addr} {o o' : HO} (hx : H x = none) (hd : H dx = none) (k : ∀ b oo, b ≠ x → (upd (upd H dx o) x o') b = some oo → H' b = some oo) : Same H H' := fun b oo e => by
  have n1 : b ≠ x := ne_of_none e hx
  have n2 : b ≠ dx := ne_of_none e hd
  exact k b oo n1 (by rw [upd_ne n1, upd_ne n2]; exact e)
theorem pow_part {p : Int} {n s i : Nat} (S : Sizes p n s) (hi : i ≤ s) : 0 ≤ p ^ i ∧ p ^ i < 2 ^ 248 := by
  have hp := P8_lt S.pr
  have h1 := pow_small S
  have h0 : 0 < p ^ i := Int.pow_pos (by omega)
  have e5 : p ^ i ≤ p ^ s := by
    obtain ⟨u, hu⟩ : ∃ u, s = i + u := ⟨s - i, by omega⟩
    rw [hu, Int.pow_add]
    have h3 : 0 < p ^ u := Int.pow_pos (by omega)
    have := Int.mul_le_mul_of_nonneg_left (show 1 ≤ p ^ u by omega) (Int.le_of_lt h0)
    rw [Int.mul_one] at this
    exact this
  omega
section
variable {P : Program} {w : World} {K : PySem.W.Frag} {mg : Str → Option Value} {base : Heap} {f fPs fDL fE fD fO fPR fH fPO fNO : Addr} {fd dPs dDL dE dD dO dPR dH dPO dNO dI dQ : FuncData}
theorem ok_law (F : FnP K "law" sLaw f fd) (Z : Free mg)
    (gPs : mg "_law_purses" = some (.ref fPs)) (FPs : FnP K "_law_purses" sPurses fPs dPs) (GPs : FnOk P w K mg base CX0 2 fPs dPs ["_law_script", "_law_few"] (spPurses K))
    (gDL : mg "_law_drawn_line" = some (.ref fDL)) (FDL : FnP K "_law_drawn_line" sDL fDL dDL) (GDL : FnOk P w K mg base CX0 4 fDL dDL ["_law_purse_here"] (spDL K))
    (gE : mg "_law_exact" = some (.ref fE)) (FE : FnP K "_law_exact" sExact fE dE) (GE : ∀ n : Nat, FnOk P w K mg base CX0 (n + 1) fE dE ["_law_mine", "_law_theirs"] (spExact n))
    (gD : mg "_law_draw" = some (.ref fD)) (FD : FnP K "_law_draw" sDraw fD dD) (GD : FnOk P w K mg base CX0 2 fD dD ["_law_purse_here", "_law_many"] spDraw)
    (gO : mg "_law_one_of" = some (.ref fO)) (FO : FnP K "_law_one_of" sOne fO dO) (GO : FnOk P w K mg base CX0 3 fO dO ["_law_purse_here", "_law_some"] (spOne K))
    (gPR : mg "_law_page_right" = some (.ref fPR)) (FPR : FnP K "_law_page_right" sPR fPR dPR) (GPR : FnOk P w K mg base CX0 6 fPR dPR ["_law_purse_here", "_law_line", "_law_sizes", "_law_number"] (spPR K))
    (gH : mg "holds" = some (.ref fH)) (FH : FnP K "holds" sHolds fH dH) (GH : FnOk P w K mg base CX0 5 fH dH ["line", "changed", "unread"] (spHolds K))
    (gPO : mg "page_of" = some (.ref fPO)) (FPO : FnP K "page_of" sPageOf fPO dPO) (GPO : FnOk P w K mg base CX0 5 fPO dPO ["line", "number"] (spPageOf K))
    (gNO : mg "number_of" = some (.ref fNO)) (FNO : FnP K "number_of" sNumOf fNO dNO) (GNO : FnOk P w K mg base CX0 5 fNO dNO ["line", "page"] (spNumOf K))
    (gL : mg "Line" = some (.ref (cL K))) (ML : Mk K (cL K) (mL K "__init__")) (GI : FnOk P w K mg base CX0 4 (mL K "__init__") dI ["self", "prime", "cells", "size"] (spInit K)) (bI : Binds K dI ["self", "prime", "cells", "size"] [])
    (NE : NeC K (cL K) (mL K "__eq__")) (GQ : FnOk P w K mg base CX0 1 (mL K "__eq__") dQ ["self", "other"] (spEq (Alike K))) (bQ : Binds K dQ ["self", "other"] []) :
    FnOk P w K mg base CX0 7 f fd ["_law_script"] (spLaw K) := by
  have bPs : Binds K dPs ["_law_script", "_law_few"] [] := FPs.bindsN fun _ _ _ _ _ _ us hl => match us, hl with | [_, _], _ => rfl
  have bDL : Binds K dDL ["_law_purse_here"] [] := FDL.bindsN fun _ _ _ _ _ _ us hl => match us, hl with | [_], _ => rfl
  have bE : Binds K dE ["_law_mine", "_law_theirs"] [] := FE.bindsN fun _ _ _ _ _ _ us hl => match us, hl with | [_, _], _ => rfl
  have bD : Binds K dD ["_law_purse_here", "_law_many"] [] := FD.bindsN fun _ _ _ _ _ _ us hl => match us, hl with | [_, _], _ => rfl
  have bO : Binds K dO ["_law_purse_here", "_law_some"] [] := FO.bindsN fun _ _ _ _ _ _ us hl => match us, hl with | [_, _], _ => rfl
  have bPR : Binds K dPR ["_law_purse_here", "_law_line", "_law_sizes", "_law_number"] [] := FPR.bindsN fun _ _ _ _ _ _ us hl => match us, hl with | [_, _, _, _], _ => rfl
  have bH : Binds K dH ["line", "changed", "unread"] [] := FH.bindsN fun _ _ _ _ _ _ us hl => match us, hl with | [_, _, _], _ => rfl
  have bPO : Binds K dPO ["line", "number"] [] := FPO.bindsN fun _ _ _ _ _ _ us hl => match us, hl with | [_, _], _ => rfl
  have bNO : Binds K dNO ["line", "page"] [] := FNO.bindsN fun _ _ _ _ _ _ us hl => match us, hl with | [_, _], _ => rfl
  refine F.ok scLaw (fun vs H Q E h => ?_) (fun cdv A outer s H vs Q E hr h => ?_)
  · obtain ⟨a, ns, rfl, _⟩ := h
    rfl
  · obtain ⟨a, ns, rfl, hS, k⟩ := h
    have nd := scLaw.nd
    have hr1 : Room 1 _ := hr.mono (by decide)
    have hr2 : Room 2 _ := hr.mono (by decide)
    have hr3 : Room 3 _ := hr.mono (by decide)
    have hr4 : Room 4 _ := hr.mono (by decide)
    have hr5 : Room 5 _ := hr.mono (by decide)
    refine ⟨_, PSs.nox (pss_cons (ps_for PassesOwn.never rfl (pi_list (pe_call GPs (hr.mono (by decide)) rfl gPs FPs.kp bPs .nil pass0 (pa_cons (pv 0) (pa_cons (pe_int) (pa_nil))))) (pg_name (i := 1) nd rfl (Or.inr rfl))
        (pss_one (ps_for PassesOwn.never rfl (pi_range1 (by rfl) Z.range (pa_cons (pe_int) (pa_nil))) (pg_name (i := 2) nd rfl (Or.inl rfl))
        (pss_cons (ps_set (i := 3) nd rfl (Or.inl rfl) (pe_call GDL (hr.mono (by decide)) rfl gDL FDL.kp bDL .nil pass0 (pa_cons (pv 1) (pa_nil))))
      (pss_cons (ps_par (i := 4) (j := 5) rfl nd rfl rfl (by decide) rfl rfl (pa_cons (pe_make ML GI hr5 rfl gL bI .nil pass0 (pa_cons (pe_ix ix_list (pv 3) pe_int (fun _ _ => rfl)) (pa_cons (pe_ix ix_list (pv 3) pe_int (fun _ _ => rfl)) (pa_cons (pe_ix ix_list (pv 3) pe_int (fun _ _ => rfl)) (pa_nil))))) (pa_cons (pe_make ML GI hr5 rfl gL bI .nil pass0 (pa_cons (pe_ix ix_list (pv 3) pe_int (fun _ _ => rfl)) (pa_cons (pe_ix ix_list (pv 3) pe_int (fun _ _ => rfl)) (pa_cons (pe_ix ix_list (pv 3) pe_int (fun _ _ => rfl)) (pa_nil))))) (pa_nil))) rfl)
      (pss_cons (ps_set (i := 6) nd rfl (Or.inr rfl) (pe_int))
      (pss_cons (ps_for PassesOwn.never rfl (pi_range1 (by rfl) Z.range (pa_cons (pe_ix ix_list (pv 3) (pe_int) (fun _ _ => rfl)) (pa_nil))) (pg_name (i := 7) nd rfl (Or.inl rfl))
        (pss_one (ps_set (i := 6) nd rfl (Or.inr rfl) (pe_op op_mulW (pv 6) (pe_ix ix_list (pv 3) (pe_int) (fun _ _ => rfl))))))
      (pss_cons (ps_set (i := 9) nd rfl (Or.inl rfl) (pe_ifExp (pt_cmpR op_lt (pv 6) (pe_int) (nomark _)) (pe_listRg rfl (by rfl) Z.tlist (prg_1 (by rfl) Z.range (pv 6))) (pe_op op_cat (pe_lc (own := [("_law_late", 8)]) (g := gName 8) (tt := tYes) (te := tCall spDraw [] E0 (tCons (tVar 1) (tCons (tVar 6) (tNil)))) (by rfl) nd (pi_range1 (by rfl) Z.range (pa_cons (pe_int) (pa_nil)))
          (blkOk_by (own := [("_law_late", 8)]) (N := NLaw) (sc := defScope sLaw) (by decide +kernel)) (fun _ _ _ _ _ => pg_name (i := 8) nd rfl (Or.inl rfl)) (fun _ _ _ _ _ => pts_nil)
          (fun _ _ _ _ _ => pe_call GD (hr.mono (by decide)) rfl gD FD.kp bD .nil pass0 (pa_cons (pv 1) (pa_cons (pv 6) (pa_nil))))) (pe_lst (pa_cons (pe_int) (pa_cons (pe_op op_sub (pv 6) (pe_int)) (pa_nil)))))))
      (pss_cons (ps_for PassesOwn.never rfl (pi_list (pv 9)) (pg_name (i := 10) nd rfl (Or.inl rfl))
        (pss_one (ps_if (pt_not (pt_val (pe_call GPR (hr.mono (by decide)) rfl gPR FPR.kp bPR .nil pass0 (pa_cons (pv 1) (pa_cons (pe_call GO (hr.mono (by decide)) rfl gO FO.kp bO .nil pass0 (pa_cons (pv 1) (pa_cons (pe_lst (pa_cons (pv 4) (pa_cons (pv 5) (pa_nil)))) (pa_nil)))) (pa_cons (pv 3) (pa_cons (pv 10) (pa_nil)))))))) (pss_one (ps_ret (pe_bl))) (pss_nil))))
      (pss_cons (ps_for PassesOwn.never rfl (pi_range1 (by rfl) Z.range (pa_cons (pe_int) (pa_nil))) (pg_name (i := 8) nd rfl (Or.inl rfl))
        (pss_cons (ps_par (i := 11) (j := 12) rfl nd rfl rfl (by decide) rfl rfl (pa_cons (pe_call GD (hr.mono (by decide)) rfl gD FD.kp bD .nil pass0 (pa_cons (pv 1) (pa_cons (pe_int) (pa_nil)))) (pa_cons (pe_call GD (hr.mono (by decide)) rfl gD FD.kp bD .nil pass0 (pa_cons (pv 1) (pa_cons (pe_int) (pa_nil)))) (pa_nil))) rfl)
      (pss_one (ps_if (pt_not (pt_val (pe_call (GE 0) (hr.mono (by decide)) rfl gE FE.kp bE .nil pass0 (pa_cons (pe_call GH (hr.mono (by decide)) rfl gH FH.kp bH .nil pass0 (pa_cons (pv 4) (pa_cons (pv 11) (pa_cons (pv 12) (pa_nil))))) (pa_cons (pe_cmpR op_gt (pe_ix ix_list (pv 3) (pe_int) (fun _ _ => rfl)) (pe_op op_add (pe_op op_add (pe_op op_mul (pe_int) (pe_op op_sub (pe_ix ix_list (pv 3) (pe_int) (fun _ _ => rfl)) (pe_int))) (pe_op op_mul (pe_int) (pv 11))) (pv 12)) (nomark _)) (pa_nil)))))) (pss_one (ps_ret (pe_bl))) (pss_nil)))))
      (pss_one (ps_if (pt_cmpR (op_neG GQ NE bQ pass0 hr2) (pv 4) (pv 5) (nomark _)) (pss_one (ps_ret (pe_bl))) (pss_nil)))))))))))))
      (pss_cons (ps_set (i := 4) nd rfl (Or.inl rfl) (pe_make ML GI hr5 rfl gL bI .nil pass0 (pa_cons (pe_int) (pa_cons (pe_int) (pa_cons (pe_int) (pa_nil))))))
      (pss_cons (ps_set (i := 13) nd rfl (Or.inl rfl) (pe_lst (pa_cons (pe_call GPO (hr.mono (by decide)) rfl gPO FPO.kp bPO .nil pass0 (pa_cons (pv 4) (pa_cons (pe_int) (pa_nil)))) (pa_cons (pe_call GPO (hr.mono (by decide)) rfl gPO FPO.kp bPO .nil pass0 (pa_cons (pv 4) (pa_cons (pe_int) (pa_nil)))) (pa_cons (pe_call GNO (hr.mono (by decide)) rfl gNO FNO.kp bNO .nil pass0 (pa_cons (pv 4) (pa_cons (pe_lst (pa_cons (pe_int) (pa_cons (pe_int) (pa_cons (pe_int) (pa_cons (pe_int) (pa_cons (pe_int) (pa_cons (pe_int) (pa_cons (pe_int) (pa_cons (pe_int) (pa_nil)))))))))) (pa_nil)))) (pa_cons (pe_call GH (hr.mono (by decide)) rfl gH FH.kp bH .nil pass0 (pa_cons (pv 4) (pa_cons (pe_int) (pa_cons (pe_int) (pa_nil))))) (pa_cons (pe_call GH (hr.mono (by decide)) rfl gH FH.kp bH .nil pass0 (pa_cons (pv 4) (pa_cons (pe_int) (pa_cons (pe_int) (pa_nil))))) (pa_nil))))))))
      (pss_one (ps_ret (pe_call (GE 2) (hr.mono (by decide)) rfl gE FE.kp bE .nil pass0 (pa_cons (pv 13) (pa_cons (pe_lst (pa_cons (pe_lst (pa_cons (pe_int) (pa_cons (pe_int) (pa_cons (pe_int) (pa_cons (pe_int) (pa_cons (pe_int) (pa_cons (pe_int) (pa_cons (pe_int) (pa_cons (pe_int) (pa_nil)))))))))) (pa_cons (pe_lst (pa_cons (pe_int) (pa_cons (pe_int) (pa_cons (pe_int) (pa_cons (pe_int) (pa_cons (pe_int) (pa_cons (pe_int) (pa_cons (pe_int) (pa_cons (pe_int) (pa_nil)))))))))) (pa_cons (pe_int) (pa_cons (pe_bl) (pa_cons (pe_bl) (pa_nil))))))) (pa_nil))))))))), ?_⟩
    refine ⟨_, rfl, a, ns, rfl, hS, fun q pu H1 s1 hp0 hq0 npq e1 P1 => ?_⟩
    refine ⟨q, rfl, ⟨_, SqL.of e1⟩, ?_⟩
    refine for_list (xs := [.ref pu]) (fun i σ H2 => H2 q = some (.lst [.ref pu]) ∧ (∃ v1 v2 v3 v4 v5 v6 v7 v8 v9 v10 v11 v12 v13, σ = [some (.ref a), v1, v2, v3, v4, v5, v6, v7, v8, v9, v10, v11, v12, v13]) ∧ (i = 0 → Purse H2 pu 0)) ⟨e1, ⟨_, _, _, _, _, _, _, _, _, _, _, _, _, rfl⟩, fun _ => P1⟩ (fun i σ H2 _ hh => SqL.of hh.1) ?_ ?_
    · rintro i y σ Hx hy ⟨ex, ⟨v1, v2, v3, v4, v5, v6, v7, v8, v9, v10, v11, v12, v13, rfl⟩, hz0⟩
      obtain ⟨rfl, ry⟩ : i = 0 ∧ y = .ref pu := by
        cases i with
        | zero => exact ⟨rfl, (Option.some.inj hy).symm⟩
        | succ j => simp at hy
      subst ry
      have Px := hz0 rfl
      have nq : q ≠ pu := Ne.symm npq
      refine ⟨4, rfl, by decide, by decide, ?_⟩
      refine for_range (lo := 0) (n := 4) (fun t σ H2 => H2 q = some (.lst [.ref pu]) ∧ (∃ v2 v3 v4 v5 v6 v7 v8 v9 v10 v11 v12 v13, σ = [some (.ref a), some (.ref pu), v2, v3, v4, v5, v6, v7, v8, v9, v10, v11, v12, v13]) ∧ ∃ M, Purse H2 pu M ∧ M ≤ 10000 * t) ⟨ex, ⟨_, _, _, _, _, _, _, _, _, _, _, _, rfl⟩, 0, Px, by omega⟩ ?_ ?_
      · rintro t σ H2 ht ⟨q2, ⟨v2, v3, v4, v5, v6, v7, v8, v9, v10, v11, v12, v13, rfl⟩, M, P2, hM⟩
        -- the sizes
        refine ⟨_, rfl, pu, M, rfl, P2, by omega, fun z H3 p n sz M3 b3 hz0 nz hz S l3 P3 => ?_⟩
        have hp := P8_lt S.pr
        have hn15 := S.n15
        have hn1 := S.n1
        have hs1 := S.s1
        have hsn := S.sn
        have hnp := S.np
        have pw := pow_small S
        have pr := prime8 S.pr
        -- the lines
        refine ⟨_, rfl, z, _, 0, .int p, rfl, rfl, SqL.of hz, rfl, _, rfl, z, _, 1, .int (n : Int), rfl, rfl, SqL.of hz, rfl, _, rfl, z, _, 2, .int (sz : Int), rfl, rfl, SqL.of hz, rfl, fun x dx hx hdx ndx => ?_⟩
        refine ⟨x, dx, p, n, sz, rfl, upd_same, pr, hp.2, by omega, hnp, by omega, by omega, fun H4 k4 L4 => ⟨rfl, ?_⟩⟩
        have s34 := made_line hx hdx k4
        have z4 := s34 _ _ hz
        refine ⟨_, rfl, z, _, 0, .int p, rfl, rfl, SqL.of z4, rfl, _, rfl, z, _, 1, .int (n : Int), rfl, rfl, SqL.of z4, rfl, _, rfl, z, _, 2, .int (sz : Int), rfl, rfl, SqL.of z4, rfl, fun x2 dx2 hx2 hdx2 ndx2 => ?_⟩
        refine ⟨x2, dx2, p, n, sz, rfl, upd_same, pr, hp.2, by omega, hnp, by omega, by omega, fun H5 k5 L5 => ⟨rfl, _, _, rfl, ?_⟩⟩
        have s45 := made_line hx2 hdx2 k5
        have s35 := s34.trans s45
        have L4' := L4.same s45
        have z5 := s35 _ _ hz
        have P5 := P3.same s35
        have q5 := s35 _ _ (b3 _ _ nq q2)
        -- how many
        refine ⟨_, rfl, z, _, 2, .int (sz : Int), rfl, rfl, SqL.of z5, rfl, (sz : Int), rfl, by omega, by omega, ?_⟩
        have ts : ((sz : Int)).toNat = sz := Int.toNat_natCast sz
        rw [ts]
        refine for_range (lo := 0) (n := sz) (fun i σ H6 => H6 = H5 ∧ ∃ v7, σ = [some (.ref a), some (.ref pu), some (.int (0 + (t : Int))), some (.ref z), some (.ref x), some (.ref x2), some (.int (p ^ i)), v7, v8, v9, v10, v11, v12, v13]) ⟨rfl, v7, by rw [Int.pow_zero]; rfl⟩ ?_ ?_
        · rintro i σ H6 hi ⟨rfl, v7, rfl⟩
          refine ⟨_, rfl, _, rfl, z, _, 0, .int p, rfl, rfl, SqL.of z5, rfl, _, _, rfl, rfl, wide_mul (a := 248) (b := 62) ?_ ?_ (by decide) (by decide) (by decide), ?_⟩
          · have := pow_part S (i := i) (by omega)
            omega
          · omega
          · exact ⟨rfl, _, by rw [Int.pow_succ]; rfl⟩
        · rintro σ H6 ⟨rfl, v7, rfl⟩
          refine via_nx (via_seq (via_asg ?_))
          refine num_ok (K := K) rfl rfl rfl pw.1 pw.2 P5 (by omega) fun qn ns H7 M7 nqn hqn b7 P7 l7 e7 len7 low7 => ?_
          have z7 := b7 _ _ nz z5
          -- the pages
          refine ⟨_, rfl, qn, rfl, ⟨_, SqL.of e7⟩, ?_⟩
          refine for_list (xs := ns.map V.int) (fun i σ H8 => But pu H7 H8 ∧ (∃ v10, σ = [some (.ref a), some (.ref pu), some (.int (0 + (t : Int))), some (.ref z), some (.ref x), some (.ref x2), some (.int (p ^ sz)), v7, v8, some (.ref qn), v10, v11, v12, v13]) ∧ ∃ M8, Purse H8 pu M8 ∧ M8 ≤ M7 + 101 * i) ⟨But.refl _ _, ⟨_, rfl⟩, M7, P7, by omega⟩ (fun i σ H8 _ hh => SqL.of (hh.1 _ _ nqn e7)) ?_ ?_
          · rintro i y σ H8 hy ⟨b8, ⟨v10, rfl⟩, M8, P8', l8⟩
            rw [List.getElem?_map] at hy
            have hi : i < ns.length := by
              rcases Nat.lt_or_ge i ns.length with h | h
              · exact h
              · rw [List.getElem?_eq_none h] at hy
                cases hy
            rw [List.getElem?_eq_getElem hi] at hy
            obtain rfl := Option.some.inj hy
            have lw := low7 _ (List.getElem_mem hi)
            have B8 : But pu H6 H8 := b7.trans b8
            refine ⟨_, rfl, _, rfl, _, rfl, _, rfl, (by show 2 ≤ sizeLine; decide), fun l hl => ?_⟩
            have sl : Same H8 (upd H8 l (.lst [.ref x, .ref x2])) := Same.updf hl
            refine ⟨pu, l, [.ref x, .ref x2], M8, rfl, fresh_ne P8' hl, SqL.of upd_same, Nat.le_of_ble_eq_true rfl, Nat.le_of_ble_eq_true rfl, P8'.same sl, by omega, fun y H9 hy9 b9 P9 => ?_⟩
            have B9 : But pu H6 H9 := B8.trans ((But.of sl).trans b9)
            have Ly : LineAt K H9 y p (n : Int) (sz : Int) := by
              simp only [List.mem_cons, List.not_mem_nil, or_false] at hy9
              rcases hy9 with rfl | rfl
              · exact L4'.but P5 B9
              · exact L5.but P5 B9
            refine ⟨_, rfl, _, rfl, pu, z, y, p, ns[i], n, sz, M8 + 1, rfl, P9, by omega, Ly, B9 _ _ nz z5, S, lw.1, lw.2, fun H10 M10 b10 P10 l10 => ⟨true, rfl, iteF ?_⟩⟩
            exact ⟨b8.trans ((But.of sl).trans (b9.trans b10)), ⟨_, rfl⟩, M10, P10, by omega⟩
          · rintro σ H8 ⟨b8, ⟨v10, rfl⟩, M8, P8', l8⟩
            rw [List.length_map] at l8
            have B8 : But pu H6 H8 := b7.trans b8
            -- what the line bears
            refine ⟨6, rfl, by decide, by decide, ?_⟩
            refine for_range (lo := 0) (n := 6) (fun i σ H9 => But pu H8 H9 ∧ (∃ v8 v11 v12, σ = [some (.ref a), some (.ref pu), some (.int (0 + (t : Int))), some (.ref z), some (.ref x), some (.ref x2), some (.int (p ^ sz)), v7, v8, some (.ref qn), v10, v11, v12, v13]) ∧ ∃ M9, Purse H9 pu M9 ∧ M9 ≤ M8 + 2 * i) ⟨But.refl _ _, ⟨_, _, _, rfl⟩, M8, P8', by omega⟩ ?_ ?_
            · rintro i σ H9 hi ⟨b9, ⟨v8, v11, v12, rfl⟩, M9, P9, l9⟩
              have m4 : mixes 4 = 1 := mixes_one (by decide) (by decide)
              have m9 : mixes 9 = 1 := mixes_one (by decide) (by decide)
              refine ⟨_, rfl, pu, 4, M9, rfl, by decide, log_62 (by decide) (by decide), P9, by omega, by omega, fun c H10 c0 c1 b10 P10 => ?_⟩
              rw [m4] at P10
              refine ⟨_, rfl, pu, 9, M9 + 1, rfl, by decide, log_62 (by decide) (by decide), P10, by omega, by omega, fun u H11 u0 u1 b11 P11 => ?_⟩
              rw [m9] at P11
              have B11 : But pu H6 H11 := B8.trans (b9.trans (b10.trans b11))
              have z11 := B11 _ _ nz z5
              refine ⟨_, _, rfl, ?_⟩
              refine ⟨_, rfl, _, rfl, _, rfl, .ref x, p, n, sz, c, u, rfl, L4'.but P5 B11, S.lb, c0, u0, ?_⟩
              refine ⟨_, rfl, z, _, 1, .int (n : Int), rfl, rfl, SqL.of z11, rfl, _, rfl, z, _, 2, .int (sz : Int), rfl, rfl, SqL.of z11, rfl, _, _, rfl, rfl, _, _, rfl, rfl, Or.inl ⟨by decide, by decide⟩, ?_⟩
              refine ⟨_, rfl, _, _, rfl, rfl, Or.inl ⟨by decide, by decide⟩, _, _, rfl, rfl, _, rfl, _, _, rfl, rfl, _, _, rfl, rfl, ?_⟩
              refine ⟨_, _, rfl, ⟨rfl, .inr (.inl ⟨_, rfl⟩)⟩, fun H12 s12 => ⟨true, rfl, iteF ?_⟩⟩
              exact ⟨b9.trans (b10.trans (b11.trans (But.of s12))), ⟨_, _, _, rfl⟩, M9 + 1 + 1, P11.same s12, by omega⟩
            · rintro σ H9 ⟨b9, ⟨v8, v11, v12, rfl⟩, M9, P9, l9⟩
              have B9 : But pu H6 H9 := B8.trans b9
              have l9' := L4'.but P5 B9
              have l9'' := L5.but P5 B9
              obtain ⟨_, dy, fs, ey, hy, _⟩ := id l9'
              obtain ⟨_, dz, gs, ez, hz9, _⟩ := id l9''
              cases ey
              cases ez
              refine ⟨_, rfl, _, rfl, ⟨x, x2, dy, dz, fs, gs, rfl, rfl, hy, hz9, p, n, sz, l9', l9''⟩, fun H10 ex10 => ⟨_, rfl, iteF ?_⟩⟩
              exact ⟨ex10 _ _ (B9 _ _ nq q5), ⟨_, _, _, _, _, _, _, _, _, _, _, _, rfl⟩, M9, P9.same ex10, by omega⟩
      · rintro σ H2 ⟨q2, ⟨v2, v3, v4, v5, v6, v7, v8, v9, v10, v11, v12, v13, rfl⟩, M, P2, hM⟩
        exact ⟨q2, ⟨_, _, _, _, _, _, _, _, _, _, _, _, _, rfl⟩, fun h => nomatch h⟩
    · rintro σ H2 ⟨q2, ⟨v1, v2, v3, v4, v5, v6, v7, v8, v9, v10, v11, v12, v13, rfl⟩, _⟩
      have S : Sizes 11 8 2 := ⟨by decide, by decide, by decide, by decide, by decide, by decide⟩
      refine fun x dx hx hdx ndx => ?_
      refine ⟨x, dx, 11, 8, 2, rfl, upd_same, prime8 (by decide), by decide, by decide, by decide, by decide, by decide, fun H3 k3 L3 => ⟨rfl, ?_⟩⟩
      -- the told ones
      refine ⟨_, rfl, .ref x, 11, 8, 2, 37, rfl, L3, S.lb, by decide, by decide, fun t1 H4 s4 ht1 e4 => ?_⟩
      have f4 : signs 11 ((8 : Int)).toNat (digs 11 ((2 : Int)).toNat 37) = [7, 10, 2, 5, 8, 0, 3, 6] := by decide
      rw [f4] at e4
      refine ⟨_, rfl, .ref x, 11, 8, 2, 100, rfl, L3.same s4, S.lb, by decide, by decide, fun t2 H5 s5 ht2 e5 => ?_⟩
      have f5 : signs 11 ((8 : Int)).toNat (digs 11 ((2 : Int)).toNat 100) = [10, 8, 6, 4, 2, 0, 9, 7] := by decide
      rw [f5] at e5
      refine ⟨_, rfl, (by show 8 ≤ sizeLine; decide), fun l6 hl6 => ?_⟩
      have s6 : Same H5 (upd H5 l6 (.lst [.int 1, .int 2, .int 3, .int 4, .int 5, .int 6, .int 7, .int 8])) := Same.updf hl6
      have s36 := s4.trans (s5.trans s6)
      have f6 : (rowL (digs 11 2 11) 11 0 8).map V.int = [.int 1, .int 2, .int 3, .int 4, .int 5, .int 6, .int 7, .int 8] := by decide
      refine ⟨.ref x, l6, 11, 8, 2, digs 11 2 11, rfl, L3.same s36, S.dg 11, by decide, by decide, by rw [f6]; exact upd_same, fun H7 s7 => ?_⟩
      have f7 : nBy 11 (digs 11 2 11) = 11 := by decide
      rw [f7]
      have L7 := L3.same (s36.trans s7)
      refine ⟨_, rfl, .ref x, 11, 8, 2, 1, 0, rfl, L7, S.lb, by decide, by decide, ?_⟩
      refine ⟨_, rfl, .ref x, 11, 8, 2, 1, 1, rfl, L7, S.lb, by decide, by decide, ?_⟩
      refine ⟨(by show 5 ≤ sizeLine; decide), fun l8 hl8 => ?_⟩
      -- the due ones
      refine ⟨_, rfl, (by show 8 ≤ sizeLine; decide), fun l9 hl9 => ⟨(by show 8 ≤ sizeLine; decide), fun l10 hl10 => ⟨(by show 5 ≤ sizeLine; decide), fun l11 hl11 => ?_⟩⟩⟩
      have s8 : Same H7 _ := Same.updf (o := .lst [.ref t1, .ref t2, .int 11, .bl (decide ((8 : Int) > 4 * (2 - 1) + 3 * 1 + 0)), .bl (decide ((8 : Int) > 4 * (2 - 1) + 3 * 1 + 1))]) hl8
      have s9 := Same.updf (o := .lst [.int 7, .int 10, .int 2, .int 5, .int 8, .int 0, .int 3, .int 6]) hl9
      have s10 := Same.updf (o := .lst [.int 10, .int 8, .int 6, .int 4, .int 2, .int 0, .int 9, .int 7]) hl10
      have s11 := Same.updf (o := .lst [.ref l9, .ref l10, .int 11, .bl true, .bl false]) hl11
      have s811 := s9.trans (s10.trans s11)
      have s711 := s8.trans s811
      refine ⟨.ref l8, .ref l11, rfl, eqs_five (s811 _ _ upd_same) upd_same ?_ ?_, fun H12 s12 => k H12⟩
      · exact eqs_ints (l := [.int 7, .int 10, .int 2, .int 5, .int 8, .int 0, .int 3, .int 6]) (s711 _ _ (s7 _ _ (s6 _ _ (s5 _ _ e4)))) (s11 _ _ (s10 _ _ upd_same)) (by decide) (flat_ints [7, 10, 2, 5, 8, 0, 3, 6]) 0
      · exact eqs_ints (l := [.int 10, .int 8, .int 6, .int 4, .int 2, .int 0, .int 9, .int 7]) (s711 _ _ (s7 _ _ (s6 _ _ e5))) (s11 _ _ upd_same) (by decide) (flat_ints [10, 8, 6, 4, 2, 0, 9, 7]) 0
end
end K10
set_option Elab.async false
set_option linter.all false
set_option maxRecDepth 100000
set_option maxHeartbeats 16000000
/-! The end. -/
namespace K10
open PySem PySem.Spec PyProof.Rows L2
theorem neB_ok {K : PySem.W.Frag} {C f : Addr} (h : neB K C f = true) : NeC K C f := by
  unfold neB at h
  split at h
  · rename_i dd cd sl ho
    split at h
    · rename_i C' n k0 k1 k2 k3 m k5 hm hs
      simp only [Bool.and_eq_true, decide_eq_true_eq, Bool.not_eq_true'] at h
      obtain ⟨rfl, rfl, hdel, hns, h1, h2, hf⟩ := h
      obtain ⟨nm, bs, mro, ns, qn, hd, sn, sub, ab, col, del⟩ := cd
      dsimp only at hm hdel hns h1 h2
      subst hm hdel
      have hsl : sl = #[k0, k1, k2, k3, some (.builtin m), k5] := by
        obtain ⟨l⟩ := sl
        simp only at hs
        rw [hs]
      subst hsl
      exact ⟨⟨_, _, _, _, _, _, _, _, _, _, _, _, _, _, _, _, ho, hns, h1, h2⟩, hf⟩
    · cases h
  · cases h
section
variable {P : Program} {w : World} {K : PySem.W.Frag} {h : Heap} {mg : Str → Option Value} {base : Heap}
theorem facM (c : He.SaysD fa fn K) {f : He.Fa} (hf : f ∈ fa) : f.ok K = true := by
  have c1 := (He.ba (show ((fa.all fun f => f.ok K) && fn.all fun d => d.ok K) = true from congrArg (fun z : He.AlD => z.1) c)).1
  exact List.all_eq_true.mp c1 f hf
theorem facts {f : Addr} (X : K.In h) (G : h.Ns mainGlobals mg) (hfa : mg ("law" : Str) = some (.ref f)) (c : He.SaysD fa fn K) (ex : exB K = true) :
    ∃ fd : FuncData, (∀ (s : Shared) (v : Value), BindsTo s fd ⟨[v], []⟩ [("_law_script", v)]) ∧ ∀ base : Heap, K.In base → base.Ns mainGlobals mg → FnOk P w K mg base CX0 7 f fd ["_law_script"] (spLaw K) := by
  obtain ⟨d0, F0⟩ := c.def_ 0 (d := dT 8 "is_whole_number") rfl
  obtain ⟨d1, F1⟩ := c.def_ 1 (d := dT 9 "is_count") rfl
  obtain ⟨d2, F2⟩ := c.def_ 2 (d := dT 10 "is_count_below") rfl
  obtain ⟨d3, F3⟩ := c.def_ 3 (d := dT 11 "ascends") rfl
  obtain ⟨d4, F4⟩ := c.def_ 4 (d := dT 12 "are_ascending_counts") rfl
  obtain ⟨d5, F5⟩ := c.def_ 5 (d := dT 13 "are_ascending_below") rfl
  obtain ⟨d6, F6⟩ := c.def_ 6 (d := dT 15 "need_count") rfl
  obtain ⟨d7, F7⟩ := c.def_ 7 (d := dT 16 "need_changed_and_unread") rfl
  obtain ⟨d8, F8⟩ := c.def_ 8 (d := dT 18 "inverse") rfl
  obtain ⟨d9, F9⟩ := c.def_ 9 (d := dT 19 "worth_at") rfl
  obtain ⟨d10, F10⟩ := c.def_ 10 (d := dT 20 "trimmed") rfl
  obtain ⟨d11, F11⟩ := c.def_ 11 (d := dT 21 "added") rfl
  obtain ⟨d12, F12⟩ := c.def_ 12 (d := dT 22 "multiplied") rfl
  obtain ⟨d13, F13⟩ := c.def_ 13 (d := dT 26 "is_prime_of_line") rfl
  obtain ⟨d14, F14⟩ := c.def_ 14 (d := dT 27 "need_line") rfl
  obtain ⟨d15, F15⟩ := c.def_ 15 (d := dT 28 "digits_of") rfl
  obtain ⟨d16, F16⟩ := c.def_ 16 (d := dT 29 "number_by") rfl
  obtain ⟨d17, F17⟩ := c.def_ 17 (d := dT 30 "signs_by") rfl
  obtain ⟨d18, F18⟩ := c.def_ 18 (d := dT 31 "need_signs_of_page") rfl
  obtain ⟨d19, F19⟩ := c.def_ 19 (d := dT 32 "is_picture_of_signs") rfl
  obtain ⟨d20, F20⟩ := c.def_ 20 (d := dT 33 "digits_of_page") rfl
  obtain ⟨d21, F21⟩ := c.def_ 21 (d := dT 34 "digits_by_differences") rfl
  obtain ⟨d22, F22⟩ := c.def_ 22 (d := dT 35 "page_of") rfl
  obtain ⟨d23, F23⟩ := c.def_ 23 (d := dT 36 "number_of") rfl
  obtain ⟨d24, F24⟩ := c.def_ 24 (d := dT 37 "holds") rfl
  obtain ⟨d25, F25⟩ := c.def_ 25 (d := dT 38 "many_agreeing") rfl
  obtain ⟨d26, F26⟩ := c.def_ 26 (d := dT 39 "agreeing") rfl
  obtain ⟨d27, F27⟩ := c.def_ 27 (d := dT 40 "mixture_of") rfl
  obtain ⟨d28, F28⟩ := c.def_ 28 (d := dT 42 "_law_purse") rfl
  obtain ⟨d29, F29⟩ := c.def_ 29 (d := dT 43 "_law_mixed") rfl
  obtain ⟨d30, F30⟩ := c.def_ 30 (d := dT 44 "_law_draw") rfl
  obtain ⟨d31, F31⟩ := c.def_ 31 (d := dT 45 "_law_purses") rfl
  obtain ⟨d32, F32⟩ := c.def_ 32 (d := dT 46 "_law_one_of") rfl
  obtain ⟨d33, F33⟩ := c.def_ 33 (d := dT 47 "_law_exact") rfl
  obtain ⟨d34, F34⟩ := c.def_ 34 (d := dT 48 "_law_line_signs") rfl
  obtain ⟨d35, F35⟩ := c.def_ 35 (d := dT 49 "_law_drawn_line") rfl
  obtain ⟨d36, F36⟩ := c.def_ 36 (d := dT 50 "_law_agree") rfl
  obtain ⟨d37, F37⟩ := c.def_ 37 (d := dT 51 "_law_page_right") rfl
  obtain ⟨d38, F38⟩ := c.def_ 38 (d := dT 52 "law") rfl
  obtain ⟨d39, F39⟩ := c.def_ 39 (d := dL 0 "__init__" "Line.__init__") rfl
  obtain ⟨d40, F40⟩ := c.def_ 40 (d := dL 1 "prime" "Line.prime") rfl
  obtain ⟨d41, F41⟩ := c.def_ 41 (d := dL 2 "cells" "Line.cells") rfl
  obtain ⟨d42, F42⟩ := c.def_ 42 (d := dL 3 "size" "Line.size") rfl
  obtain ⟨d43, F43⟩ := c.def_ 43 (d := dL 4 "__eq__" "Line.__eq__") rfl
  have el : ∀ {α : Type} {l : List α} {i : Nat} {a : α}, l[i]? = some a → a ∈ l := fun h => List.mem_of_getElem? h
  have gl : ∀ {x : Str}, He.Fa.glo x ∈ fa0 → mg x = some (.ref (He.ga K x)) := fun {x} hx => He.glo_ok X G (facM c (List.mem_append_left _ hx))
  have fr : ∀ {x : Str}, He.Fa.free x ∈ fa1 → mg x = none := fun {x} hx => He.free_ok X G (facM c (List.mem_append_right _ (List.mem_append_left _ hx)))
  have f2 : ∀ {y : He.Fa}, y ∈ fa2 → y.ok K = true := fun {y} hx => facM c (List.mem_append_right _ (List.mem_append_right _ hx))
  have Z : Free mg := ⟨fr (el (i := 0) rfl), fr (el (i := 1) rfl), fr (el (i := 2) rfl), fr (el (i := 3) rfl), fr (el (i := 4) rfl), fr (el (i := 5) rfl), fr (el (i := 6) rfl), fr (el (i := 7) rfl), fr (el (i := 8) rfl), fr (el (i := 9) rfl), fr (el (i := 10) rfl), fr (el (i := 11) rfl), fr (el (i := 12) rfl), fr (el (i := 13) rfl), fr (el (i := 14) rfl), fr (el (i := 15) rfl), fr (el (i := 16) rfl), fr (el (i := 17) rfl)⟩
  have g0 := gl (x := "is_whole_number") (el (i := 0) rfl)
  have g1 := gl (x := "is_count") (el (i := 1) rfl)
  have g2 := gl (x := "is_count_below") (el (i := 2) rfl)
  have g3 := gl (x := "ascends") (el (i := 3) rfl)
  have g4 := gl (x := "are_ascending_counts") (el (i := 4) rfl)
  have g5 := gl (x := "are_ascending_below") (el (i := 5) rfl)
  have g6 := gl (x := "need_count") (el (i := 6) rfl)
  have g7 := gl (x := "need_changed_and_unread") (el (i := 7) rfl)
  have g8 := gl (x := "inverse") (el (i := 8) rfl)
  have g9 := gl (x := "worth_at") (el (i := 9) rfl)
  have g10 := gl (x := "trimmed") (el (i := 10) rfl)
  have g11 := gl (x := "added") (el (i := 11) rfl)
  have g12 := gl (x := "multiplied") (el (i := 12) rfl)
  have g13 := gl (x := "is_prime_of_line") (el (i := 13) rfl)
  have g14 := gl (x := "need_line") (el (i := 14) rfl)
  have g15 := gl (x := "digits_of") (el (i := 15) rfl)
  have g16 := gl (x := "number_by") (el (i := 16) rfl)
  have g17 := gl (x := "signs_by") (el (i := 17) rfl)
  have g18 := gl (x := "need_signs_of_page") (el (i := 18) rfl)
  have g19 := gl (x := "is_picture_of_signs") (el (i := 19) rfl)
  have g20 := gl (x := "digits_of_page") (el (i := 20) rfl)
  have g21 := gl (x := "digits_by_differences") (el (i := 21) rfl)
  have g22 := gl (x := "page_of") (el (i := 22) rfl)
  have g23 := gl (x := "number_of") (el (i := 23) rfl)
  have g24 := gl (x := "holds") (el (i := 24) rfl)
  have g25 := gl (x := "many_agreeing") (el (i := 25) rfl)
  have g26 := gl (x := "agreeing") (el (i := 26) rfl)
  have g27 := gl (x := "mixture_of") (el (i := 27) rfl)
  have g28 := gl (x := "_law_purse") (el (i := 28) rfl)
  have g29 := gl (x := "_law_mixed") (el (i := 29) rfl)
  have g30 := gl (x := "_law_draw") (el (i := 30) rfl)
  have g31 := gl (x := "_law_purses") (el (i := 31) rfl)
  have g32 := gl (x := "_law_one_of") (el (i := 32) rfl)
  have g33 := gl (x := "_law_exact") (el (i := 33) rfl)
  have g34 := gl (x := "_law_line_signs") (el (i := 34) rfl)
  have g35 := gl (x := "_law_drawn_line") (el (i := 35) rfl)
  have g36 := gl (x := "_law_agree") (el (i := 36) rfl)
  have g37 := gl (x := "_law_page_right") (el (i := 37) rfl)
  have g38 := gl (x := "law") (el (i := 38) rfl)
  have gL := gl (x := "Line") (el (i := 39) rfl)
  have gG : ∃ t, mg "GREAT_PRIME" = some (.int GP t) := He.int_ok X G (f2 (y := .int "GREAT_PRIME" 2305843009213693951) (el (i := 0) rfl))
  have gE : ∃ t, mg "PRIMES_END" = some (.int 1000 t) := He.int_ok X G (f2 (y := .int "PRIMES_END" 1000) (el (i := 1) rfl))
  have LCl : Cls K (cL K) := He.cls_ok (f2 (y := .cls "Line") (el (i := 2) rfl))
  have L : LC K := ⟨LCl, He.noat_ok (f2 (y := .noat "Line" "_prime") (el (i := 3) rfl)), He.noat_ok (f2 (y := .noat "Line" "_cells") (el (i := 4) rfl)), He.noat_ok (f2 (y := .noat "Line" "_size") (el (i := 5) rfl)),
    He.meth_ok (f2 (y := .meth "Line" "prime") (el (i := 6) rfl)), He.meth_ok (f2 (y := .meth "Line" "cells") (el (i := 7) rfl)), He.meth_ok (f2 (y := .meth "Line" "size") (el (i := 8) rfl))⟩
  have ML : Mk K (cL K) (mL K "__init__") := He.mkr_ok (f2 (y := .mkr "Line") (el (i := 9) rfl))
  obtain ⟨x1, x2⟩ := He.ba ex
  have NE : NeC K (cL K) (mL K "__eq__") := neB_ok x1
  obtain ⟨y1, x2⟩ := He.ba x2
  obtain ⟨y2, x2⟩ := He.ba x2
  obtain ⟨y3, y4⟩ := He.ba x2
  have LIs : LI K := ⟨LCl, of_decide_eq_true y1, of_decide_eq_true y2, of_decide_eq_true y3, of_decide_eq_true y4⟩
  have e12 := hfa.symm.trans g38
  cases e12
  have bL := FunD.bindsA (ps := ["_law_script"]) F38 fun _ _ _ _ _ _ us hl => match us, hl with | [_], _ => rfl
  refine ⟨d38, fun s v => bL s [v] rfl, fun base _ _ => ?_⟩
  have b1 : ∀ {m q : Str} {j : Nat} {fd : FuncData}, True := fun {_ _ _ _} => trivial
  have bI : Binds K d39 ["self", "prime", "cells", "size"] [] := FunD.bindsN (ps := ["self", "prime", "cells", "size"]) F39 fun _ _ _ _ _ _ us hl => match us, hl with | [_, _, _, _], _ => rfl
  have bP : Binds K d40 ["self"] [] := FunD.bindsN (ps := ["self"]) F40 fun _ _ _ _ _ _ us hl => match us, hl with | [_], _ => rfl
  have bC : Binds K d41 ["self"] [] := FunD.bindsN (ps := ["self"]) F41 fun _ _ _ _ _ _ us hl => match us, hl with | [_], _ => rfl
  have bS : Binds K d42 ["self"] [] := FunD.bindsN (ps := ["self"]) F42 fun _ _ _ _ _ _ us hl => match us, hl with | [_], _ => rfl
  have bQ : Binds K d43 ["self", "other"] [] := FunD.bindsN (ps := ["self", "other"]) F43 fun _ _ _ _ _ _ us hl => match us, hl with | [_, _], _ => rfl
  have O : LOk P w K mg base := ⟨L, gL, ⟨d40, ok_prime F40 L, bP⟩, ⟨d41, ok_cells F41 L, bC⟩, ⟨d42, ok_size F42 L, bS⟩⟩
  have O0 := ok_whole (P := P) (w := w) (base := base) F0 Z
  have O1 := ok_count (P := P) (w := w) (base := base) F1 g0 F0 O0
  have O2 := ok_below (P := P) (w := w) (base := base) F2 g1 F1 O1
  have O3 := ok_asc (P := P) (w := w) (base := base) F3 Z
  have O4 := ok_ascC (P := P) (w := w) (base := base) F4 Z g1 F1 O1 g3 F3 O3
  have O5 := ok_ascB (P := P) (w := w) (base := base) F5 Z g4 F4 O4
  have O6 := ok_needC (P := P) (w := w) (base := base) F6 g1 F1 O1
  have O7 := ok_needCU (P := P) (w := w) (base := base) F7 g6 F6 O6
  have O8 := ok_inv (P := P) (w := w) (mg := mg) (base := base) F8
  have O9 := ok_worth (P := P) (w := w) (base := base) F9 Z
  have O10 := ok_trim (P := P) (w := w) (base := base) F10 Z
  have O11 := ok_added (P := P) (w := w) (base := base) F11 Z
  have O12 := ok_mult (P := P) (w := w) (base := base) F12 Z g10 F10 O10
  have O13 := ok_isPrime (P := P) (w := w) (base := base) F13 Z gG gE g1 F1 O1
  have O14 := ok_needL (P := P) (w := w) (base := base) F14 Z gL LIs
  have O15 := ok_digits (P := P) (w := w) (base := base) F15 Z O g1 F1 O1
  have O16 := ok_numBy (P := P) (w := w) (base := base) F16 Z O
  have O17 := ok_signsBy (P := P) (w := w) (base := base) F17 Z O g9 F9 O9
  have O18 := ok_needSigns (P := P) (w := w) (base := base) F18 g14 F14 O14 g15 F15 O15 g17 F17 O17
  have O19 := ok_isPic (P := P) (w := w) (base := base) F19 Z O g2 F2 O2
  have O21 := ok_digDiff (P := P) (w := w) (base := base) F21 Z g8 F8 O8 g12 F12 O12 g11 F11 O11
  have O20 := ok_digPage (P := P) (w := w) (base := base) F20 Z O g21 F21 O21
  have O22 := ok_pageOf (P := P) (w := w) (base := base) F22 g18 F18 O18
  have O23 := ok_numOf (P := P) (w := w) (base := base) F23 g14 F14 O14 g19 F19 O19 g20 F20 O20 g16 F16 O16
  have O24 := ok_holds (P := P) (w := w) (base := base) F24 O g14 F14 O14 g7 F7 O7
  have O25 := ok_many (P := P) (w := w) (base := base) F25 Z
  have O26 := ok_agree (P := P) (w := w) (base := base) F26 g18 F18 O18 g19 F19 O19 g25 F25 O25
  have O27 := ok_mix (P := P) (w := w) (base := base) F27 Z O g18 F18 O18 g5 F5 O5
  have O28 := ok_purse (P := P) (w := w) (base := base) F28 Z
  have O30 := ok_draw (P := P) (w := w) (base := base) F30 Z F29 g29
  have O31 := ok_purses (P := P) (w := w) (base := base) F31 Z O28 F28 g28
  have O32 := ok_one (P := P) (w := w) (base := base) F32 Z O30 F30 g30
  have O33 := ok_exact (P := P) (w := w) (base := base) F33 Z g33
  have O34 := ok_LS (P := P) (w := w) (base := base) F34 Z
  have O35 := ok_DL (P := P) (w := w) (base := base) F35 Z g32 F32 O32 g30 F30 O30
  have O36 := ok_agr (P := P) (w := w) (base := base) F36 Z
  have O37 := ok_PR (P := P) (w := w) (base := base) F37 Z g34 F34 O34 g22 F22 O22 g33 F33 O33 g23 F23 O23 g30 F30 O30 g32 F32 O32 g36 F36 O36 g26 F26 O26 g27 F27 O27
  have O39 := ok_init (P := P) (w := w) (mg := mg) (base := base) F39 L g13 F13 O13 g2 F2 O2 g1 F1 O1
  have O43 := ok_eq (P := P) (w := w) (base := base) F43 Z gL L LIs
  exact ok_law F38 Z g31 F31 O31 g35 F35 O35 g33 F33 O33 g30 F30 O30 g32 F32 O32 g37 F37 O37 g24 F24 O24 g22 F22 O22 g23 F23 O23 gL ML O39 bI NE O43 bQ
end
end K10
open PySem PySem.W PySem.Calls PyProof.Rows
theorem PySem.Challenge.cw_weavestore_k10_whole_pages_by_number_holds : PySem.Challenge.rw_weavestore_k10_whole_pages_by_number.Holds := by
  w_on; o_law
  refine HandSHeadRun.head_any (r := OpenLaw.row PySem.Challenge.rw_weavestore_k10_whole_pages_by_number) (q := view (OpenLaw.row PySem.Challenge.rw_weavestore_k10_whole_pages_by_number).prog [52]) (H := K10.hk) (ob := K10.ob) (M := 20000) (loose := K10.names) (d := HandSHeadRun.topDef (OpenLaw.row PySem.Challenge.rw_weavestore_k10_whole_pages_by_number).prog 52) (kwd := []) K10.ob_eq
    (by kernel_rfl) (fun s => by kernel_rfl) K10.run (by kernel_rfl) (by kernel_rfl) (by kernel_rfl) (by rfl) (by first | assumption | decide +kernel) (by decide +kernel) ⟨rfl, rfl, rfl, rfl, rfl, by decide +kernel⟩ ?hw ?hc
  case hw => w_witness2
  case hc =>
    refine L2.walk_ofE (l := PySem.Challenge.rw_weavestore_k10_whole_pages_by_number) (n := 63) (k := 7) (x := "_law_script") (CX := L2.CX0) rfl (by decide) (by kernel_rfl) ⟨rfl, by decide, by decide⟩ ?F (fun _ _ _ _ h => h)
    intro w mg fa h Y G hmg0
    obtain ⟨K, KX, c, ex⟩ := Y
    have hmg : mg ("law" : PySem.Str) = some (.ref fa) := by
      have e : (HandSHeadRun.topDef (OpenLaw.row PySem.Challenge.rw_weavestore_k10_whole_pages_by_number).prog 52).name = ("law" : PySem.Str) := by kernel_rfl
      rw [← e]
      exact hmg0
    obtain ⟨fd, hb, hF⟩ := K10.facts (P := (PySem.Challenge.rw_weavestore_k10_whole_pages_by_number).prog) (w := w) KX G hmg c ex
    exact ⟨K, fd, K10.spLaw K, KX, hb, fun H a ns hl _ hS => ⟨a, ns, rfl, hS, fun _ => rfl⟩, hF⟩
