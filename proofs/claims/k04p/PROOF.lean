import PyProof.Rows.All
import Wide.All
import OpenK.AllK
import Wide.FinOn
import HandS.Base
import HandS.Call
import HandS.List
import HandS.Comp
import HandS.Ends
import HandS.Dict
import HandS.Iter
import HandS.Text
import HandS.Words
import HandS.WordsList
import HandS.Conv
import HandS.ForMost
import HandS.OwnEq
import HandS.Star
import HandS.IsInst
import HandS.More
import HandS.ExcInit
import HandS.ExcField
import HandS.ExcIs
import KE.KExcIs
import KE.KExcMake
import HandS.Set
import HandS.SetFor
import HandS.Strs
import HandS.Zip
import HandS.TupAny
import HandS.DictComp
import HandS.Sort
import PyProof.ListCopy
import HandS.DictTup
import KE.KSortTupG
import KE.KSortTupUse
import KE.KDictSum
import HandS.Keys
import HandS.Defaults
import HandS.Style
import OpenK.KMeth
import PyProof.SeqRoads
import PyProof.EnumIter
import HandS.Hot
import HandS.HotCalls
import HandS.WordsExc
import HandS.ExcCtx
import KE.KCallOwn
import PyProof.InstEq
import HandS.ListEq
import PyProof.CollectStr
import KE.KDictList
import PyProof.EqKinds
import KE.KOpsOwn
import HandS.ExcOwn
import HandS.TupMul
import KE.KRevSl
import KE.RegKIsAll
import KE.RegKTryMore
import PySem.Challenge.RW_knownways_k04_chains_of_steps
set_option Elab.async false
set_option linter.all false
set_option maxRecDepth 100000
set_option maxHeartbeats 4000000
namespace LK
open PySem PySem.Spec PyProof.Rows L2
def top (i : Nat) : Stmt := PySem.Challenge.pw_knownways_k04_chains_of_steps.main.body.getD i (.Pass ⟨0, 0, 0, 0⟩)
abbrev sAllNames : Stmt := top 15
abbrev sAllSteps : Stmt := top 16
abbrev sIsName : Stmt := top 21
abbrev sExprInit : Stmt := inClass (top 24) 0
abbrev sExprAnd : Stmt := inClass (top 24) 1
abbrev sExprRand : Stmt := inClass (top 24) 2
abbrev sExprOr : Stmt := inClass (top 24) 3
abbrev sExprRor : Stmt := inClass (top 24) 4
abbrev sExprEq : Stmt := inClass (top 24) 6
abbrev sNamed : Stmt := top 25
abbrev sApplied : Stmt := top 26
abbrev sAsExpr : Stmt := top 27
abbrev sPartExpr : Stmt := top 28
abbrev sLesser : Stmt := top 29
abbrev sGreater : Stmt := top 30
abbrev sStepInit : Stmt := inClass (top 35) 0
abbrev sStepCall : Stmt := inClass (top 35) 1
abbrev sStepLen : Stmt := inClass (top 35) 4
abbrev sStepEq : Stmt := inClass (top 35) 5
abbrev sStepStr : Stmt := inClass (top 35) 6
abbrev sChainInit : Stmt := inClass (top 36) 0
abbrev sChainCall : Stmt := inClass (top 36) 1
abbrev sChainMul : Stmt := inClass (top 36) 2
abbrev sChainPow : Stmt := inClass (top 36) 3
abbrev sChainLen : Stmt := inClass (top 36) 4
abbrev sChainEq : Stmt := inClass (top 36) 5
abbrev sChainStr : Stmt := inClass (top 36) 6
abbrev sStepMul : Stmt := inClass (top 35) 2
abbrev sStepPow : Stmt := inClass (top 35) 3
abbrev sIsInteger : Stmt := top 22
abbrev sJoined : Stmt := top 38
abbrev sRepeated : Stmt := top 39
abbrev sAreWays : Stmt := top 37
abbrev sTraitInit : Stmt := inClass (top 43) 0
abbrev sTraitEq : Stmt := inClass (top 43) 1
abbrev sTraitStr : Stmt := inClass (top 43) 2
abbrev sAreSteps : Stmt := top 44
abbrev sWaysFit : Stmt := top 45
abbrev sFeed : Stmt := top 47
abbrev sDraw : Stmt := top 48
abbrev sPick : Stmt := top 49
abbrev sSame : Stmt := top 50
abbrev sWord : Stmt := top 51
abbrev sWords : Stmt := top 52
abbrev sLIsName : Stmt := top 53
abbrev sSign : Stmt := top 54
abbrev sBent : Stmt := top 55
abbrev sNear : Stmt := top 56
abbrev sAny : Stmt := top 57
abbrev sWays : Stmt := top 58
abbrev sRefused : Stmt := top 59
abbrev sIs : Stmt := top 60
abbrev sPower : Stmt := top 61
abbrev sLChain : Stmt := top 62
abbrev sTold : Stmt := top 63
abbrev sRefuses : Stmt := top 64
abbrev sRight : Stmt := top 65
abbrev sBadPart : Stmt := top 66
abbrev sPutTog4 : Stmt := top 67
abbrev sLSteps : Stmt := top 68
abbrev sClashes : Stmt := top 69
abbrev sLaw : Stmt := top 70
/-- the built-ins that stand -/
structure Std (mg : Str → Option Value) : Prop where
  len : mg "len" = none
  abs : mg "abs" = none
  int : mg "int" = none
  range : mg "range" = none
  isi : mg "isinstance" = none
  tuple : mg "tuple" = none
  list : mg "list" = none
  all : mg "all" = none
  zip : mg "zip" = none
  bool : mg "bool" = none
  str : mg "str" = none
  set : mg "set" = none
  sorted : mg "sorted" = none
  sum : mg "sum" = none
  any : mg "any" = none
  enumerate : mg "enumerate" = none
/-- a def of the text, as its callers see it -/
structure Df (K : PySem.W.Frag) (mg : Str → Option Value) (x : Str) (st : Stmt) (f : Addr) (fd : FuncData) (ps : List Str) : Prop where
  F : Fun K x x st f fd
  b : Binds K fd ps []
  g : mg x = some (.ref f)
/-- all but l stands -/
def Keep (l : Addr) (H H' : Hp) : Prop := ∀ b o, b ≠ l → H b = some o → H' b = some o
theorem Keep.refl {l : Addr} {H : Hp} : Keep l H H := fun _ _ _ e => e
theorem Keep.trans {l : Addr} {H H1 H2 : Hp} (a : Keep l H H1) (b : Keep l H1 H2) : Keep l H H2 := fun c o n e => b c o n (a c o n e)
theorem Keep.same {l : Addr} {H H1 : Hp} (a : Same H H1) : Keep l H H1 := fun c o n e => a c o e
theorem Keep.put {l : Addr} {H : Hp} {o : HO} : Keep l H (upd H l o) := fun c u n e => by rw [upd_ne n]; exact e
theorem same_new {H : Hp} {p : Addr} {o : HO} (h : H p = none) : Same H (upd H p o) := fun c u e => by rw [upd_ne (ne_of_none e h)]; exact e
theorem Keep.new {l : Addr} {H : Hp} {p : Addr} {o : HO} (h : H p = none) : Keep l H (upd H p o) := Keep.same (same_new h)
/-- the feed of draws at l -/
def Feed (H : Hp) (l : Addr) : Prop := ∃ a b : Int, H l = some (.lst [.int a, .int b]) ∧ 0 ≤ a ∧ 0 ≤ b
theorem Feed.keep {l m : Addr} {H H' : Hp} (h : Feed H l) (k : Keep m H H') (n : l ≠ m) : Feed H' l := by
  obtain ⟨a, b, e, h0, h1⟩ := h
  exact ⟨a, b, k _ _ n e, h0, h1⟩
theorem Feed.same {l : Addr} {H H' : Hp} (h : Feed H l) (k : Same H H') : Feed H' l := by
  obtain ⟨a, b, e, h0, h1⟩ := h
  exact ⟨a, b, k _ _ e, h0, h1⟩
theorem Feed.ne {l d : Addr} {H : Hp} (h : Feed H l) (e : H d = none) : l ≠ d := by
  obtain ⟨a, b, q, _⟩ := h
  exact ne_of_none q e
def spFeed (K : PySem.W.Frag) : Sp := fun vs H Q _ => ∃ (a : Addr) (ns : List Int) (k : Nat), vs = [.ref a, .int k] ∧ SqL K H a (ns.map V.int) ∧
  ∀ l H', H l = none → Feed H' l → Same H H' → Q (.ref l) H'
def spDraw : Sp := fun vs H Q _ => ∃ (l : Addr) (m : Int), vs = [.ref l, .int m] ∧ Feed H l ∧ 1 ≤ m ∧ m < 1073741824 ∧
  ∀ d H', 0 ≤ d → d < m → Feed H' l → Keep l H H' → Q (.int d) H'
section
variable {P : Program} {w : World} {K : PySem.W.Frag} {mg : Str → Option Value} {base : Heap}
theorem scFeed : FnScope ["_law_script", "_law_k", "_law_cell"] ["_law_script", "_law_k"] (defScope sFeed) := ⟨rfl, rfl, rfl, by decide +kernel, rfl, by decide +kernel, by decide +kernel⟩
theorem item_int {ns : List Int} {j : Nat} (h : j < ns.length) : (ns.map V.int)[j]? = some (V.int ns[j]) := by
  rw [List.getElem?_map, List.getElem?_eq_getElem h]
  rfl
theorem ok_feed {f : Addr} {fd : FuncData} (S : Std mg) (F : Fun K "_law_feed" "_law_feed" sFeed f fd) : FnOk P w K mg base CX0 1 f fd ["_law_script", "_law_k"] (spFeed K) := by
  refine F.ok scFeed (fun vs H Q E h => ?_) (fun cdv A outer s H vs Q E hr h => ?_)
  · obtain ⟨a, ns, k, rfl, _⟩ := h
    rfl
  · obtain ⟨a, ns, k, rfl, hS, q⟩ := h
    refine ⟨_, pss_cons (ps_set (i := 2) scFeed.nd rfl (Or.inl rfl) (pe_op op_add (pe_op op_mul pe_int (pv 1)) pe_int))
      (pss_cons (ps_if (pt_cmpR op_lt (pv 1) (pe_callB call_len_seq (by rfl) S.len PySem.boot_len (pa_cons (pv 0) pa_nil)) (nomark _))
          (pss_one (ps_set (i := 2) scFeed.nd rfl (Or.inl rfl) (pe_ix ix_list (pv 0) (pv 1) (fun _ _ => rfl))))
          (pss_one (ps_if (pt_cmpR op_gt (pe_callB call_len_seq (by rfl) S.len PySem.boot_len (pa_cons (pv 0) pa_nil)) pe_int (nomark _))
            (pss_one (ps_set (i := 2) scFeed.nd rfl (Or.inl rfl) (pe_op op_add (pv 2) (pe_op op_mul (pe_op op_mod (pe_callB call_abs (by rfl) S.abs (by decide +kernel) (pa_cons
              (pe_ix ix_list (pv 0) (pe_op op_mod (pe_callTy call_int1 (by rfl) S.int (by decide +kernel) (pa_cons (pv 1) pa_nil)) (pe_callB call_len_seq (by rfl) S.len PySem.boot_len (pa_cons (pv 0) pa_nil))) (fun _ _ => rfl)) pa_nil)) pe_int) pe_int))))
            pss_nil)))
      (pss_cons (ps_if (pt_cmpR op_lt (pv 2) pe_int (nomark _)) (pss_one (ps_set (i := 2) scFeed.nd rfl (Or.inl rfl) (pe_op op_sub pe_int (pe_op op_mul pe_int (pv 2))))) pss_nil)
      (pss_one (ps_ret (pe_lst (pa_cons (pe_ifExp (pt_cmpR op_ge (pv 2) (pe_op op_pow pe_int pe_int) (nomark _)) (pv 2) pe_int)
        (pa_cons (pe_op op_add (pe_op op_add (pe_op op_mod (pe_callTy call_int1 (by rfl) S.int (by decide +kernel) (pa_cons (pv 2) pa_nil)) pe_int) (pe_op op_mul pe_int (pv 1))) pe_int) pa_nil))))))), ?_⟩
    -- the end, from any value of the cell
    have fin : ∀ c : Int, 0 ≤ c → (tRet (tLst (tCons (tIf (tTest (tOp (rI0 fun i j => .bl (decide (j ≤ i))) (tVar 2) (tOp (rI CPow fun i j => .int (i ^ j.toNat)) (tC (.int 10)) (tC (.int 18))))) (tVar 2) (tC (.int 0)))
        (tCons (tOp (rI0 fun i j => .int (i + j)) (tOp (rI0 fun i j => .int (i + j)) (tOp (rI (fun _ j => 0 < j) fun i j => .int (i % j)) (tCB (fun xs H Q => (∃ i, xs = [.int i] ∧ Q (.int i) H) ∨ ∃ k, xs = [.bl k] ∧ Q (.int (if k then 1 else 0)) H) (tCons (tVar 2) tNil)) (tC (.int 1000003))) (tOp (rI CMul fun i j => .int (i * j)) (tC (.int 13)) (tVar 1))) (tC (.int 1))) tNil))))
        { nx := fun _ H' => Q .non H', rt := Q } [some (.ref a), some (.int k), some (.int c)] H := by
      intro c hc
      have stp : ∀ x : Int, 0 ≤ x → ∀ p, H p = none → Q (.ref p) (upd H p (.lst [.int x, .int (c % 1000003 + 13 * k + 1)])) := fun x hx p hp =>
        q p _ hp ⟨x, _, upd_same, hx, by omega⟩ (same_new hp)
      refine ⟨_, rfl, _, _, rfl, rfl, ⟨by decide, by decide, by decide⟩, _, _, rfl, rfl, _, rfl, ite2 (fun h1 => ?_) (fun h1 => ?_)⟩
      · refine ⟨_, rfl, _, rfl, .inl ⟨_, rfl, _, _, rfl, rfl, (by show (0 : Int) < 1000003; decide), _, rfl, _, _, rfl, rfl, .inl ⟨by decide, by decide⟩, _, _, rfl, rfl, _, _, rfl, rfl, (by show 2 ≤ sizeLine; decide), stp c hc⟩⟩
      · refine ⟨_, rfl, .inl ⟨_, rfl, _, _, rfl, rfl, (by show (0 : Int) < 1000003; decide), _, rfl, _, _, rfl, rfl, .inl ⟨by decide, by decide⟩, _, _, rfl, rfl, _, _, rfl, rfl, (by show 2 ≤ sizeLine; decide), stp 0 (Int.le_refl 0)⟩⟩
    have neg : ∀ c : Int, tSeq (tIfS (tTest (tOp (rI0 fun i j => .bl (decide (i < j))) (tVar 2) (tC (.int 0)))) (tAsg (tOp (rI0 fun i j => .int (i - j)) (tC (.int 3)) (tOp (rI CMul fun i j => .int (i * j)) (tC (.int 5)) (tVar 2))) (gName 2)) tNext) (tRet (tLst (tCons (tIf (tTest (tOp (rI0 fun i j => .bl (decide (j ≤ i))) (tVar 2) (tOp (rI CPow fun i j => .int (i ^ j.toNat)) (tC (.int 10)) (tC (.int 18))))) (tVar 2) (tC (.int 0)))
        (tCons (tOp (rI0 fun i j => .int (i + j)) (tOp (rI0 fun i j => .int (i + j)) (tOp (rI (fun _ j => 0 < j) fun i j => .int (i % j)) (tCB (fun xs H Q => (∃ i, xs = [.int i] ∧ Q (.int i) H) ∨ ∃ k, xs = [.bl k] ∧ Q (.int (if k then 1 else 0)) H) (tCons (tVar 2) tNil)) (tC (.int 1000003))) (tOp (rI CMul fun i j => .int (i * j)) (tC (.int 13)) (tVar 1))) (tC (.int 1))) tNil))))
        { nx := fun _ H' => Q .non H', rt := Q } [some (.ref a), some (.int k), some (.int c)] H := by
      intro c
      refine ⟨_, rfl, _, _, rfl, rfl, _, rfl, ite2 (fun h1 => ?_) (fun h1 => ?_)⟩
      · have h2 : c < 0 := of_decide_eq_true h1
        exact ⟨_, rfl, _, _, rfl, rfl, .inl ⟨by decide, by decide⟩, _, _, rfl, rfl, fin (3 - 5 * c) (by omega)⟩
      · have h2 : ¬ c < 0 := fun e => h1 (decide_eq_true e)
        exact fin c (by omega)
    refine ⟨_, rfl, _, _, rfl, rfl, .inl ⟨by decide, by decide⟩, _, _, rfl, rfl, ?_⟩
    refine ⟨_, rfl, _, rfl, a, _, rfl, .inl hS, _, _, rfl, rfl, _, rfl, ite2 (fun h1 => ?_) (fun h1 => ?_)⟩
    · have h2 : (k : Int) < ((ns.map V.int).length : Nat) := of_decide_eq_true h1
      have h3 : k < ns.length := by rw [List.length_map] at h2; omega
      exact ⟨_, rfl, _, rfl, a, _, _, _, rfl, rfl, hS, atI_nat (item_int h3), neg _⟩
    · refine ⟨_, rfl, a, _, rfl, .inl hS, _, _, rfl, rfl, _, rfl, ite2 (fun h2 => ?_) (fun h2 => ?_)⟩
      · have h3 : (0 : Int) < ((ns.map V.int).length : Nat) := of_decide_eq_true h2
        have h4 : 0 < ns.length := by rw [List.length_map] at h3; omega
        obtain ⟨j, ej, hj⟩ : ∃ j : Nat, (k : Int) % ((ns.map V.int).length : Nat) = (j : Int) ∧ j < ns.length := by
          have e1 := Int.emod_nonneg (k : Int) (b := ((ns.map V.int).length : Nat)) (by omega)
          have e2 := Int.emod_lt_of_pos (k : Int) h3
          refine ⟨((k : Int) % ((ns.map V.int).length : Nat)).toNat, by omega, ?_⟩
          have e3 : (ns.map V.int).length = ns.length := List.length_map ..
          omega
        refine ⟨_, rfl, _, rfl, _, rfl, .inl ⟨_, rfl, _, rfl, a, _, rfl, .inl hS, _, _, rfl, rfl, h3, a, _, _, _, rfl, rfl, hS, at_of ej (item_int hj), ?_⟩⟩
        exact ⟨_, rfl, _, _, rfl, rfl, (by show (0 : Int) < 1000003; decide), _, _, rfl, rfl, .inr ⟨by decide, by decide⟩, _, _, rfl, rfl, neg _⟩
      · exact neg _
end
end LK

namespace LK
open PySem PySem.Spec PyProof.Rows L2
def spPick (K : PySem.W.Frag) : Sp := fun vs H Q _ => ∃ (l : Addr) (x : V) (P : V → Prop), vs = [.ref l, x] ∧ Feed H l ∧
  ((∃ z : Str, x = .str z ∧ 0 < z.length ∧ z.length ≤ 1000 ∧ ∀ c, c ∈ z.cps.toList → P (.str ⟨#[c]⟩)) ∨ (∃ (a : Addr) (xs : List V), x = .ref a ∧ a ≠ l ∧ SqL K H a xs ∧ 0 < xs.length ∧ xs.length ≤ 1000 ∧ ∀ v, v ∈ xs → P v)) ∧
  ∀ v H', P v → Feed H' l → Keep l H H' → Q v H'
section
variable {P : Program} {w : World} {K : PySem.W.Frag} {mg : Str → Option Value} {base : Heap}
theorem scDraw : FnScope ["_law_feed_here", "_law_many", "_law_digit"] ["_law_feed_here", "_law_many"] (defScope sDraw) := ⟨rfl, rfl, rfl, by decide +kernel, rfl, by decide +kernel, by decide +kernel⟩
theorem ok_draw {f : Addr} {fd : FuncData} (S : Std mg) (F : Fun K "_law_draw" "_law_draw" sDraw f fd) : FnOk P w K mg base CX0 1 f fd ["_law_feed_here", "_law_many"] spDraw := by
  refine F.ok scDraw (fun vs H Q E h => ?_) (fun cdv A outer s H vs Q E hr h => ?_)
  · obtain ⟨l, m, rfl, _⟩ := h
    rfl
  · obtain ⟨l, m, rfl, ⟨a, b, hl, ha, hb⟩, h1, h2, q⟩ := h
    refine ⟨_, pss_cons (ps_if (pt_cmpR op_gt (pe_ix ix_list (pv 0) pe_int (fun _ _ => rfl)) pe_int (nomark _))
        (pss_cons (ps_set (i := 2) scDraw.nd rfl (Or.inl rfl) (pe_op op_mod (pe_callTy call_int1 (by rfl) S.int (by decide +kernel) (pa_cons (pe_ix ix_list (pv 0) pe_int (fun _ _ => rfl)) pa_nil)) (pv 1)))
        (pss_cons (ps_asg (pe_op op_fdiv (pe_ix ix_list (pv 0) pe_int (fun _ _ => rfl)) (pv 1)) (pg_sub (pv 0) pe_int set_list))
        (pss_one (ps_ret (pv 2))))) pss_nil)
      (pss_cons (ps_asg (pe_op op_mod (pe_callTy call_int1 (by rfl) S.int (by decide +kernel) (pa_cons (pe_op op_add (pe_op op_mul (pe_ix ix_list (pv 0) pe_int (fun _ _ => rfl)) pe_int) pe_int) pa_nil)) pe_int) (pg_sub (pv 0) pe_int set_list))
      (pss_one (ps_ret (pe_op op_mod (pe_callTy call_int1 (by rfl) S.int (by decide +kernel) (pa_cons (pe_op op_fdiv (pe_ix ix_list (pv 0) pe_int (fun _ _ => rfl)) pe_int) pa_nil)) (pv 1))))), ?_⟩
    have hS : SqL K H l [.int a, .int b] := SqL.of hl
    refine ⟨_, rfl, l, _, _, _, rfl, rfl, hS, rfl, _, _, rfl, rfl, _, rfl, ite2 (fun c => ?_) (fun c => ?_)⟩
    · refine ⟨_, rfl, l, _, _, _, rfl, rfl, hS, rfl, .inl ⟨_, rfl, _, rfl, _, _, rfl, rfl, (by show 0 < m; omega), ?_⟩⟩
      refine ⟨_, rfl, l, _, _, _, rfl, rfl, hS, rfl, _, rfl, _, _, rfl, rfl, ⟨by omega, h2⟩, _, rfl, l, _, _, 0, rfl, rfl, hl, rfl, _, rfl, ?_⟩
      exact q _ _ (Int.emod_nonneg _ (by omega)) (Int.emod_lt_of_pos _ (by omega)) ⟨_, _, upd_same, Int.ediv_nonneg ha (by omega), hb⟩ Keep.put
    · refine ⟨_, rfl, l, _, _, _, rfl, rfl, hS, rfl, _, _, rfl, rfl, .inr ⟨by decide, by decide⟩, _, _, rfl, rfl, .inl ⟨_, rfl, _, _, rfl, rfl, (by show (0 : Int) < 2147483647; decide), _, rfl, l, _, _, 1, rfl, rfl, hl, rfl, ?_⟩⟩
      refine ⟨_, rfl, l, _, _, _, rfl, rfl, SqL.of upd_same, rfl, _, _, rfl, rfl, ⟨by decide, by decide⟩, .inl ⟨_, rfl, _, rfl, _, _, rfl, rfl, (by show 0 < m; omega), ?_⟩⟩
      exact q _ _ (Int.emod_nonneg _ (by omega)) (Int.emod_lt_of_pos _ (by omega)) ⟨_, _, upd_same, ha, Int.emod_nonneg _ (by decide)⟩ Keep.put
theorem scPick : FnScope ["_law_feed_here", "_law_items"] ["_law_feed_here", "_law_items"] (defScope sPick) := ⟨rfl, rfl, rfl, by decide +kernel, rfl, by decide +kernel, by decide +kernel⟩
theorem ok_pick {f fD : Addr} {fd fdD : FuncData} (S : Std mg) (F : Fun K "_law_pick" "_law_pick" sPick f fd) (D : Df K mg "_law_draw" sDraw fD fdD ["_law_feed_here", "_law_many"]) : FnOk P w K mg base CX0 2 f fd ["_law_feed_here", "_law_items"] (spPick K) := by
  have GD : FnOk P w K mg base CX0 1 fD fdD ["_law_feed_here", "_law_many"] spDraw := ok_draw S D.F
  refine F.ok scPick (fun vs H Q E h => ?_) (fun cdv A outer s H vs Q E hr h => ?_)
  · obtain ⟨l, x, PP, rfl, _⟩ := h
    rfl
  · obtain ⟨l, x, PP, rfl, hf, hi, q⟩ := h
    refine ⟨_, pss_one (ps_ret (pe_ix ix_seq (pv 1) (pe_call GD hr rfl D.g D.F.kp D.b .nil pass0 (pa_cons (pv 0) (pa_cons (pe_callB call_len (by rfl) S.len PySem.boot_len (pa_cons (pv 1) pa_nil)) pa_nil))) (fun _ _ => rfl))), ?_⟩
    rcases hi with ⟨z, rfl, h0, h1, hP⟩ | ⟨a, xs, rfl, hne, hS, h0, h1, hP⟩
    · refine ⟨_, rfl, _, rfl, _, rfl, _, z.length, rfl, ⟨Nat.le_of_lt (small1000 h1), rfl⟩, l, (z.length : Int), rfl, hf, by omega, by omega, fun d H' d0 d1 hf' kp => ?_⟩
      obtain ⟨j, rfl⟩ : ∃ j : Nat, d = (j : Int) := ⟨d.toNat, by omega⟩
      have hj : j < z.cps.toList.length := by
        have : z.length = z.cps.toList.length := by show z.cps.size = _; simp
        omega
      refine .inr (.inr ⟨z, (j : Int), z.cps.toList[j], rfl, rfl, Nat.le_of_lt (small1000 h1), atI_nat (List.getElem?_eq_getElem hj), ?_⟩)
      exact q _ _ (hP _ (List.getElem_mem hj)) hf' kp
    · refine ⟨_, rfl, _, rfl, _, rfl, _, xs.length, rfl, .inl ⟨_, hS, rfl⟩, l, (xs.length : Int), rfl, hf, by omega, by omega, fun d H' d0 d1 hf' kp => ?_⟩
      obtain ⟨j, rfl⟩ : ∃ j : Nat, d = (j : Int) := ⟨d.toNat, by omega⟩
      have hj : j < xs.length := by omega
      have hS' : SqL K H' a xs := by
        rcases hS with (h | ⟨o, h⟩) | h
        · exact .inl (.inl (kp _ _ hne h))
        · exact .inl (.inr ⟨o, kp _ _ hne h⟩)
        · exact .inr h
      refine .inl ⟨a, xs, (j : Int), xs[j], rfl, rfl, hS', atI_nat (List.getElem?_eq_getElem hj), ?_⟩
      exact q _ _ (hP _ (List.getElem_mem hj)) hf' kp
end
end LK

namespace LK
open PySem PySem.Spec PyProof.Rows L2
/-- a name: one to four lower-case letters -/
structure NameOk (z : Str) : Prop where
  pos : 0 < z.length
  len : z.length ≤ 4
  low : ∀ c, c ∈ TL.tl z → 97 ≤ c ∧ c ≤ 122
  nif : z ≠ "if"
  nelse : z ≠ "else"
  nend : z ≠ "end"
def letters : Str := "abcdefghijklmnopqrstuvwxyz"
theorem letters_low : ∀ c, c ∈ TL.tl letters → 97 ≤ c ∧ c ≤ 122 := by decide +kernel
theorem letters_len : letters.length = 26 := by decide +kernel
theorem joinL_nil_flat : ∀ ps : List (List Nat), TL.joinL [] ps = ps.flatten
  | [] => rfl
  | [p] => by simp [TL.joinL]
  | p :: q :: r => by
    show p ++ ([] ++ TL.joinL [] (q :: r)) = _
    rw [joinL_nil_flat (q :: r), List.nil_append]
    rfl
theorem flat_one : ∀ {ys : List Str}, (∀ y, y ∈ ys → y.length = 1) → ((ys.map TL.tl).flatten).length = ys.length
  | [], _ => rfl
  | y :: r, h => by
    rw [List.map_cons, List.flatten_cons, List.length_append, flat_one fun z hz => h z (List.mem_cons_of_mem _ hz), ← TL.len_tl, h y (List.mem_cons_self ..), List.length_cons]
    omega
theorem tl_join0 (ys : List Str) : TL.tl (Txt.join "" ys) = (ys.map TL.tl).flatten := by
  rw [TL.join_eq, TL.tl_join]
  exact joinL_nil_flat _
theorem sum_one : ∀ {ys : List Str}, (∀ y, y ∈ ys → y.length = 1) → (ys.map (·.length)).sum = ys.length
  | [], _ => rfl
  | y :: r, h => by
    rw [List.map_cons, List.sum_cons, sum_one fun z hz => h z (List.mem_cons_of_mem _ hz), h y (List.mem_cons_self ..), List.length_cons]
    omega
theorem nameOk_q : NameOk "q" := ⟨by decide +kernel, by decide +kernel, by decide +kernel, by decide +kernel, by decide +kernel, by decide +kernel⟩
def spWord : Sp := fun vs H Q _ => ∃ (l : Addr), vs = [.ref l] ∧ Feed H l ∧ ∀ z H', NameOk z → Feed H' l → Keep l H H' → Q (.str z) H'
section
variable {P : Program} {w : World} {K : PySem.W.Frag} {mg : Str → Option Value} {base : Heap}
def nWord : List Str := ["_law_feed_here", "_law_letters", "_law_word_here", "_law_k"]
theorem scWord : FnScope nWord ["_law_feed_here"] (defScope sWord) := ⟨rfl, rfl, rfl, by decide +kernel, rfl, by decide +kernel, by decide +kernel⟩
theorem ok_word {f fD fP : Addr} {fd fdD fdP : FuncData} (S : Std mg) (F : Fun K "_law_word" "_law_word" sWord f fd) (D : Df K mg "_law_draw" sDraw fD fdD ["_law_feed_here", "_law_many"]) (PK : Df K mg "_law_pick" sPick fP fdP ["_law_feed_here", "_law_items"]) : FnOk P w K mg base CX0 3 f fd ["_law_feed_here"] spWord := by
  have GD : FnOk P w K mg base CX0 1 fD fdD ["_law_feed_here", "_law_many"] spDraw := ok_draw S D.F
  have GP : FnOk P w K mg base CX0 2 fP fdP ["_law_feed_here", "_law_items"] (spPick K) := ok_pick S PK.F D
  refine F.ok scWord (fun vs H Q E h => ?_) (fun cdv A outer s H vs Q E hr h => ?_)
  · obtain ⟨l, rfl, _⟩ := h
    rfl
  · obtain ⟨l, rfl, hf, q⟩ := h
    have hr1 : Room 1 _ := hr.mono (by decide)
    refine ⟨_, pss_cons (ps_set (i := 1) scWord.nd rfl (Or.inr rfl) pe_str)
      (pss_cons (ps_set (i := 2) scWord.nd rfl (Or.inl rfl) (pe_join pe_str (pe_lc (own := [("_law_k", 3)]) (g := gName 3) (tt := tYes) rfl scWord.nd
          (pi_range1 (by rfl) S.range (pa_cons (pe_op op_add pe_int (pe_call GD hr1 rfl D.g D.F.kp D.b .nil pass0 (pa_cons (pv 0) (pa_cons pe_int pa_nil)))) pa_nil))
          (blkOk_by (N := nWord) (sc := defScope sWord) (by decide +kernel)) (fun _ _ _ _ _ => pg_name (i := 3) scWord.nd rfl (Or.inl rfl)) (fun _ _ _ _ _ => pts_nil)
          (fun _ _ _ _ _ => pe_call GP hr rfl PK.g PK.F.kp PK.b .nil pass0 (pa_cons (pv 0) (pa_cons (pv 1) pa_nil))))))
      (pss_one (ps_ret (pe_ifExp (pt_cmpR op_in_seq (pv 2) (pe_tup (pa_cons pe_str (pa_cons pe_str (pa_cons pe_str pa_nil)))) (by rfl)) pe_str (pv 2))))), ?_⟩
    refine ⟨⟨_, rfl⟩, _, rfl, l, 4, rfl, hf, by decide, by decide, fun d H1 d0 d1 hf1 k1 => ⟨_, _, rfl, rfl, 1 + d, rfl, by omega, by omega, fun D hD => ?_⟩⟩
    have hlD : l ≠ D := fun e => by
      obtain ⟨a, b, e1, _⟩ := hf1
      rw [e, hD] at e1
      cases e1
    refine lc_range (lo := 0) (n := (1 + d).toNat) (fun i H2 => Feed H2 l ∧ (∀ b o, b ≠ l → H b = some o → H2 b = some o) ∧ ∃ ys : List Str, ys.length = i ∧ H2 D = some (.lst (ys.map V.str)) ∧ ∀ y, y ∈ ys → y.length = 1 ∧ ∀ c, c ∈ TL.tl y → 97 ≤ c ∧ c ≤ 122)
      ⟨hf1.same (same_new hD), fun b o n e => same_new hD b o (k1 b o n e), [], rfl, upd_same, fun y hy => by simp at hy⟩ ?_ ?_
    · rintro i H2 hi ⟨hf2, k2, ys, el, hy, hys⟩
      refine ⟨rfl, _, rfl, _, rfl, l, .str letters, (fun v => ∃ c : Nat, v = .str ⟨#[c]⟩ ∧ 97 ≤ c ∧ c ≤ 122), rfl, hf2, .inl ⟨_, rfl, by decide +kernel, by decide +kernel, fun c hc => ⟨c, rfl, letters_low c hc⟩⟩, ?_⟩
      rintro v H3 ⟨c, rfl, c0, c1⟩ hf3 k3
      refine ⟨ys.map V.str, k3 _ _ hlD.symm hy, ?_, ?_⟩
      · rw [List.length_map]
        exact small1000 (by omega)
      · refine ⟨hf3.keep (m := D) Keep.put hlD, fun b o n e => ?_, ys ++ [⟨#[c]⟩], by simp [el], by rw [upd_same]; simp, fun y hy' => ?_⟩
        · by_cases hb : b = D
          · exfalso
            rw [hb] at e n
            have z := k1 _ _ n e
            rw [hD] at z
            cases z
          · rw [upd_ne hb]
            exact k3 b o n (k2 b o n e)
        · rcases List.mem_append.mp hy' with z | z
          · exact hys y z
          · have e : y = ⟨#[c]⟩ := by simpa using z
            subst e
            exact ⟨rfl, fun c' hc' => by
              have e : c' = c := by simpa [TL.tl] using hc'
              subst e
              exact ⟨c0, c1⟩⟩
    · rintro H2 ⟨hf2, k2, ys, el, hy, hys⟩
      have hone : ∀ y, y ∈ ys → y.length = 1 := fun y h => (hys y h).1
      have l1 : ys.length = 1 + d.toNat := by omega
      have htl := tl_join0 ys
      have hlen : (Txt.join "" ys).length = ys.length := by rw [TL.len_tl, htl, flat_one hone]
      have hlow : ∀ c, c ∈ TL.tl (Txt.join "" ys) → 97 ≤ c ∧ c ≤ 122 := fun c hc => by
        rw [htl] at hc
        obtain ⟨l', h1, h2⟩ := List.mem_flatten.mp hc
        obtain ⟨y, hy', rfl⟩ := List.mem_map.mp h1
        exact (hys y hy').2 c h2
      refine ⟨_, _, ys, rfl, rfl, .inl (SqL.of hy), ?_, ?_⟩
      · rw [sum_one hone]
        show ys.length + ys.length * 0 ≤ 16777216
        omega
      refine ⟨_, rfl, (by show 3 ≤ sizeLine; decide), fun p hp => ⟨p, _, rfl, .inr (SqT.of upd_same), rfl, rfl, _, rfl, ?_⟩⟩
      have hl2 : l ≠ p := fun e => by
        obtain ⟨a, b, e1, _⟩ := hf2
        rw [e, hp] at e1
        cases e1
      have kk : Keep l H (upd H2 p (.tup [.str "if", .str "else", .str "end"])) := fun b o n e => same_new hp b o (k2 b o n e)
      refine ite2 (fun c => ?_) (fun c => ?_)
      · exact q _ _ nameOk_q (hf2.same (same_new hp)) kk
      · refine ⟨_, rfl, q _ _ ⟨by omega, by omega, hlow, fun e => ?_, fun e => ?_, fun e => ?_⟩ (hf2.same (same_new hp)) kk⟩
        · exact c (by rw [e]; decide +kernel)
        · exact c (by rw [e]; decide +kernel)
        · exact c (by rw [e]; decide +kernel)
end
end LK

/-! operations on instances of own classes that have a method for them -/
namespace LR
open PySem PySem.Spec PyProof.Rows L2
section
variable {X : Cx} {CX : CXT} {n : Nat} {f C : Addr} {fd : FuncData} {ps : List Str} {sp : Sp} {E : XK}
/-- a def called somewhere below the running body -/
theorem call_run {A : Around} {pins : List (Addr × Obj)} {σ : L2.St} {H : Hp} {s : Shared} {vs : List V} {us : List Value} {Q : VK} (sb : Sub X n A) (F : FnOk X.prog X.w X.K X.mg X.base CX n f fd ps sp) (hb : Binds X.K fd ps []) (hx : Passes CX X E)
    (I : Inv X pins σ H s) (r : Vals vs us) (h : sp vs H Q E) : wpAny (model X.prog X.w) A (call (.ref f) us) (EP X pins σ Q) X.xe s := by
  have e0 : Env0 X.prog X.w X.K X.mg X.base A X.stack s H := by
    have e := I.env0
    exact ⟨by rw [sb.fr]; exact e.frames, e.mod, e.bs, e.bsz, e.funs, e.frf, e.hok, e.bare⟩
  have hl := F.len _ _ _ _ h
  have hl2 : us.length = ps.length := by rw [← r.length, hl]
  refine wpAny_call (codeAny_mono (F.run A X.stack s H ⟨us, []⟩ us vs Q E sb.room e0 (by
    have z := hb s us I.kIn (by simpa using hl2)
    simpa using z) r h) fun res s' hq => ?_)
  cases res with
  | error e => exact hx pins σ H s e s' I hq
  | ok fl =>
    cases fl with
    | ret v => exact I.after hq
    | next => exact False.elim hq
    | brk => exact False.elim hq
    | cont => exact False.elim hq
theorem vals1r {a : Addr} {us : List Value} (r : Vals [V.ref a] us) : us = [.ref a] := by
  cases r with
  | cons r1 r2 =>
    cases r2
    cases r1
    rfl
/-- len(x) by an own __len__ -/
theorem call_lenOwn (F : FnOk X.prog X.w X.K X.mg X.base CX n f fd ps sp) (hs : PySem.W.findIn X.K (.ref C) "__len__" = some (some (.ref f))) (hf : PySem.W.isFn X.K (.ref f) = true) (hb : Binds X.K fd ps []) (hx : Passes CX X E) (hr : Room (n + 1) X.A) :
    CallR X (.builtin "len") (fun xs H Q => ∃ a dx fs, xs = [V.ref a] ∧ H a = some (.ins C dx fs) ∧ sp [V.ref a] H (fun v H' => ∃ k : Nat, v = .int k ∧ k < 4611686018427387904 ∧ Q (.int k) H') E) := by
  intro pins s σ H xs us Q I r h
  obtain ⟨a, dx, fs, rfl, ha, h⟩ := h
  have e := vals1r r
  subst e
  obtain ⟨mA, J, _⟩ := ins_get I.hok ha
  obtain ⟨od, J, _⟩ := J.look
  obtain ⟨m, hF⟩ := I.fr
  refine PySem.W.len_K hF I.ok.mod.kin J hs hf ?_
  refine wpAny_mono (call_run (A := X.A.in1) ⟨hr.in1, rfl⟩ F hb hx I (.cons (show RelV (V.ref a) (Value.ref a) from rfl) .nil) h) (fun v s' q => ?_) fun _ _ z => z
  obtain ⟨y, H', I', ry, k, rfl, hk, q⟩ := q
  obtain ⟨t, rfl⟩ := ry
  exact ⟨⟨by omega, by omega⟩, .int k, H', I'.tok _, ⟨_, rfl⟩, q⟩
/-- what an own operator must give -/
def NotNI (v : V) : Prop := True
/-- x == y by an own __eq__ of x's class -/
theorem op_eqOwn (F : FnOk X.prog X.w X.K X.mg X.base CX n f fd ps sp) (hs : PySem.W.findIn X.K (.ref C) "__eq__" = some (some (.ref f))) (hf : PySem.W.isFn X.K (.ref f) = true) (hb : Binds X.K fd ps []) (hx : Passes CX X E) (hr : Room n X.A) :
    OpR X (compareOp .Eq) (fun x y H Q => ∃ a dx fs t, x = V.ref a ∧ H a = some (.ins C dx fs) ∧ TyX X.K H y t ∧ PySem.W.notFirst X.K C t = true ∧ sp [V.ref a, y] H (fun v H' => ∃ b, v = .bl b ∧ Q (.bl b) H') E) := by
  intro pins s σ H x y v u Q I rx ry h
  obtain ⟨a, dx, fs, t, rfl, ha, ty, hn, h⟩ := h
  cases rx
  obtain ⟨mA, J, _⟩ := ins_get I.hok ha
  obtain ⟨od, J, _⟩ := J.look
  obtain ⟨m, hF⟩ := I.fr
  obtain ⟨Pk, Z, pk, _⟩ := kit_of I ry ty
  show wpAny (model X.prog X.w) X.A (richCompare .Eq (.ref a) u) (EP X pins σ Q) X.xe s
  refine PySem.W.cmp_K (op := .Eq) (tb := t) hr.units0 hF I.ok.mod.kin J (Z.ty _ _ I.kIn pk) hn hs hf ?_
  refine wpAny_mono (call_run (A := X.A) ⟨hr, rfl⟩ F hb hx I (.cons (show RelV (V.ref a) (Value.ref a) from rfl) (.cons ry .nil)) h) (fun v s' q => ?_) fun _ _ z => z
  obtain ⟨y', H', I', ry', b, rfl, q⟩ := q
  cases ry'
  exact ⟨.bl b, H', I', rfl, q⟩
end
end LR

/-! error objects of own classes as plain values: made, kept, read, asked for their class -/
namespace LR
open PySem PySem.Spec PyProof.Rows L2
/-- Err(e, ..), by the __init__ that keeps sp; the object stays a value -/
def tErrV (C : Addr) (sp : Sp) (ta : TA) : TE := fun σ H Q => ta σ H fun vs H1 => vs.length ≤ 1000 ∧ ∀ a, H1 a = none → sp (.ref a :: vs) (upd H1 a (exo a C none)) (fun _ H2 => Q (.ref a) H2) E0
/-- Err(), where nothing keeps arguments -/
def tErr0 (C : Addr) : TE := fun _ H Q => ∀ a, H a = none → Q (.ref a) (upd H a (exo a C none))
/-- (..).n of such an object -/
def tErrF (K : PySem.W.Frag) (n : Str) (te : TE) : TE := fun σ H Q => te σ H fun x H1 => ∃ (a C dx : Addr) (fs : List (Str × V)) (v : V), x = .ref a ∧ XfC K C ∧ PySem.W.findIn K (.ref C) n = some none ∧
  H1 a = some (exo a C (some dx)) ∧ H1 dx = some (exd dx fs) ∧ fs.lookup n = some v ∧ Q v H1
/-- isinstance of such an object -/
def rIsErr (K : PySem.W.Frag) : List V → Hp → VK → Prop := fun xs H Q => ∃ (a D : Addr) (d : Option Addr) (c : V) (cv : Value) (b : Bool), xs = [.ref a, c] ∧ H a = some (exo a D d) ∧ (∀ dx, d = some dx → ∃ fs, H dx = some (exd dx fs)) ∧ ExcC K D ∧ ClsV c cv ∧
  PySem.W.kitOne K (.ref D) cv = some b ∧ Q (.bl b) H
section
variable {X : Cx} {pins : List (Addr × Obj)} {σ : L2.St} {H : Hp} {s : Shared}
/-- where it stands -/
theorem err_inst {a D : Addr} {d : Option Addr} (I : Inv X pins σ H s) (ha : H a = some (exo a D d)) (hd : ∀ dx, d = some dx → ∃ fs, H dx = some (exd dx fs)) : ∃ (ox : Obj) (od : Option Obj), PySem.W.InstAt s.heap a ox D od ∧
    ∀ dx fs n v, d = some dx → H dx = some (exd dx fs) → fs.lookup n = some v → ∃ o u, od = some o ∧ PySem.W.lookIn n o = some (some u) ∧ RelV v u := by
  obtain ⟨t1, ho⟩ := exo_at I.hok ha
  cases d with
  | none => exact ⟨_, none, ⟨ho, rfl, rfl, trivial⟩, fun dx fs n v e => nomatch e⟩
  | some dx =>
    obtain ⟨fs0, h0⟩ := hd dx rfl
    obtain ⟨m0, hn0, _⟩ := exd_at I.hok h0
    obtain ⟨od, hod, look⟩ := lookIn_ns hn0
    refine ⟨_, some od, ⟨ho, rfl, rfl, hod⟩, fun dx' fs n v e hx hl => ?_⟩
    obtain rfl : dx = dx' := Option.some.inj e
    obtain ⟨m1, hn1, rel⟩ := exd_at I.hok hx
    obtain ⟨od1, hod1, look1⟩ := lookIn_ns hn1
    rw [hod] at hod1
    obtain rfl : od = od1 := Option.some.inj hod1
    obtain ⟨u, hu, ru⟩ := RelO.some_of (v := v) (o := m1 n) (by rw [← hl]; exact rel n)
    exact ⟨od, u, rfl, by rw [look1, hu], ru⟩
theorem pe_errF {e : Expr} {te : TE} {n : Str} {pos : Pos} (he : PE X e te) (hb : attributeBase e n X.env (eval e X.env) = eval e X.env := by rfl) : PE X (.Attribute e n pos) (tErrF X.K n te) := by
  refine ⟨fun pins s σ H Q I h => attr_of hb (thn (he.run pins s σ H _ I h) fun u s1 hh => ?_)⟩
  obtain ⟨x, H1, I1, rx, a, C, dx, fs, v, ex, T, hno, ha, hx, hl, q⟩ := hh
  subst ex
  obtain rfl : u = Value.ref a := rx
  obtain ⟨ox, od, J, field⟩ := err_inst I1 ha fun dx' e => ⟨fs, by rw [← Option.some.inj e]; exact hx⟩
  obtain ⟨o, u, rfl, hlk, ru⟩ := field dx fs n v rfl hx hl
  exact HandSPX.exc_get I1.kIn J T.ga T.gg T.exC (PySem.W.findObj_own T.hdC hno rfl hlk) (handed_of ru) ⟨v, H1, I1.tok _, ru, q⟩
theorem call_isErr : CallR X (.builtin "isinstance") (rIsErr X.K) := by
  intro pins s σ H xs us Q I r h
  obtain ⟨a, D, d, c, cv, b, rfl, ha, hd, T, k, e, q⟩ := h
  obtain ⟨u1, u2, rfl, r1, r2⟩ := vals2 r
  obtain rfl := k.eq r2
  obtain rfl : u1 = Value.ref a := r1
  obtain ⟨ox, od, J, _⟩ := err_inst I ha hd
  refine PySem.W.kia_one (PySem.W.kitx_exc ?_ T.hg T.hk T.hs T.ha T.hn T.ht T.hm) I.kIn J e (fun z => nomatch z) fun tk => ⟨.bl b, H, I.tok tk, rfl, q⟩
  obtain ⟨cd, hc, _⟩ := PySem.W.any_some T.hd
  rw [hc]
  rfl
end
section
variable {X : Cx} {e : Expr} {es : List Expr} {ta : TA} {p pos : Pos}
/-- the exception's plain form is the tracked one -/
theorem exo_new {P : Program} {w : World} {H : Hp} {h : Heap} {a t C : Addr} (he : h.get? a = some ({ cls := .ref C, dict := none, data := .fields #[.ref t, .none, .none, .none, .bool false, .none] } : Obj)) : ObjOk P w H h a (exo a C none) := exo_ok he
theorem pe_errV {CX : CXT} {x : Str} {C fI : Addr} {k : Nat} {fd : FuncData} {ps : List Str} {sp : Sp} (T : OexC X.K C) (iC : PySem.W.findIn X.K (.ref C) "__init__" = some (some (.ref fI))) (tI : PySem.W.typeIn X.K (.ref fI) = some (.type "function"))
    (F1 : FnOk X.prog X.w X.K X.mg X.base CX k fI fd ps sp) (ret : ∀ vs H Q, sp vs H Q E0 → sp vs H (fun v H' => v = .non ∧ Q v H') E0) (hr : Room (k + 1) X.A) (hb : Binds X.K fd ps []) (hx : Passes CX X E0) (hg : Gl X x) (hm : X.mg x = some (.ref C)) (ha : PA X (e :: es) ta)
    (hdb : (x == ("__debug__" : Str)) = false := by decide) (he : starEach (e :: es) X.env = (false, eval e X.env) :: starEach es X.env := by rfl) (hpl : (backTo pos (starEach es X.env)).any (·.1) = false := by rfl) :
    PE X (.Call (.Name x p) (e :: es) [] pos) (tErrV C sp ta) := by
  refine ⟨fun pins s σ H Q I h => ?_⟩
  obtain ⟨nm, q, N, bs, bm, sn, sub, ab, col, dd, k0, k1, k2, k3, k5, hC, hbm⟩ := T.cls
  refine wpAny_Call_Name_kw (ld_glob I hg hm ?_ hdb)
  refine PySem.W.callWith_K (h₀ := X.base) I.ok.mod.kin T.kC (thn (ha.run pos pins s σ H _ I h) fun us s1 ⟨vs, H1, I1, r1, hz, q1⟩ => ⟨I1.kIn, ?_⟩) he hpl
  obtain ⟨hp, g, dr, tk, os⟩ := s1
  have new := q1 (hp.objs.size + 1) (I1.hok.fresh (Nat.le_succ _))
  have run := ret _ _ _ new
  have J := I1.laid (t' := tk) (h' := (hp.push (PySem.W.kdv_tup us)).push (PySem.HandSPX.excO C hp.objs.size)) (fun b o z => Heap.get?_push_of_some _ (Heap.get?_push_of_some _ z)) (Nat.le_succ hp.objs.size) (exo_ok (C := C) (d := none) (t1 := hp.objs.size) (by heap_get))
  have rels : Vals (V.ref (hp.objs.size + 1) :: vs) (Value.ref (hp.objs.size + 1) :: us) := .cons rfl r1
  have many : (Value.ref (hp.objs.size + 1) :: us).length = ps.length := by rw [← rels.length, F1.len _ _ _ _ new]
  have few : us.length ≤ sizeLine := by rw [← Paired.length r1, sizeLine_eq]; omega
  have bound := hb _ (Value.ref (hp.objs.size + 1) :: us) J.kIn (by simpa using many)
  rw [List.append_nil] at bound
  refine wpAny_call (PySem.HandSPX.call_own F.excBase_ValueError (fun Y => PySem.HandSPX.refsVE_contains Y bm hbm) (I1.kIn _ _ hC) (PySem.W.looks_findIn I1.kIn iC) (fun self => PySem.W.bind_fn I1.kIn self tI) few
    (codeAny_mono (F1.run _ X.stack _ _ _ _ _ _ E0 (hr.make C us []) (J.env0.make C us []) bound rels run) fun r s' out => ?_))
  cases r with
  | error er => exact hx pins σ _ _ er s' J out
  | ok fl =>
    cases fl with
    | ret u =>
      have out' := out
      obtain ⟨v, H2, _, _, _, _, rv, ev, _⟩ := out'
      subst ev
      obtain ⟨v', H3, J3, r3, e3, q3⟩ := J.after out
      exact ⟨rv, ⟨.ref (hp.objs.size + 1), H3, J3, rfl, q3⟩⟩
    | next => exact False.elim out
    | brk => exact False.elim out
    | cont => exact False.elim out
/-- Err(), by ValueError's own __init__ -/
theorem pe_err0 {x : Str} {C : Addr} (T : OexC X.K C) (iC : PySem.W.findIn X.K (.ref C) "__init__" = some (some (.builtin "ValueError.__init__"))) (hg : Gl X x) (hm : X.mg x = some (.ref C)) (hdb : (x == ("__debug__" : Str)) = false := by decide) :
    PE X (.Call (.Name x p) [] [] pos) (tErr0 C) := by
  refine ⟨fun pins s σ H Q I h => ?_⟩
  obtain ⟨nm, q, N, bs, bm, sn, sub, ab, col, dd, k0, k1, k2, k3, k5, hC, hbm⟩ := T.cls
  refine wpAny_Call_Name_kw (ld_glob I hg hm ?_ hdb)
  obtain ⟨hp, g, dr, tk, os⟩ := s
  refine PySem.W.callWith_K0 I.kIn T.kC ?_
  refine PySem.W.call_B F.excBase_ValueError (fun Y => PySem.HandSPX.refsVE_contains Y bm hbm) (I.kIn _ _ hC) (PySem.W.looks_findIn I.kIn iC) (Nat.zero_le _) fun h' keep at1 at2 => ?_
  exact ⟨.ref (hp.objs.size + 1), _, I.laid (t' := tk) keep (Nat.le_succ _) (exo_ok at1), rfl, h _ (I.hok.fresh (Nat.le_succ _))⟩
end
end LR

/-! sets of texts: set(list of texts), sorted(that) -/
namespace LR
open PySem PySem.Spec PyProof.Rows L2
/-- the text of a member -/
def txtOf (e : Int × Value) : Str := match e.2 with | .str z _ => z | _ => Str.empty
/-- a member is a text, with its hash -/
def TxtE (w : World) (e : Int × Value) : Prop := ∃ (z : Str) (tk : Tok), e.2 = Value.str z tk ∧ e.1 = hashStr w z
/-- what a table keeps beside its members: its places rise, and its maker is known -/
def Led (w : World) (t : SetTable) : Prop := Ris t.place.toList ∧ (w.params.followText "set-order" = true ∨ t.led = true)
/-- the set of texts at a -/
def SetS (w : World) (h : Heap) (a : Addr) (S : Str → Bool) (n : Nat) : Prop :=
  ∃ (o : Obj) (es : Array (Int × Value)) (ep : Nat) (t : SetTable), h.get? a = some o ∧ o.ExactSet ∧ o.data = .set es ep t ∧
    ((∀ e ∈ es.toList, TxtE w e) ∧ (es.toList.map txtOf).Nodup ∧ ∀ k, S k = true ↔ k ∈ es.toList.map txtOf) ∧ (es.size < scanBound ∧ t.fits es.size = true ∧ es.size = n) ∧ Led w t
section
variable {P : Program} {w : World} {h h' : Heap} {a : Addr} {S : Str → Bool} {n : Nat}
theorem SetS.at (R : SetS w h a S n) (k : ∀ o, h.get? a = some o → h'.get? a = some o) : SetS w h' a S n := by
  obtain ⟨o, es, ep, t, q, r⟩ := R
  exact ⟨o, es, ep, t, k o q, r⟩
theorem SetS.congr {S' : Str → Bool} (R : SetS w h a S n) (e : ∀ k, S' k = S k) : SetS w h a S' n := by rwa [show S' = S from funext e]
theorem txt_elems {l : List (Int × Value)} (g : ∀ e ∈ l, TxtE w e) : ElemsOf (PySem.strKind P w) l := fun e he => by
  obtain ⟨z, tk, q1, q2⟩ := g e he
  refine ⟨⟨z, ?_, q2⟩, ?_⟩ <;> rw [q1]
  · exact strKind_is P w z tk
  · rfl
theorem txt_is {e : Int × Value} (g : TxtE w e) (k : Str) : (PySem.strKind P w).is k e.2 = true ↔ txtOf e = k := by
  obtain ⟨z, tk, q, _⟩ := g
  have h1 : txtOf e = z := by unfold txtOf; rw [q]
  rw [h1, q]
  show Value.isStrOf k (.str z tk) = true ↔ z = k
  simp [Value.isStrOf]
theorem txt_mem {l : List (Int × Value)} (g : ∀ e ∈ l, TxtE w e) (k : Str) : k ∈ l.map txtOf ↔ ∃ e ∈ l, (PySem.strKind P w).is k e.2 = true :=
  ⟨fun z => by obtain ⟨e, he, q⟩ := List.mem_map.mp z; exact ⟨e, he, (txt_is (g e he) k).2 q⟩, fun ⟨e, he, q⟩ => List.mem_map.mpr ⟨e, he, (txt_is (g e he) k).1 q⟩⟩
end
section
variable {P : Program} {w : World} {A : Around} {E : Value → Shared → Prop} {s : Shared} {a : Addr} {S : Str → Bool} {n : Nat}
/-- the members stored, the table relaid if it is too full -/
theorem setS_tail {give : Bool → Sem Unit} (hg : ∀ (b : Bool) (s₁ : Shared) (Q' : Unit → Shared → Prop), Q' () s₁ → wpAny (model P w) A (give b) Q' E s₁) {o : Obj} {es es1 : Array (Int × Value)} {ep : Nat} {t t2 : SetTable} {S' : Str → Bool}
    (ho : s.heap.get? a = some o) (hex : o.ExactSet) (hd : o.data = .set es ep t) (g1 : (∀ e ∈ es1.toList, TxtE w e) ∧ (es1.toList.map txtOf).Nodup ∧ ∀ k, S' k = true ↔ k ∈ es1.toList.map txtOf)
    (hb1 : es1.size < scanBound) (hf2 : t2.fits es1.size = true) (hr : Led w t2) {wasDummy : Bool} {R : Option Bool → Shared → Prop} (hR : ∀ h', Heap.SameBut a s.heap h' → SetS w h' a S' es1.size → R (some true) { s with heap := h' }) :
    wpAny (model P w) A (do
        storeSet a es1 t2
        if (!wasDummy && t2.tooFull) = true then do
            give (relayAll t2 es1 (SetTable.grown es1.size)).2.2
            storeSet a (relayAll t2 es1 (SetTable.grown es1.size)).1 (relayAll t2 es1 (SetTable.grown es1.size)).2.1
            pure (some true)
          else pure (some true)) R E s := by
  have z1 := store_at (es' := es1) (t' := t2) ho hd
  have z2 := Heap.SameBut.update s.heap a (Obj.putSet es1 t2)
  refine wpAny_bind (wpAny_storeSet_of ho hd ?_ (fits_of_scanBound hb1))
  split
  · obtain ⟨g1a, g1b, g1c⟩ := g1
    have y1 := relayAll_perm t2 es1 (SetTable.grown es1.size)
    have y2 := relayAll_fits t2 es1 (SetTable.grown es1.size)
    have y3 := relayAll_ris t2 es1 (SetTable.grown es1.size)
    have y4 := relayAll_led t2 es1 (SetTable.grown es1.size)
    revert y1 y2 y3 y4
    generalize relayAll t2 es1 (SetTable.grown es1.size) = Z
    obtain ⟨es2, t3, gave⟩ := Z
    intro y1 y2 y3 y4
    dsimp only at y1 y2 y3 y4 ⊢
    have sz : es2.size = es1.size := by simpa using y1.length_eq
    refine wpAny_bind (hg _ _ _ (wpAny_bind (wpAny_storeSet_of z1 rfl ?_ (fits_of_scanBound (by rw [sz]; exact hb1)))))
    refine wpAny_pure (hR _ (z2.trans (Heap.SameBut.update _ a _)) ⟨_, es2, _, t3, store_at (es' := es2) (t' := t3) z1 rfl, hex, rfl, ⟨fun e he => g1a e (y1.mem_iff.mp he), (y1.map txtOf).nodup_iff.mpr g1b, fun k => (g1c k).trans (y1.map txtOf).mem_iff.symm⟩, ⟨by rw [sz]; exact hb1, y2, sz⟩, y3, ?_⟩)
    rcases hr.2 with q | q
    · exact .inl q
    · exact .inr (y4.trans q)
  · exact wpAny_pure (hR _ z2 ⟨_, es1, _, t2, z1, hex, rfl, g1, ⟨hb1, hf2, rfl⟩, hr⟩)
/-- one more text -/
theorem setS_add {k : Str} {tk : Tok} {Q : Bool → Shared → Prop} (R : SetS w s.heap a S n) (room : n + 1 < scanBound)
    (hQ : ∀ h', Heap.SameBut a s.heap h' → SetS w h' a (fun j => S j || decide (j = k)) (if S k = true then n else n + 1) → Q (!S k) { s with heap := h' }) :
    wpAny (model P w) A (setAddHashed a (.str k tk) ((PySem.strKind P w).hash k)) Q E s := by
  obtain ⟨o, es, ep, t, ho, hex, hd, ⟨g, nd, hm⟩, ⟨hb, hf, hn⟩, hr⟩ := R
  have el : ElemsOf (PySem.strKind P w) es.toList := txt_elems g
  have sc : (Value.str k tk).scannable = true := rfl
  unfold setAddHashed setAddHashedIn
  refine wpAny_holding (wpAny_bind (wpAny_setState_of ho hd hf ?_))
  dsimp only
  rw [byScan_of sc hb el]
  simp only [↓reduceIte]
  unfold setAddByScan
  refine wpAny_bind (wpAny_bind (wpAny_rule (wpAny_bind (wpAny_setScan_of (strKind_is P w k tk) ho hd hf el ?_))))
  cases hfi : List.findIdx? (fun e => (PySem.strKind P w).is k e.2) es.toList with
  | some j =>
    obtain ⟨hj, pj, _⟩ := List.findIdx?_eq_some_iff_getElem.mp hfi
    have yes : S k = true := (hm k).2 ((txt_mem (P := P) g k).2 ⟨_, List.getElem_mem hj, pj⟩)
    have q := hQ s.heap (Heap.SameBut.refl a s.heap) ⟨o, es, ep, t, ho, hex, hd, ⟨g, nd, fun i => ?_⟩, ⟨hb, hf, by rw [if_pos yes]; exact hn⟩, hr⟩
    · rw [yes] at q
      exact wpAny_pure (wpAny_pure q)
    · rw [← hm i]
      by_cases e : i = k
      · rw [e, yes]; simp
      · simp [e]
  | none =>
    have fresh : k ∉ es.toList.map txtOf := fun z => by
      obtain ⟨e, he, q⟩ := (txt_mem (P := P) g k).1 z
      have c := List.findIdx?_eq_none_iff.mp hfi e he
      rw [c] at q
      cases q
    have no : S k = false := by
      cases q : S k with
      | false => rfl
      | true => exact absurd ((hm k).1 q) fresh
    have gw : ∀ (b : Bool) (s₁ : Shared) (Q' : Unit → Shared → Prop), Q' () s₁ → wpAny (model P w) A (match b with | true => rule "set.scan.the-table-gave-way" | false => pure ()) Q' E s₁ := fun b s₁ Q' q => by
      cases b
      · exact wpAny_pure q
      · exact wpAny_rule q
    dsimp only
    have y1 := layNew_perm t es ((PySem.strKind P w).hash k) (.str k tk)
    have y2 := layNew_fits t es ((PySem.strKind P w).hash k) (.str k tk)
    have y3 := layNew_ris t es ((PySem.strKind P w).hash k) (.str k tk) hr.1
    have y4 := layNew_led t es ((PySem.strKind P w).hash k) (.str k tk)
    revert y1 y2 y3 y4
    generalize layNew t es ((PySem.strKind P w).hash k) (.str k tk) = Z
    obtain ⟨es1, t1, wasDummy, gave⟩ := Z
    intro y1 y2 y3 y4
    dsimp only at y1 y2 y3 y4 ⊢
    rw [Array.toList_push] at y1
    have pc : es1.toList.Perm (((PySem.strKind P w).hash k, Value.str k tk) :: es.toList) := y1.trans (List.perm_append_singleton _ _)
    have pk : (es1.toList.map txtOf).Perm (k :: es.toList.map txtOf) := pc.map txtOf
    have mem1 : (∀ e ∈ es1.toList, TxtE w e) ∧ (es1.toList.map txtOf).Nodup ∧ ∀ i, (S i || decide (i = k)) = true ↔ i ∈ es1.toList.map txtOf := by
      refine ⟨fun e he => ?_, pk.nodup_iff.mpr (List.nodup_cons.mpr ⟨fresh, nd⟩), fun i => ?_⟩
      · rcases List.mem_cons.mp (pc.mem_iff.mp he) with z | z
        · rw [z]; exact ⟨k, tk, rfl, rfl⟩
        · exact g e z
      · rw [pk.mem_iff, List.mem_cons, ← hm i]
        by_cases e : i = k <;> simp [e]
    have sz : es1.size = n + 1 := by
      have := pc.length_eq
      simp at this
      omega
    have bd : es1.size < scanBound := by omega
    have ld : Led w t1 := ⟨y3, hr.2.imp id fun z => y4.trans z⟩
    have fin : ∀ h', Heap.SameBut a s.heap h' → SetS w h' a (fun j => S j || decide (j = k)) es1.size → Q true { s with heap := h' } := fun h' sb r => by
      have q := hQ h' sb
      rw [no] at q
      rw [sz] at r
      exact q r
    refine wpAny_bind (gw _ _ _ ?_)
    split
    · refine wpAny_bind ?_
      rw [hashByValue_scannable 8 sc]
      refine wpAny_pure (setS_tail (fun b s₁ Q' q => gw b s₁ Q' q) ho hex hd mem1 bd ?_ ?_ fun h' sb r => wpAny_pure (fin h' sb r))
      · first | exact y2 | (split <;> first | exact y2 | exact SetTable.fits_plain_off y2)
      · first | exact ld | (split <;> exact ld)
    · refine wpAny_bind (wpAny_pure ?_)
      simp only [↓reduceIte]
      exact setS_tail (fun b s₁ Q' q => gw b s₁ Q' q) ho hex hd mem1 bd y2 ld fun h' sb r => wpAny_pure (fin h' sb r)
end

section
variable {P : Program} {w : World} {A : Around} {E : Value → Shared → Prop} {s : Shared}
/-- set.update of an iterator that yields the texts xs -/
theorem setS_loop {I S : Addr} {fp wr : List Addr} {G : Array GenState → Array GenState → Prop} {n : Nat} {Pv : Nat → Value → Prop} {St : Nat → Shared → Prop} {R : Result → Shared → Prop} (W : WalksS P w A.in1 I fp wr G n Pv St) (hSf : S ∉ fp) (xs : List Str) (hn : n = xs.length)
    (hb : xs.length + 1 < scanBound) (hval : ∀ i v, Pv i v → ∃ k t, xs[i]? = some k ∧ v = .str k t) : ∀ (k i : Nat) (s : Shared), i + k = n → St i s → (∃ c, c ≤ i ∧ SetS w s.heap S (fun j => decide (j ∈ xs.take i)) c) →
      (∀ s' c, Moved (S :: wr) G s s' → c ≤ n → SetS w s'.heap S (fun j => decide (j ∈ xs)) c → R (.ok (.ret .none)) s') → codeAny (model P w) A (.builtin "set.update.loop" ⟨[.ref S, .ref I], []⟩) R s := by
  have nw : S ∉ wr := fun h => hSf (W.sub _ h)
  have up : ∀ b ∈ wr, b ∈ S :: wr := fun b hb => List.mem_cons_of_mem _ hb
  intro k
  induction k with
  | zero =>
    rintro i s rfl hst ⟨c, hc, hS⟩ hR
    refine codeAny_builtin PyProof.Rows.F.entry_set_update_loop ?_
    rw [Around.under_plainId PyProof.Rows.F.plain_set_update_loop _]
    show wpAny _ A.in1 (pyNext (.ref I) >>= _) _ _ s
    refine wpAny_bind (W.done s _ _ hst fun s' hm => ?_)
    rw [List.take_of_length_le (by omega)] at hS
    exact wpAny_pure (hR s' c (hm.mono up) hc (hS.at fun o e => hm.heap S o nw e))
  | succ k ih =>
    rintro i s hk hst ⟨c, hc, hS⟩ hR
    have lt : i < n := by omega
    refine codeAny_builtin PyProof.Rows.F.entry_set_update_loop ?_
    rw [Around.under_plainId PyProof.Rows.F.plain_set_update_loop _]
    show wpAny _ A.in1 (pyNext (.ref I) >>= _) _ _ s
    refine wpAny_bind (W.item i s _ _ lt hst fun v s' hP hst' hm => ?_)
    obtain ⟨z, t, hz, rfl⟩ := hval i v hP
    show wpAny _ A.in1 (holding [Value.str z t] (setAdd S (.str z t)) >>= _) _ _ s'
    unfold setAdd
    refine wpAny_bind (wpAny_holding (wpAny_holding (wpAny_bind ((PySem.strKind P w).pyHash (k := z) (strKind_is _ _ _ _) ?_))))
    refine setS_add (s := { s' with toks := s'.toks + 1 }) (hS.at fun o e => hm.heap S o nw e) (by omega) fun h' hsb hS2 => ?_
    have hS3 : SetS w h' S (fun j => decide (j ∈ xs.take (i + 1))) (if decide (z ∈ xs.take i) = true then c else c + 1) := hS2.congr fun j => by
      rw [List.take_add_one, hz]
      simp [List.mem_append]
    refine wpAny_pure ⟨plainId_quiet PyProof.Rows.F.plain_set_update_loop _, ih (i + 1) _ (by omega) (W.frame _ s' _ _ hst' (Nat.le_succ _) fun b hb o e => (hsb.2 b (fun h => hSf (h ▸ hb))).trans e) ⟨_, by split <;> omega, hS3⟩ fun s'' c2 hm2 hc2 hS4 => ?_⟩
    exact hR s'' c2 (Moved.trans W.gtrans ((hm.mono up).then_heap (Nat.le_succ _) fun b o hb e => (hsb.2 b (fun h => hb (h ▸ List.mem_cons_self))).trans e) hm2) hc2 hS4
/-- a set as it is made -/
abbrev bareSet (w : World) : Obj := { cls := .type "set", dict := none, data := .set #[] 0 (.fresh 0 0 (!w.params.followText "set-order")) }
theorem setS_none {h : Heap} {a : Addr} {xs : List Str} (ho : h.get? a = some (bareSet w)) : SetS w h a (fun j => decide (j ∈ xs.take 0)) 0 := by
  refine ⟨bareSet w, #[], 0, _, ho, ⟨rfl, rfl, rfl⟩, rfl, ⟨fun e he => by simp at he, by simp, fun k => by simp⟩, ⟨by decide, rfl, rfl⟩, List.Pairwise.nil, ?_⟩
  show _ ∨ (!w.params.followText "set-order") = true
  cases w.params.followText "set-order" <;> simp
set_option maxHeartbeats 6400000 in
/-- set(xs), xs a list of texts -/
theorem set_of_list {l : Addr} {items : Array Value} (xs : List Str) {Q : Value → Shared → Prop} (hh : A.handled = none) (hl : s.heap.IsList l items) (hit : PyProof.Rows.StrsAre items.toList xs) (hb : xs.length + 1 < scanBound)
    (h : ∀ (h' : Heap) (tk c : Nat), SetS w h' s.heap.objs.size (fun j => decide (j ∈ xs)) c → c ≤ xs.length → (∀ b o, s.heap.get? b = some o → h'.get? b = some o) → Q (.ref s.heap.objs.size) { s with heap := h', toks := tk }) :
    wpAny (model P w) A (call (.type "set") [.ref l]) Q E s := by
  have isz : items.size = xs.length := by
    rw [← StrsAre.len_eq hit, Array.length_toList]
  obtain ⟨c, tl, hmro⟩ := PySem.F.called_set.mro
  have hmade := PySem.F.called_set.made
  have hsub := PySem.F.called_set.sub
  refine wpAny_call (codeAny_of_tree ?_)
  show wpAny _ _ (callAny (.type "set") _) _ _ _
  refine wpAny_pure ⟨Code.quiet_builtin _ (by decide +kernel), codeAny_builtin PySem.F.entry_type_call ?_⟩
  rw [Around.under_plain (weight_type_call_type "set" [.ref l] []) rfl]
  have h1 := PySem.F.called_set.notType
  have h2 := PySem.F.called_set.canCreate
  have hct := PySem.F.typeCall_set_1 (.ref l)
  repeat (any_goals (first | assumption | wp_step))
  refine codeAny_mono (code_set_led1 (.ref l) (E := E) (Q₁ := fun obj s₁ => obj = .ref s.heap.objs.size ∧ s₁ = { s with heap := s.heap.push (bareSet w) }) ⟨rfl, rfl⟩) fun r s₁ hr => ?_
  cases r with
  | error er => exact hr
  | ok fl =>
   cases fl with
   | ret obj =>
    obtain ⟨rfl, rfl⟩ := hr
    have hS : (s.heap.push (bareSet w)).get? s.heap.objs.size = some (bareSet w) := Heap.get?_push_size _ rfl
    have hT : Shared.TypeIs { s with heap := s.heap.push (bareSet w) } (.ref s.heap.objs.size) "set" := ⟨_, hS, rfl⟩
    have hli := PySem.F.called_set.init.lookup
    have hbi := PySem.F.called_set.init.bind (.ref s.heap.objs.size)
    repeat (any_goals (first | assumption | wp_step))
    refine codeAny_mono (codeAny_call_builtin (R := wants (fun r s₂ => r = .none ∧ ∃ h' tk c, s₂ = { s with heap := h', toks := tk } ∧ SetS w h' s.heap.objs.size (fun j => decide (j ∈ xs)) c ∧ c ≤ xs.length ∧ (∀ b o, s.heap.get? b = some o → h'.get? b = some o)) E)
      PySem.F.called_set.init.plain PySem.F.entry_set_init (check_set_init_1 hT ?_)) fun r₂ s₂ hr₂ => ?_
    · obtain ⟨⟨k0, k1, k2, k3⟩, hol, hcl, nl, hdl⟩ := hl
      dsimp only at hcl hdl
      subst hcl hdl
      have hol' : (s.heap.push (bareSet w)).get? l = some { cls := .type "list", dict := k1, data := .seq items nl, slots := k3 } := Heap.get?_push_of_some _ hol
      have u1 := PySem.F.sub_list_set
      have u2 := PySem.F.sub_list_frozenset
      have u3 : (Value.type "list" == Value.type "dict") = false := by decide
      have hl1 : (s.heap.push (bareSet w)).IsList l items := ⟨_, hol', rfl, nl, rfl⟩
      unfold Builtin.«set.__init__» noKeywords Builtin.Frozenset.updateFrom
      generalize hPI : pyIter = PI
      wp_walk
      subst hPI
      refine wpAny_pyIter_list hl1 (wpAny_bind (wpAny_runValue ?_))
      have lS : l < s.heap.objs.size := Heap.lt_size hol
      have hh3 : A.in1.in1.in1.handled = none := by simp [hh]
      have sz1 : (s.heap.push (bareSet w)).objs.size = s.heap.objs.size + 1 := Heap.size_push ..
      have neI : l ≠ (s.heap.push (bareSet w)).objs.size := by rw [sz1]; exact Nat.ne_of_lt (Nat.lt_succ_of_lt lS)
      have hSf : s.heap.objs.size ∉ [(s.heap.push (bareSet w)).objs.size, l] := by
        rw [sz1]
        simp only [List.mem_cons, List.not_mem_nil, or_false, not_or]
        exact ⟨Nat.ne_of_lt (Nat.lt_succ_self _), Nat.ne_of_gt lS⟩
      have hval : ∀ (i : Nat) (v : Value), items[i]? = some v → ∃ k t, xs[i]? = some k ∧ v = .str k t := fun i v hv => by
        have hi : i < xs.length := by rw [← isz]; exact (Array.getElem?_eq_some_iff.mp hv).1
        obtain ⟨t, e⟩ := SS.strs_at hit i v (by rw [Array.getElem?_toList]; exact hv)
        exact ⟨xs[i], t, List.getElem?_eq_getElem hi, by rw [e, List.getD_eq_getElem?_getD, List.getElem?_eq_getElem hi]; rfl⟩
      refine setS_loop ((Walks.list hh3 _ l neI items).toS) hSf xs isz hb hval items.size 0 _ (Nat.zero_add _) ⟨⟨_, Heap.get?_push_size _ rfl, rfl, rfl⟩, (hl1.push _)⟩ ?hS0 ?hR
      case hS0 => exact ⟨0, Nat.le_refl 0, setS_none (Heap.get?_push_of_some _ hS)⟩
      case hR =>
        intro s' c' hm hc' hS'
        obtain ⟨h', g2, d', tk', os'⟩ := s'
        have e1 : g2 = s.gens := hm.gens
        have e2 : d' = s.drawn := hm.drawn
        have e3 : os' = s.os := hm.os
        subst e1 e2 e3
        refine wpAny_pure ?_
        show wpAny _ _ (ret Value.none) _ _ _
        rw [isz] at hc'
        refine wpAny_pure ⟨rfl, h', tk', c', rfl, hS', hc', fun b o e => hm.heap b o ?_ (Heap.get?_push_of_some _ (Heap.get?_push_of_some _ e))⟩
        have b0 : b < s.heap.objs.size := Heap.lt_size e
        simp only [List.mem_cons, List.not_mem_nil, or_false, not_or]
        exact ⟨Nat.ne_of_lt b0, by rw [sz1]; exact Nat.ne_of_lt (Nat.lt_succ_of_lt b0)⟩
    · cases r₂ with
      | error er => exact hr₂
      | ok fl₂ =>
       cases fl₂ with
       | ret r =>
        obtain ⟨rfl, h', tk, c', rfl, hS', hc', hk'⟩ := hr₂
        repeat (any_goals (first | assumption | wp_step))
        exact h _ _ _ hS' hc' hk'
       | _ => exact hr₂.elim
   | _ => exact hr.elim
end
end LR

namespace LR
open PySem PySem.Spec PyProof.Rows L2
section
variable {P : Program} {w : World} {A : Around} {E : Value → Shared → Prop} {s : Shared} {a : Addr}
theorem strs_of_txt : ∀ (l : List Value), (∀ v ∈ l, ∃ (k : Str) (tk : Tok), v = Value.str k tk) → StrsAre l (l.map fun v => txtOf (0, v))
  | [], _ => .nil
  | v :: l, h => by
    obtain ⟨k, tk, rfl⟩ := h v List.mem_cons_self
    exact .cons k tk (strs_of_txt l fun u hu => h u (List.mem_cons_of_mem _ hu))
/-- sorted of a set of texts -/
theorem sorted_setS {S : Str → Bool} {n : Nat} {Q : Value → Shared → Prop} (R : SetS w s.heap a S n) (hh : A.handled = none) (h64 : n < 64)
    (hQ : ∀ s' p (out : Array Value) (c : Nat) (ys : List Str), (∀ b o, s.heap.get? b = some o → s'.heap.get? b = some o) → s'.gens = s.gens → s'.os = s.os → s.heap.objs.size ≤ p →
      s'.heap.get? p = some (seqObj "list" out c) → StrsAre out.toList ys → (sortedS ys = true ∧ ys.Nodup) → (∀ k, k ∈ ys ↔ S k = true) → ys.length = n → Q (.ref p) s') :
    wpAny (model P w) A (call (.builtin "sorted") [.ref a]) Q E s := by
  obtain ⟨o, es, ep, t, ho, hex, hd, ⟨g, nd, hm⟩, ⟨hb, hf, hn⟩, hr⟩ := R
  refine Calls.call_function_entry kind_sorted plain_sorted entry_sorted (args_sorted1 _) ?_
  unfold Builtin.«sorted»
  refine wpAny_bind (m := checkCount "sorted" 1 1 _) (wpAny_pure (wpAny_bind (collect_set (A := A.in1) hh ⟨o, ho, hex.1, hd⟩ hf hb hr.1 hr.2 fun s1 vs k1 hz g1 o1 pm => ?_)))
  have vl : vs.length = n := by
    have := pm.length_eq
    simp at this
    omega
  have sa : StrsAre vs (vs.map fun v => txtOf (0, v)) := strs_of_txt vs fun v hv => by
    obtain ⟨e, he, q⟩ := List.mem_map.mp (pm.mem_iff.mp hv)
    obtain ⟨k, tk, h1, _⟩ := g e he
    exact ⟨k, tk, q ▸ h1⟩
  have pk : (vs.map fun v => txtOf (0, v)).Perm (es.toList.map txtOf) := by
    have q := pm.map fun v => txtOf (0, v)
    rw [List.map_map] at q
    exact q
  refine wpAny_bind (wpAny_newList ?_ (by rw [vl, sizeLine_eq]; omega))
  have hoL : (s1.heap.push (seqObj "list" vs.toArray 0)).get? s1.heap.objs.size = some (seqObj "list" vs.toArray 0) := Heap.get?_push_size _ rfl
  refine wpAny_bind (wpAny_holding (wpAny_call_entry slot_list_sort ⟨_, hoL, rfl⟩ entry_list_sort (list_sort_treeK strKind_oneLt hoL sa.keysOf (fun v₁ v₂ rest e => keyKind_strs (by rw [← e]; exact sa)) (by rw [vl]; exact h64) fun st' hp hs => ⟨_, rfl, ?_⟩) (args_list_sort _)))
  obtain ⟨ys, a1, a2, a3⟩ := sorted_out_str sa hp hs
  obtain ⟨c, hc⟩ := sortedHeap_at (vs := vs) (out := (arrOf st').map (·.2)) hoL
  have pn : ys.Perm (es.toList.map txtOf) := a2.trans pk
  refine wpAny_pure ⟨_, rfl, hQ _ s1.heap.objs.size _ c ys (fun b u e => ?_) g1 o1 hz hc a1 ⟨a3, pn.nodup_iff.mpr nd⟩ (fun k => by rw [pn.mem_iff, ← hm k]) (by rw [pn.length_eq, List.length_map, Array.length_toList]; exact hn)⟩
  have q := k1 b u e
  have lt := Heap.lt_size q
  show (sortedHeap (s1.heap.push (seqObj "list" vs.toArray 0)) s1.heap.objs.size vs ((arrOf st').map (·.2))).get? b = some u
  rw [sortedHeap_old (Nat.ne_of_lt lt) (by rw [size_push']; exact Nat.lt_succ_of_lt lt)]
  exact Heap.get?_push_of_some _ q
end
/-- a tracked set of texts -/
def SetSO (w : World) (a : Addr) (S : Str → Bool) (n : Nat) : HO := .ext fun h => SetS w h a S n
section
variable {X : Cx}
theorem setSO_get {pins : List (Addr × Obj)} {σ : L2.St} {H : Hp} {s : Shared} {a : Addr} {S : Str → Bool} {n : Nat} (I : Inv X pins σ H s) (ha : H a = some (SetSO X.w a S n)) : SetS X.w s.heap a S n := (I.hok a _ ha).1
/-- set(xs), xs a list of texts -/
theorem cr_setL (hc : X.calm = true) : CallR X (.type "set") (fun xs H Q => ∃ (l : Addr) (zs : List Str), xs = [V.ref l] ∧ SqL X.K H l (zs.map V.str) ∧ zs.length < 64 ∧
    ∀ p c, H p = none → c ≤ zs.length → Q (.ref p) (upd H p (SetSO X.w p (fun j => decide (j ∈ zs)) c))) := by
  intro pins s σ H xs us Q I r h
  obtain ⟨l, zs, rfl, hl, h64, q⟩ := h
  rw [Vals.ref1 r]
  obtain ⟨its, rv, pl, _⟩ := I.list hl
  refine set_of_list zs (I.ok.hd hc) pl.isList (by rw [List.toList_toArray]; exact rv.strs) (by unfold scanBound; omega) fun h' tk c R hc' k => ?_
  have hn : H s.heap.objs.size = none := I.hok.fresh (Nat.le_refl _)
  have R' := R
  obtain ⟨o, es, ep, t, ho, _⟩ := R'
  have ok : ObjOk X.prog X.w (upd H s.heap.objs.size (SetSO X.w s.heap.objs.size (fun j => decide (j ∈ zs)) c)) h' s.heap.objs.size (SetSO X.w s.heap.objs.size (fun j => decide (j ∈ zs)) c) := ⟨R, ⟨o, ho⟩, fun h1 h2 z k => z.at fun o e => k o e⟩
  exact ⟨.ref s.heap.objs.size, _, I.laid (t' := tk) k (Nat.le_refl _) ok, rfl, q _ c hn hc'⟩
/-- sorted(found), found a set of texts -/
theorem cr_sortedSetS (hc : X.calm = true) : CallR X (.builtin "sorted") (fun vs H Q => ∃ (a : Addr) (S : Str → Bool) (n : Nat), vs = [V.ref a] ∧ H a = some (SetSO X.w a S n) ∧ n < 64 ∧
    ∀ (ys : List Str) (p : Addr), sortedS ys = true → ys.Nodup → (∀ k, k ∈ ys ↔ S k = true) → ys.length = n → H p = none → Q (.ref p) (upd H p (.lst (ys.map V.str)))) := by
  intro pins s σ H vs us Q I r h
  obtain ⟨a, S, n, rfl, ha, h64, q⟩ := h
  rw [Vals.ref1 r]
  refine sorted_setS (setSO_get I ha) (I.ok.hd hc) h64 fun s' p out c ys k g o hp hg hi hs hm hl => ?_
  have len : (ys.map V.str).length ≤ sizeLine := by rw [List.length_map, hl, sizeLine_eq]; omega
  have hn : H p = none := I.hok.fresh hp
  have J : Inv X pins σ (upd H p (.lst (ys.map V.str))) { s with heap := s'.heap, gens := s'.gens, drawn := s'.drawn, toks := s'.toks } :=
    I.call (ch := []) (Un.laid k hp hn) (I.hok.laid k hp ⟨len, out.toList, c, vals_of_strs hi, hg⟩) (by rw [g]; exact I.bare) (fun _ z => nomatch z)
  have e : s' = { s with heap := s'.heap, gens := s'.gens, drawn := s'.drawn, toks := s'.toks } := by
    cases s'
    cases s
    cases o
    rfl
  rw [e]
  exact ⟨.ref p, _, J, rfl, q ys p hs.1 hs.2 hm hl hn⟩
end
end LR

namespace LK
open PySem PySem.Spec PyProof.Rows L2
/-! ### the four classes, their objects, each equal to itself -/
/-- what is known of a class of the program -/
structure OwnCl (K : PySem.W.Frag) (mg : Str → Option Value) (x : Str) (C : Addr) : Prop where
  cl : Cls K C
  ca : PySem.W.findIn K (.ref C) "__class__" = some (some (.builtin "object.__class__"))
  so : PySem.W.specialIn K (.builtin "object.__class__") "__get__" = some (some (.builtin "getset_descriptor.__get__"))
  tk : PySem.W.takesIn K (.builtin "object.__class__") = some true
  ob : PySem.W.mroIn K C (.type "object") = some true
  nt : PySem.W.kitOne K (.ref C) (.type "tuple") = some false
  nl : PySem.W.kitOne K (.ref C) (.type "list") = some false
  nb : PySem.W.kitOne K (.ref C) (.type "bool") = some false
  ns : PySem.W.kitOne K (.ref C) (.type "str") = some false
  g : mg x = some (.ref C)
theorem OwnCl.ty {K : PySem.W.Frag} {mg : Str → Option Value} {x : Str} {C a dx : Addr} {fs : List (Str × V)} {H : Hp} (c : OwnCl K mg x C) (h : H a = some (.ins C dx fs)) : TyX K H (.ref a) (.ref C) := .base (.ins h c.cl c.ca c.so c.tk c.ob)
theorem kit_self {K : PySem.W.Frag} {C : Addr} : PySem.W.kitOne K (.ref C) (.ref C) = some true := by
  unfold PySem.W.kitOne
  rw [if_pos (beq_self_eq_true _)]
/-- a method __eq__ of the class -/
structure EqM (K : PySem.W.Frag) (C : Addr) (st : Stmt) (q : Str) (f : Addr) (fd : FuncData) : Prop where
  F : Fun K "__eq__" q st f fd
  b : Binds K fd ["self", "other"] []
  at_ : PySem.W.findIn K (.ref C) "__eq__" = some (some (.ref f))
  fn : PySem.W.isFn K (.ref f) = true
def StepAt (C : Addr) (H : Hp) (a : Addr) (z w : Str) : Prop := ∃ dx, H a = some (.ins C dx [("name", .str z), ("ways", .str w)])
/-- what else an expression of one name holds -/
def NmX (K : PySem.W.Frag) (H : Hp) (z : Str) (x1 x2 x3 x4 : V) : Prop := ∃ q1 q2 i j zs, x1 = .ref q1 ∧ x2 = .ref q2 ∧ x3 = .int i ∧ x4 = .int j ∧ H q1 = some (.tup ((zs : List Str).map V.str)) ∧ zs.length ≤ 1 ∧ H q2 = some (.tup []) ∧ NameOk z
def ExprAt (K : PySem.W.Frag) (C : Addr) (H : Hp) (a : Addr) : Prop := ∃ dx z p x1 x2 x3 x4, H a = some (.ins C dx [("kind", .str "name"), ("word", .str z), ("step", .non), ("parts", .ref p), ("names", x1), ("steps", x2), ("size", x3), ("applied", x4)]) ∧ SqT K H p [] ∧ NmX K H z x1 x2 x3 x4
def TraitAt (K : PySem.W.Frag) (C : Addr) (H : Hp) (a : Addr) : Prop := ∃ dx z p b, H a = some (.ins C dx [("word", .str z), ("steps", .ref p)]) ∧ SqT K H p [.ref b]
def ChainAt (K : PySem.W.Frag) (C : Addr) (H : Hp) (a : Addr) : Prop := ∃ dx p b, H a = some (.ins C dx [("steps", .ref p)]) ∧ SqT K H p [.ref b]
/-- the very same thing -/
def DSame : Eqv := fun x y _ => ∃ a, x = .ref a ∧ y = .ref a
theorem mon_same : Mon DSame := fun _ _ _ _ _ d => d
theorem eqG_same {X : Cx} : EqG X 0 DSame := by
  intro A pins s σ H x y u v sb I rx ry d
  obtain ⟨a, rfl, rfl⟩ := d
  cases rx
  cases ry
  exact SeqAt.EqAt.same (A := A) (s := s) (.ref a) X.prog X.w X.xe _ ⟨rfl, H, I, Ext.rfl'⟩
theorem op_or {X : Cx} {op : Value → Value → Sem Value} {r r' : R2} (h : OpR X op r) (h' : OpR X op r') : OpR X op (fun x y H Q => r x y H Q ∨ r' x y H Q) := fun pins s σ H x y u v Q I rx ry d => d.elim (fun d => h pins s σ H x y u v Q I rx ry d) fun d => h' pins s σ H x y u v Q I rx ry d
/-- the same object, so seen by its class -/
def spSelf (R : Hp → Addr → Prop) : Sp := spEq fun a b H => a = b ∧ R H a
section
variable {P : Program} {w : World} {K : PySem.W.Frag} {mg : Str → Option Value} {base : Heap}
theorem scStepEq : FnScope ["self", "other"] ["self", "other"] (defScope sStepEq) := ⟨rfl, rfl, rfl, by decide +kernel, rfl, by decide +kernel, by decide +kernel⟩
theorem ok_stepEq {C f : Addr} {fd : FuncData} (S : Std mg) (c : OwnCl K mg "Step" C) (n1 : NoAttr K C "name") (n2 : NoAttr K C "ways") (F : Fun K "__eq__" "Step.__eq__" sStepEq f fd) :
    FnOk P w K mg base CX0 1 f fd ["self", "other"] (spSelf fun H a => ∃ z y, StepAt C H a z y) := by
  refine F.ok scStepEq (fun vs H Q E h => ?_) (fun cdv A outer s H vs Q E hr h => ?_)
  · obtain ⟨a, b, rfl, _⟩ := h
    rfl
  · obtain ⟨a, b, rfl, ⟨rfl, z, y, dx, ha⟩, q⟩ := h
    refine ⟨_, pss_one (ps_ret (pe_and (pe_callB call_isi (by rfl) S.isi (by decide +kernel) (pa_cons (pv 1) (pa_cons (pe_glob (v := .ref C) rfl c.g rfl) pa_nil)))
      (pe_and (pe_cmpR op_eq (pe_fld (pv 0) rfl) (pe_fld (pv 1) rfl) (nomark _)) (pe_one (pe_cmpR op_eq (pe_fld (pv 0) rfl) (pe_fld (pv 1) rfl) (nomark _)))))), ?_⟩
    refine ⟨_, rfl, _, _, _, _, true, rfl, .own C, c.ty ha, kit_self, true, rfl, iteT ?_⟩
    refine ⟨_, rfl, _, _, _, _, _, rfl, ha, c.cl, n1, rfl, _, rfl, _, _, _, _, _, rfl, ha, c.cl, n1, rfl, rfl, _, rfl, ?_⟩
    rw [decide_eq_true (show V.str z = V.str z from rfl)]
    refine iteT ⟨_, rfl, _, _, _, _, _, rfl, ha, c.cl, n2, rfl, _, rfl, _, _, _, _, _, rfl, ha, c.cl, n2, rfl, rfl, ?_⟩
    rw [decide_eq_true (show V.str y = V.str y from rfl)]
    exact q H Ext.rfl'
theorem prs_same {xs : List V} {H : Hp} (h : ∀ v, v ∈ xs → ∃ a, v = .ref a) : Prs DSame xs xs H := ⟨rfl, fun i x y e1 e2 => by
  rw [e1] at e2
  cases e2
  obtain ⟨a, rfl⟩ := h x (List.mem_of_getElem? e1)
  exact ⟨a, rfl, rfl⟩⟩
theorem scExprEq : FnScope ["self", "other"] ["self", "other"] (defScope sExprEq) := ⟨rfl, rfl, rfl, by decide +kernel, rfl, by decide +kernel, by decide +kernel⟩
theorem ok_exprEq {C f : Addr} {fd : FuncData} (S : Std mg) (c : OwnCl K mg "Expr" C) (n1 : NoAttr K C "kind") (n2 : NoAttr K C "word") (n3 : NoAttr K C "step") (n4 : NoAttr K C "parts") (F : Fun K "__eq__" "Expr.__eq__" sExprEq f fd) :
    FnOk P w K mg base CX0 2 f fd ["self", "other"] (spSelf (ExprAt K C)) := by
  refine F.ok scExprEq (fun vs H Q E h => ?_) (fun cdv A outer s H vs Q E hr h => ?_)
  · obtain ⟨a, b, rfl, _⟩ := h
    rfl
  · obtain ⟨a, b, rfl, ⟨rfl, dx, z, p, x1, x2, x3, x4, ha, hp, _⟩, q⟩ := h
    refine ⟨_, pss_one (ps_ret (pe_and (pe_callB call_isi (by rfl) S.isi (by decide +kernel) (pa_cons (pv 1) (pa_cons (pe_glob (v := .ref C) rfl c.g rfl) pa_nil)))
      (pe_and (pe_cmpR op_eq (pe_fld (pv 0) rfl) (pe_fld (pv 1) rfl) (nomark _)) (pe_and (pe_cmpR op_eq (pe_fld (pv 0) rfl) (pe_fld (pv 1) rfl) (nomark _)) (pe_and (pe_cmpR op_eq (pe_fld (pv 0) rfl) (pe_fld (pv 1) rfl) (nomark _))
        (pe_one (pe_cmpR (op_eqG (rcG_tup mon_same eqG_same) hr) (pe_fld (pv 0) rfl) (pe_fld (pv 1) rfl) (nomark _)))))))), ?_⟩
    refine ⟨_, rfl, _, _, _, _, true, rfl, .own C, c.ty ha, kit_self, true, rfl, iteT ?_⟩
    refine ⟨_, rfl, _, _, _, _, _, rfl, ha, c.cl, n1, rfl, _, rfl, _, _, _, _, _, rfl, ha, c.cl, n1, rfl, rfl, _, rfl, ?_⟩
    rw [decide_eq_true (show V.str "name" = V.str "name" from rfl)]
    refine iteT ⟨_, rfl, _, _, _, _, _, rfl, ha, c.cl, n2, rfl, _, rfl, _, _, _, _, _, rfl, ha, c.cl, n2, rfl, rfl, _, rfl, ?_⟩
    rw [decide_eq_true (show V.str z = V.str z from rfl)]
    refine iteT ⟨_, rfl, _, _, _, _, _, rfl, ha, c.cl, n3, rfl, _, rfl, _, _, _, _, _, rfl, ha, c.cl, n3, rfl, rfl, _, rfl, ?_⟩
    rw [decide_eq_true (show V.non = V.non from rfl)]
    refine iteT ⟨_, rfl, _, _, _, _, _, rfl, ha, c.cl, n4, rfl, _, rfl, _, _, _, _, _, rfl, ha, c.cl, n4, rfl, ?_⟩
    exact ⟨⟨p, p, [], [], rfl, rfl, hp, hp, Prs.nil⟩, q⟩
theorem scTraitEq : FnScope ["self", "other"] ["self", "other"] (defScope sTraitEq) := ⟨rfl, rfl, rfl, by decide +kernel, rfl, by decide +kernel, by decide +kernel⟩
theorem ok_traitEq {C f : Addr} {fd : FuncData} (S : Std mg) (c : OwnCl K mg "Trait" C) (n1 : NoAttr K C "word") (n2 : NoAttr K C "steps") (F : Fun K "__eq__" "Trait.__eq__" sTraitEq f fd) :
    FnOk P w K mg base CX0 2 f fd ["self", "other"] (spSelf (TraitAt K C)) := by
  refine F.ok scTraitEq (fun vs H Q E h => ?_) (fun cdv A outer s H vs Q E hr h => ?_)
  · obtain ⟨a, b, rfl, _⟩ := h
    rfl
  · obtain ⟨a, b, rfl, ⟨rfl, dx, z, p, o, ha, hp⟩, q⟩ := h
    refine ⟨_, pss_one (ps_ret (pe_and (pe_callB call_isi (by rfl) S.isi (by decide +kernel) (pa_cons (pv 1) (pa_cons (pe_glob (v := .ref C) rfl c.g rfl) pa_nil)))
      (pe_and (pe_cmpR op_eq (pe_fld (pv 0) rfl) (pe_fld (pv 1) rfl) (nomark _)) (pe_one (pe_cmpR (op_eqG (rcG_tup mon_same eqG_same) hr) (pe_fld (pv 0) rfl) (pe_fld (pv 1) rfl) (nomark _)))))), ?_⟩
    refine ⟨_, rfl, _, _, _, _, true, rfl, .own C, c.ty ha, kit_self, true, rfl, iteT ?_⟩
    refine ⟨_, rfl, _, _, _, _, _, rfl, ha, c.cl, n1, rfl, _, rfl, _, _, _, _, _, rfl, ha, c.cl, n1, rfl, rfl, _, rfl, ?_⟩
    rw [decide_eq_true (show V.str z = V.str z from rfl)]
    refine iteT ⟨_, rfl, _, _, _, _, _, rfl, ha, c.cl, n2, rfl, _, rfl, _, _, _, _, _, rfl, ha, c.cl, n2, rfl, ?_⟩
    exact ⟨⟨p, p, _, _, rfl, rfl, hp, hp, prs_same fun v hv => ⟨o, by simpa using hv⟩⟩, q⟩
theorem scChainEq : FnScope ["self", "other"] ["self", "other"] (defScope sChainEq) := ⟨rfl, rfl, rfl, by decide +kernel, rfl, by decide +kernel, by decide +kernel⟩
theorem ok_chainEq {C f : Addr} {fd : FuncData} (S : Std mg) (c : OwnCl K mg "Chain" C) (n2 : NoAttr K C "steps") (F : Fun K "__eq__" "Chain.__eq__" sChainEq f fd) :
    FnOk P w K mg base CX0 2 f fd ["self", "other"] (spSelf (ChainAt K C)) := by
  refine F.ok scChainEq (fun vs H Q E h => ?_) (fun cdv A outer s H vs Q E hr h => ?_)
  · obtain ⟨a, b, rfl, _⟩ := h
    rfl
  · obtain ⟨a, b, rfl, ⟨rfl, dx, p, o, ha, hp⟩, q⟩ := h
    refine ⟨_, pss_one (ps_ret (pe_and (pe_callB call_isi (by rfl) S.isi (by decide +kernel) (pa_cons (pv 1) (pa_cons (pe_glob (v := .ref C) rfl c.g rfl) pa_nil)))
      (pe_one (pe_cmpR (op_eqG (rcG_tup mon_same eqG_same) hr) (pe_fld (pv 0) rfl) (pe_fld (pv 1) rfl) (nomark _))))), ?_⟩
    refine ⟨_, rfl, _, _, _, _, true, rfl, .own C, c.ty ha, kit_self, true, rfl, iteT ?_⟩
    refine ⟨_, rfl, _, _, _, _, _, rfl, ha, c.cl, n2, rfl, _, rfl, _, _, _, _, _, rfl, ha, c.cl, n2, rfl, ?_⟩
    exact ⟨⟨p, p, _, _, rfl, rfl, hp, hp, prs_same fun v hv => ⟨o, by simpa using hv⟩⟩, q⟩
end
end LK

namespace LK
open PySem PySem.Spec PyProof.Rows L2
theorem lc_zipL {K : PySem.W.Frag} {a b : Addr} {xs ys : List V} {g : TG} {tt : TT} {te : TE} {vs : List Nat} {σ : L2.St} {H1 : Hp} {D : Addr} {Qd : Hp → Prop} (hl : xs.length = ys.length) (Pv : Nat → Hp → Prop) (h0 : Pv 0 (upd H1 D (.lst []))) (hq : ∀ i H, Pv i H → SqL K H a xs ∧ SqL K H b ys)
    (hs : ∀ (i : Nat) (x y : V) (T : Addr) (H : Hp), xs[i]? = some x → ys[i]? = some y → Pv i H → H T = none → g (.ref T) (wipe σ vs) (upd H T (.tup [x, y])) fun σ2 H2 => wipe σ2 vs = wipe σ vs ∧ tt σ2 H2 fun b H3 =>
      if b = true then te σ2 H3 fun y H4 => ∃ acc, H4 D = some (.lst acc) ∧ acc.length < sizeLine ∧ Pv (i + 1) (upd H4 D (.lst (acc ++ [y]))) else Pv (i + 1) H3) (hd : ∀ H, Pv xs.length H → Qd H) :
    ∃ W : Nat → Nat → Hp → Prop, (∃ m, W 0 m (upd H1 D (.lst []))) ∧ ∀ i m H, W i m H →
      ((Itz K a b).stop i H ∧ Qd H) ∨ ((Itz K a b).go i H ∧ ∃ Nx : Hp → Prop, (∀ H', Nx H' → ∃ m', m' < m ∧ W (i + 1) m' H') ∧ ∀ x H', (Itz K a b).yld i H x H' → g x (wipe σ vs) H' fun σ2 H2 => wipe σ2 vs = wipe σ vs ∧ tt σ2 H2 fun b H3 =>
        if b = true then te σ2 H3 fun y H4 => ∃ acc, H4 D = some (.lst acc) ∧ acc.length < sizeLine ∧ Nx (upd H4 D (.lst (acc ++ [y]))) else Nx H3) := by
  refine ⟨fun i m H => m = xs.length - i ∧ i ≤ xs.length ∧ Pv i H, ⟨xs.length, by simp, Nat.zero_le _, h0⟩, ?_⟩
  rintro i m H ⟨rfl, hi, p⟩
  obtain ⟨q1, q2⟩ := hq i H p
  by_cases hlt : i < xs.length
  · refine .inr ⟨⟨xs, ys, xs[i], ys[i]'(by omega), q1, q2, by simp [hlt], by simp [← hl, hlt]⟩, Pv (i + 1), fun H' p' => ⟨xs.length - (i + 1), by omega, rfl, hlt, p'⟩, fun v H' y => ?_⟩
    obtain ⟨T, x, y', rfl, hT, rfl, hx, hy⟩ := y
    exact hs i x y' T H (hx xs q1) (hy ys q2) p hT
  · have e : i = xs.length := by omega
    subst e
    exact .inl ⟨⟨xs, ys, q1, q2, .inl (Nat.le_refl _)⟩, hd H p⟩
theorem lc_zipT {K : PySem.W.Frag} {a b : Addr} {xs ys : List V} {g : TG} {tt : TT} {te : TE} {vs : List Nat} {σ : L2.St} {H1 : Hp} {D : Addr} {Qd : Hp → Prop} (hl : xs.length = ys.length) (Pv : Nat → Hp → Prop) (h0 : Pv 0 (upd H1 D (.lst []))) (hq : ∀ i H, Pv i H → SqT K H a xs ∧ SqT K H b ys)
    (hs : ∀ (i : Nat) (x y : V) (T : Addr) (H : Hp), xs[i]? = some x → ys[i]? = some y → Pv i H → H T = none → g (.ref T) (wipe σ vs) (upd H T (.tup [x, y])) fun σ2 H2 => wipe σ2 vs = wipe σ vs ∧ tt σ2 H2 fun b H3 =>
      if b = true then te σ2 H3 fun y H4 => ∃ acc, H4 D = some (.lst acc) ∧ acc.length < sizeLine ∧ Pv (i + 1) (upd H4 D (.lst (acc ++ [y]))) else Pv (i + 1) H3) (hd : ∀ H, Pv xs.length H → Qd H) :
    ∃ W : Nat → Nat → Hp → Prop, (∃ m, W 0 m (upd H1 D (.lst []))) ∧ ∀ i m H, W i m H →
      ((RZ.ItzT K a b).stop i H ∧ Qd H) ∨ ((RZ.ItzT K a b).go i H ∧ ∃ Nx : Hp → Prop, (∀ H', Nx H' → ∃ m', m' < m ∧ W (i + 1) m' H') ∧ ∀ x H', (RZ.ItzT K a b).yld i H x H' → g x (wipe σ vs) H' fun σ2 H2 => wipe σ2 vs = wipe σ vs ∧ tt σ2 H2 fun b H3 =>
        if b = true then te σ2 H3 fun y H4 => ∃ acc, H4 D = some (.lst acc) ∧ acc.length < sizeLine ∧ Nx (upd H4 D (.lst (acc ++ [y]))) else Nx H3) := by
  refine ⟨fun i m H => m = xs.length - i ∧ i ≤ xs.length ∧ Pv i H, ⟨xs.length, by simp, Nat.zero_le _, h0⟩, ?_⟩
  rintro i m H ⟨rfl, hi, p⟩
  obtain ⟨q1, q2⟩ := hq i H p
  by_cases hlt : i < xs.length
  · refine .inr ⟨⟨xs, ys, xs[i], ys[i]'(by omega), q1, q2, by simp [hlt], by simp [← hl, hlt]⟩, Pv (i + 1), fun H' p' => ⟨xs.length - (i + 1), by omega, rfl, hlt, p'⟩, fun v H' y => ?_⟩
    obtain ⟨T, x, y', rfl, hT, rfl, hx, hy⟩ := y
    exact hs i x y' T H (hx xs q1) (hy ys q2) p hT
  · have e : i = xs.length := by omega
    subst e
    exact .inl ⟨⟨xs, ys, q1, q2, .inl (Nat.le_refl _)⟩, hd H p⟩
theorem SqT.same {K : PySem.W.Frag} {H H' : Hp} {a : Addr} {xs : List V} (e : Same H H') (h : SqT K H a xs) : SqT K H' a xs := by
  rcases h with (h | ⟨o, h⟩) | h
  · exact .inl (.inl (e _ _ h))
  · exact .inl (.inr ⟨o, e _ _ h⟩)
  · exact .inr h
theorem kitA {K : PySem.W.Frag} {t : Value} {r1 r2 : Bool} (h1 : PySem.W.kitOne K t (.type "tuple") = some r1) (h2 : PySem.W.kitOne K t (.type "list") = some r2) : PySem.W.kitAny K t [.type "tuple", .type "list"] = some (r1 || r2) := by
  unfold PySem.W.kitAny
  rw [h1]
  cases r1 with
  | true => rfl
  | false =>
    show PySem.W.kitAny K t [.type "list"] = _
    unfold PySem.W.kitAny
    rw [h2]
    cases r2 <;> rfl
/-- the classes of the program whose objects a value may hold -/
structure Kinds where
  cS : Addr
  cE : Addr
  cT : Addr
  cC : Addr
/-- the ways of a step: one to three of the three signs -/
structure WaysOk (y : Str) : Prop where
  pos : 0 < y.length
  len : y.length ≤ 3
  sg : ∀ c, c ∈ TL.tl y → c ∈ TL.tl ("+-?" : Str)
/-- one that holds no other -/
inductive Leaf (K : PySem.W.Frag) (k : Kinds) (H : Hp) : V → Prop where
  | non : Leaf K k H .non
  | bl (b : Bool) : Leaf K k H (.bl b)
  | int (i : Int) : Leaf K k H (.int i)
  | str (z : Str) (h : z.length ≤ 1000) : Leaf K k H (.str z)
  | step {a : Addr} {z y : Str} (h : StepAt k.cS H a z y) (hz : NameOk z) (hy : WaysOk y) : Leaf K k H (.ref a)
  | expr {a : Addr} (h : ExprAt K k.cE H a) : Leaf K k H (.ref a)
  | trait {a : Addr} (h : TraitAt K k.cT H a) : Leaf K k H (.ref a)
  | chain {a : Addr} (h : ChainAt K k.cC H a) : Leaf K k H (.ref a)
theorem Leaf.same {K : PySem.W.Frag} {k : Kinds} {H H' : Hp} {v : V} (s : Same H H') (h : Leaf K k H v) : Leaf K k H' v := by
  cases h with
  | non => exact .non
  | bl b => exact .bl b
  | int i => exact .int i
  | str z h => exact .str z h
  | step h hz hy =>
    obtain ⟨dx, h⟩ := h
    exact .step ⟨dx, s _ _ h⟩ hz hy
  | expr h =>
    obtain ⟨dx, z, p, x1, x2, x3, x4, h, hp, q1, q2, i, j, zs, e1, e2, e3, e4, t1, le, t2, nz⟩ := h
    exact .expr ⟨dx, z, p, x1, x2, x3, x4, s _ _ h, SqT.same s hp, q1, q2, i, j, zs, e1, e2, e3, e4, s _ _ t1, le, s _ _ t2, nz⟩
  | trait h =>
    obtain ⟨dx, z, p, b, h, hp⟩ := h
    exact .trait ⟨dx, z, p, b, s _ _ h, SqT.same s hp⟩
  | chain h =>
    obtain ⟨dx, p, b, h, hp⟩ := h
    exact .chain ⟨dx, p, b, s _ _ h, SqT.same s hp⟩
/-- two values that are just alike, at most n levels deep -/
def Alike (K : PySem.W.Frag) (k : Kinds) : Nat → Hp → V → V → Prop
  | 0, _, _, _ => False
  | n + 1, H, x, y => (Leaf K k H x ∧ x = y) ∨ ∃ a b xs ys, x = .ref a ∧ y = .ref b ∧ xs.length = ys.length ∧ xs.length ≤ 20 ∧ ((H a = some (.lst xs) ∧ H b = some (.lst ys)) ∨ (H a = some (.tup xs) ∧ H b = some (.tup ys))) ∧
      ∀ (i : Nat) x' y', xs[i]? = some x' → ys[i]? = some y' → Alike K k n H x' y'
theorem Alike.same {K : PySem.W.Frag} {k : Kinds} {H H' : Hp} (s : Same H H') : ∀ {n : Nat} {x y : V}, Alike K k n H x y → Alike K k n H' x y
  | 0, _, _, h => h.elim
  | n + 1, x, y, h => by
    rcases h with ⟨h, e⟩ | ⟨a, b, xs, ys, e1, e2, hl, h20, hq, hi⟩
    · exact .inl ⟨h.same s, e⟩
    · refine .inr ⟨a, b, xs, ys, e1, e2, hl, h20, ?_, fun i x' y' p q => (hi i x' y' p q).same s⟩
      rcases hq with ⟨p, q⟩ | ⟨p, q⟩
      · exact .inl ⟨s _ _ p, s _ _ q⟩
      · exact .inr ⟨s _ _ p, s _ _ q⟩
theorem Alike.up {K : PySem.W.Frag} {k : Kinds} {H : Hp} : ∀ {n : Nat} {x y : V}, Alike K k n H x y → Alike K k (n + 1) H x y
  | 0, _, _, h => h.elim
  | n + 1, x, y, h => by
    rcases h with h | ⟨a, b, xs, ys, e1, e2, hl, h20, hq, hi⟩
    · exact .inl h
    · exact .inr ⟨a, b, xs, ys, e1, e2, hl, h20, hq, fun i x' y' p q => (hi i x' y' p q).up⟩
/-- what the classes must have -/
structure Kin (K : PySem.W.Frag) (mg : Str → Option Value) (k : Kinds) (eS eE eT eC : Addr) (dS dE dT dC : FuncData) : Prop where
  S : OwnCl K mg "Step" k.cS
  E : OwnCl K mg "Expr" k.cE
  T : OwnCl K mg "Trait" k.cT
  C : OwnCl K mg "Chain" k.cC
  qS : EqM K k.cS sStepEq "Step.__eq__" eS dS
  qE : EqM K k.cE sExprEq "Expr.__eq__" eE dE
  qT : EqM K k.cT sTraitEq "Trait.__eq__" eT dT
  qC : EqM K k.cC sChainEq "Chain.__eq__" eC dC
  s1 : NoAttr K k.cS "name"
  s2 : NoAttr K k.cS "ways"
  e1 : NoAttr K k.cE "kind"
  e2 : NoAttr K k.cE "word"
  e3 : NoAttr K k.cE "step"
  e4 : NoAttr K k.cE "parts"
  t1 : NoAttr K k.cT "word"
  t2 : NoAttr K k.cT "steps"
  c1 : NoAttr K k.cC "steps"
/-- an object of the four classes, and itself -/
def DObj (K : PySem.W.Frag) (k : Kinds) : Eqv := fun x y H =>
  ((DIns k.cS (fun a b H => a = b ∧ ∃ z y, StepAt k.cS H a z y) x y H ∨ DIns k.cE (fun a b H => a = b ∧ ExprAt K k.cE H a) x y H) ∨ DIns k.cT (fun a b H => a = b ∧ TraitAt K k.cT H a) x y H) ∨ DIns k.cC (fun a b H => a = b ∧ ChainAt K k.cC H a) x y H
theorem rcOr {X : Cx} {n : Nat} {D D' : Eqv} (h : RcG X n D) (h' : RcG X n D') : RcG X n (fun x y H => D x y H ∨ D' x y H) := fun A pins s σ H x y u v sb I rx ry d => d.elim (fun d => h A pins s σ H x y u v sb I rx ry d) fun d => h' A pins s σ H x y u v sb I rx ry d
theorem rcMono {X : Cx} {n m : Nat} {D : Eqv} (h : RcG X n D) (hn : n ≤ m) : RcG X m D := fun A pins s σ H x y u v sb => h A pins s σ H x y u v (sb.mono hn)
theorem rc_obj {X : Cx} {k : Kinds} {eS eE eT eC : Addr} {dS dE dT dC : FuncData} (S : Std X.mg) (k' : Kin X.K X.mg k eS eE eT eC dS dE dT dC) : RcG X 2 (DObj X.K k) :=
  rcOr (rcOr (rcOr (rcMono (n := 1) (rcG_ins (ok_stepEq S k'.S k'.s1 k'.s2 k'.qS.F) k'.qS.at_ k'.qS.fn k'.qS.b pass0) (by decide)) (rcG_ins (ok_exprEq S k'.E k'.e1 k'.e2 k'.e3 k'.e4 k'.qE.F) k'.qE.at_ k'.qE.fn k'.qE.b pass0))
    (rcG_ins (ok_traitEq S k'.T k'.t1 k'.t2 k'.qT.F) k'.qT.at_ k'.qT.fn k'.qT.b pass0)) (rcG_ins (ok_chainEq S k'.C k'.c1 k'.qC.F) k'.qC.at_ k'.qC.fn k'.qC.b pass0)
/-- what kind it is, and that it is its own equal -/
theorem leaf_kind {K : PySem.W.Frag} {mg : Str → Option Value} {k : Kinds} {eS eE eT eC : Addr} {dS dE dT dC : FuncData} {H : Hp} {v : V} (k' : Kin K mg k eS eE eT eC dS dE dT dC) (h : Leaf K k H v) :
    ∃ t bb, TyX K H v t ∧ PySem.W.kitOne K t (.type "tuple") = some false ∧ PySem.W.kitOne K t (.type "list") = some false ∧ PySem.W.kitOne K t (.type "bool") = some bb ∧ (scal v v = true ∨ DObj K k v v H) := by
  cases h with
  | non => exact ⟨_, false, .base .non, kit_ty (by decide +kernel), kit_ty (by decide +kernel), kit_ty (by decide +kernel), .inl rfl⟩
  | bl b => exact ⟨_, true, .base (.bl b), kit_ty (by decide +kernel), kit_ty (by decide +kernel), kit_ty (by decide +kernel), .inl rfl⟩
  | int i => exact ⟨_, false, .base (.int i), kit_ty (by decide +kernel), kit_ty (by decide +kernel), kit_ty (by decide +kernel), .inl rfl⟩
  | str z _ => exact ⟨_, false, .base (.str z), kit_ty (by decide +kernel), kit_ty (by decide +kernel), kit_ty (by decide +kernel), .inl rfl⟩
  | @step a z y h hz hy =>
    obtain ⟨dx, e⟩ := h
    exact ⟨_, false, k'.S.ty e, k'.S.nt, k'.S.nl, k'.S.nb, .inr (.inl (.inl (.inl ⟨a, a, dx, dx, _, _, rfl, rfl, e, e, rfl, z, y, dx, e⟩)))⟩
  | @expr a h =>
    have h' := h
    obtain ⟨dx, z, p, x1, x2, x3, x4, e, hp⟩ := h
    exact ⟨_, false, k'.E.ty e, k'.E.nt, k'.E.nl, k'.E.nb, .inr (.inl (.inl (.inr ⟨a, a, dx, dx, _, _, rfl, rfl, e, e, rfl, h'⟩)))⟩
  | @trait a h =>
    have h' := h
    obtain ⟨dx, z, p, b, e, hp⟩ := h
    exact ⟨_, false, k'.T.ty e, k'.T.nt, k'.T.nl, k'.T.nb, .inr (.inl (.inr ⟨a, a, dx, dx, _, _, rfl, rfl, e, e, rfl, h'⟩))⟩
  | @chain a h =>
    have h' := h
    obtain ⟨dx, p, b, e, hp⟩ := h
    exact ⟨_, false, k'.C.ty e, k'.C.nt, k'.C.nl, k'.C.nb, .inr (.inr ⟨a, a, dx, dx, _, _, rfl, rfl, e, e, rfl, h'⟩)⟩
def spSame (K : PySem.W.Frag) (k : Kinds) (n : Nat) : Sp := fun vs H Q _ => ∃ (x y : V), vs = [x, y] ∧ Alike K k n H x y ∧ ∀ H', Same H H' → Q (.bl true) H'
section
variable {P : Program} {w : World} {K : PySem.W.Frag} {mg : Str → Option Value} {base : Heap}
def nSame : List Str := ["_law_found", "_law_due", "_law_one", "_law_other"]
theorem scSame : FnScope nSame ["_law_found", "_law_due"] (defScope sSame) := ⟨rfl, rfl, rfl, by decide +kernel, rfl, by decide +kernel, by decide +kernel⟩
theorem ok_same {f eS eE eT eC : Addr} {fd dS dE dT dC : FuncData} {k : Kinds} (S : Std mg) (k' : Kin K mg k eS eE eT eC dS dE dT dC) (D : Df K mg "_law_same" sSame f fd ["_law_found", "_law_due"]) : ∀ n, FnOk P w K mg base CX0 (n + 3) f fd ["_law_found", "_law_due"] (spSame K k n)
  | 0 => D.F.ok scSame (fun vs H Q E h => by obtain ⟨x, y, _, h, _⟩ := h; exact h.elim) (fun cdv A outer s H vs Q E hr h => by obtain ⟨x, y, _, h, _⟩ := h; exact h.elim)
  | n + 1 => by
    have G := ok_same S k' D n
    refine D.F.ok scSame (fun vs H Q E h => ?_) (fun cdv A outer s H vs Q E hr h => ?_)
    · obtain ⟨x, y, rfl, _⟩ := h
      rfl
    · obtain ⟨x, y, rfl, hd, q⟩ := h
      refine ⟨_, pss_cons (ps_if (pt_val (pe_callB call_isiT (by rfl) S.isi (by decide +kernel) (pa_cons (pv 1) (pa_cons (pe_tup (pa_cons (pe_bltn (v := .ty "tuple") (by rfl) S.tuple (by decide +kernel) rfl) (pa_cons (pe_bltn (v := .ty "list") (by rfl) S.list (by decide +kernel) rfl) pa_nil))) pa_nil))))
        (pss_cons (ps_if (PW.pt (pw_or (pt_cmpR op_ne (pe_callB call_isi (by rfl) S.isi (by decide +kernel) (pa_cons (pv 0) (pa_cons (pe_bltn (v := .ty "tuple") (by rfl) S.tuple (by decide +kernel) rfl) pa_nil))) (pe_callB call_isi (by rfl) S.isi (by decide +kernel) (pa_cons (pv 1) (pa_cons (pe_bltn (v := .ty "tuple") (by rfl) S.tuple (by decide +kernel) rfl) pa_nil))) (nomark _))
            (pw_or1 (pt_cmpR op_ne (pe_callB call_isi (by rfl) S.isi (by decide +kernel) (pa_cons (pv 0) (pa_cons (pe_bltn (v := .ty "list") (by rfl) S.list (by decide +kernel) rfl) pa_nil))) (pe_callB call_isi (by rfl) S.isi (by decide +kernel) (pa_cons (pv 1) (pa_cons (pe_bltn (v := .ty "list") (by rfl) S.list (by decide +kernel) rfl) pa_nil))) (nomark _)))))
          (pss_one (ps_ret pe_bl)) pss_nil)
        (pss_one (ps_ret (pe_and (pe_cmpR op_eq (pe_callB call_len (by rfl) S.len PySem.boot_len (pa_cons (pv 0) pa_nil)) (pe_callB call_len (by rfl) S.len PySem.boot_len (pa_cons (pv 1) pa_nil)) (nomark _))
          (pe_one (pe_callB (cr_all rfl) (by rfl) S.all (by decide +kernel) (pa_cons (pe_lc (own := [("_law_one", 2), ("_law_other", 3)]) (g := gTup K 2 (gCons (gName 2) (gCons (gName 3) gNil))) (tt := tYes) rfl scSame.nd
            (RZ.pi_zipA (by rfl) S.zip (pa_cons (pv 0) (pa_cons (pv 1) pa_nil))) (blkOk_by (N := nSame) (sc := defScope sSame) (by decide +kernel))
            (fun _ _ _ _ _ => pg_tup rfl (pgs_cons (pg_name (i := 2) scSame.nd rfl (Or.inl rfl)) (pgs_cons (pg_name (i := 3) scSame.nd rfl (Or.inl rfl)) pgs_nil))) (fun _ _ _ _ _ => pts_nil)
            (fun _ _ _ _ _ => pe_call G hr rfl D.g D.F.kp D.b .nil pass0 (pa_cons (pv 2) (pa_cons (pv 3) pa_nil)))) pa_nil))))))) pss_nil)
        (pss_one (ps_ret (pe_and (pe_cmpR op_eq (pe_callB call_isi (by rfl) S.isi (by decide +kernel) (pa_cons (pv 0) (pa_cons (pe_bltn (v := .ty "bool") (by rfl) S.bool (by decide +kernel) rfl) pa_nil))) (pe_callB call_isi (by rfl) S.isi (by decide +kernel) (pa_cons (pv 1) (pa_cons (pe_bltn (v := .ty "bool") (by rfl) S.bool (by decide +kernel) rfl) pa_nil))) (nomark _))
          (pe_one (pe_cmpR (op_or op_eq (op_eqG (rc_obj S k') (hr.mono (by omega)))) (pv 0) (pv 1) (nomark _)))))), ?_⟩
      refine ⟨_, rfl, (by show 2 ≤ sizeLine; decide), fun p hp => ?_⟩
      have s1 : Same H (upd H p (.tup [.ty "tuple", .ty "list"])) := same_new hp
      have kp := q _ s1
      rcases hd with ⟨lf, rfl⟩ | ⟨a, b, xs, ys, rfl, rfl, hxy, h20, hq, hi⟩
      · obtain ⟨t, bb, ty, k1, k2, k3, self⟩ := leaf_kind k' (lf.same s1)
        refine ⟨x, p, _, _, _, _, rfl, upd_same, .cons (.ty _) (.cons (.ty _) .nil), ty, kitA k1 k2, _, rfl, iteF ?_⟩
        refine ⟨_, rfl, _, _, _, _, bb, rfl, .ty "bool", ty, k3, _, rfl, _, _, _, _, bb, rfl, .ty "bool", ty, k3, rfl, _, rfl, ?_⟩
        rw [decide_eq_true (show V.bl bb = V.bl bb from rfl)]
        refine iteT ⟨_, rfl, _, rfl, ?_⟩
        rcases self with self | self
        · refine .inl ⟨self, ?_⟩
          rw [decide_eq_true (show x = x from rfl)]
          exact kp
        · exact .inr ⟨self, fun H' e => q _ fun a o z => e a o (s1 a o z)⟩
      · have tys : ∃ t tt ll, TyX K (upd H p (.tup [.ty "tuple", .ty "list"])) (.ref a) t ∧ TyX K (upd H p (.tup [.ty "tuple", .ty "list"])) (.ref b) t ∧ PySem.W.kitOne K t (.type "tuple") = some tt ∧ PySem.W.kitOne K t (.type "list") = some ll ∧ (tt || ll) = true := by
          rcases hq with ⟨h1, h2⟩ | ⟨h1, h2⟩
          · exact ⟨.type "list", false, true, .base (.lst (s1 _ _ h1)), .base (.lst (s1 _ _ h2)), kit_ty (by decide +kernel), kit_ty (by decide +kernel), rfl⟩
          · exact ⟨.type "tuple", true, false, .base (.tup (s1 _ _ h1)), .base (.tup (s1 _ _ h2)), kit_ty (by decide +kernel), kit_ty (by decide +kernel), rfl⟩
        obtain ⟨ty, t, l, tx1, ty1, k1, k2, k3⟩ := tys
        refine ⟨_, p, _, _, _, _, rfl, upd_same, .cons (.ty _) (.cons (.ty _) .nil), ty1, kitA k1 k2, _, rfl, ?_⟩
        rw [k3]
        refine iteT ?_
        refine ⟨_, rfl, _, _, _, _, t, rfl, .ty "tuple", tx1, k1, _, rfl, _, _, _, _, t, rfl, .ty "tuple", ty1, k1, rfl, _, rfl, ?_⟩
        rw [decide_eq_true (show V.bl t = V.bl t from rfl)]
        refine iteF ?_
        refine ⟨_, rfl, _, _, _, _, l, rfl, .ty "list", tx1, k2, _, rfl, _, _, _, _, l, rfl, .ty "list", ty1, k2, rfl, _, rfl, ?_⟩
        rw [decide_eq_true (show V.bl l = V.bl l from rfl)]
        refine iteF ?_
        have lens : LenV K (V.ref a) (upd H p (.tup [.ty "tuple", .ty "list"])) xs.length ∧ LenV K (V.ref b) (upd H p (.tup [.ty "tuple", .ty "list"])) ys.length := by
          rcases hq with ⟨h1, h2⟩ | ⟨h1, h2⟩
          · exact ⟨.inl ⟨_, SqL.of (s1 _ _ h1), rfl⟩, .inl ⟨_, SqL.of (s1 _ _ h2), rfl⟩⟩
          · exact ⟨.inr ⟨_, SqT.of (s1 _ _ h1), rfl⟩, .inr ⟨_, SqT.of (s1 _ _ h2), rfl⟩⟩
        refine ⟨_, rfl, _, _, rfl, lens.1, _, rfl, _, _, rfl, lens.2, rfl, _, rfl, ?_⟩
        rw [decide_eq_true (show V.int xs.length = V.int ys.length by rw [hxy])]
        refine iteT ?_
        have inv0 : ∀ D : Addr, (upd H p (.tup [.ty "tuple", .ty "list"])) D = none → Keep D H (upd (upd H p (.tup [.ty "tuple", .ty "list"])) D (.lst [])) := fun D hD => (Keep.same s1).trans (Keep.new hD)
        have turn : ∀ (D : Addr), H D = none → ∀ (i : Nat) (x y : V) (T : Addr) (H4 : Hp), xs[i]? = some x → ys[i]? = some y → (Keep D H H4 ∧ H4 D = some (.lst (List.replicate i (V.bl true)))) → H4 T = none →
            spSame K k n [x, y] (upd H4 T (.tup [x, y])) (fun y H5 => ∃ acc, H5 D = some (.lst acc) ∧ acc.length < sizeLine ∧ (Keep D H (upd H5 D (.lst (acc ++ [y]))) ∧ (upd H5 D (.lst (acc ++ [y]))) D = some (.lst (List.replicate (i + 1) (V.bl true))))) E0 := by
          rintro D hD i x y T H4 hx hy ⟨k4, d4⟩ hT
          have sH : Same H H4 := fun b o e => k4 b o (ne_of_none e hD) e
          have s4 : Same H (upd H4 T (.tup [x, y])) := sH.trans (same_new hT)
          refine ⟨x, y, rfl, (hi i x y hx hy).same s4, fun H5 s5 => ?_⟩
          have lt : i < xs.length := (List.getElem?_eq_some_iff.mp hx).1
          refine ⟨_, s5 _ _ (same_new hT _ _ d4), by rw [List.length_replicate]; exact small1000 (by omega), fun b o n e => ?_, ?_⟩
          · rw [upd_ne n]
            exact s5 _ _ (s4 b o e)
          · rw [upd_same, List.replicate_succ']
        have fin : ∀ (D : Addr), H D = none → ∀ H4 : Hp, (Keep D H H4 ∧ H4 D = some (.lst (List.replicate xs.length (V.bl true)))) → ∃ (a' : Addr) (bs : List Bool), [V.ref D] = [V.ref a'] ∧ SqL K H4 a' (bs.map V.bl) ∧ Q (.bl (bs.all id)) H4 := by
          rintro D hD H4 ⟨k4, d4⟩
          refine ⟨D, List.replicate xs.length true, rfl, SqL.of (by rw [List.map_replicate]; exact d4), ?_⟩
          rw [show (List.replicate xs.length true).all id = true from by rw [List.all_eq_true]; intro b hb; exact (List.mem_replicate.mp hb).2]
          exact q _ fun b o e => k4 b o (ne_of_none e hD) e
        refine ⟨_, rfl, _, rfl, a, b, xs, ys, rfl, ?_⟩
        rcases hq with ⟨h1, h2⟩ | ⟨h1, h2⟩
        · refine .inl ⟨SqL.of (s1 _ _ h1), SqL.of (s1 _ _ h2), fun D hD => lc_zipL hxy (fun i H4 => Keep D H H4 ∧ H4 D = some (.lst (List.replicate i (V.bl true)))) ⟨inv0 D hD, upd_same⟩
            (fun i H4 ⟨k4, _⟩ => ?_) (fun i x y T H4 hx hy pv4 hT => ?_) (fin D (s1.free hD))⟩
          · have sH : Same H H4 := fun b o e => k4 b o (ne_of_none e (s1.free hD)) e
            exact ⟨SqL.of (sH _ _ h1), SqL.of (sH _ _ h2)⟩
          · exact ⟨T, _, rfl, SqT.of upd_same, rfl, _, _, rfl, _, _, rfl, rfl, rfl, _, rfl, _, rfl, turn D (s1.free hD) i x y T H4 hx hy pv4 hT⟩
        · refine .inr ⟨SqT.of (s1 _ _ h1), SqT.of (s1 _ _ h2), fun D hD => lc_zipT hxy (fun i H4 => Keep D H H4 ∧ H4 D = some (.lst (List.replicate i (V.bl true)))) ⟨inv0 D hD, upd_same⟩
            (fun i H4 ⟨k4, _⟩ => ?_) (fun i x y T H4 hx hy pv4 hT => ?_) (fin D (s1.free hD))⟩
          · have sH : Same H H4 := fun b o e => k4 b o (ne_of_none e (s1.free hD)) e
            exact ⟨SqT.of (sH _ _ h1), SqT.of (sH _ _ h2)⟩
          · exact ⟨T, _, rfl, SqT.of upd_same, rfl, _, _, rfl, _, _, rfl, rfl, rfl, _, rfl, _, rfl, turn D (s1.free hD) i x y T H4 hx hy pv4 hT⟩
end
end LK

namespace LK
open PySem PySem.Spec PyProof.Rows L2
/-! ### what makes the objects -/
/-- what is never run -/
theorem pe_never {X : Cx} {e : Expr} : PE X e (fun _ _ _ => False) := ⟨fun _ _ _ _ _ _ h => h.elim⟩
/-- a list by a comprehension over the characters of a text -/
theorem lc_str {x : Str} {g : TG} {tt : TT} {te : TE} {vs : List Nat} {σ : L2.St} {H1 : Hp} {D : Addr} {Qd : Hp → Prop} (Pv : Nat → Hp → Prop) (h0 : Pv 0 (upd H1 D (.lst [])))
    (hs : ∀ i c H, x.cps[i]? = some c → Pv i H → g (.str ⟨#[c]⟩) (wipe σ vs) H fun σ2 H2 => wipe σ2 vs = wipe σ vs ∧ tt σ2 H2 fun b H3 =>
      if b = true then te σ2 H3 fun y H4 => ∃ acc, H4 D = some (.lst acc) ∧ acc.length < sizeLine ∧ Pv (i + 1) (upd H4 D (.lst (acc ++ [y]))) else Pv (i + 1) H3) (hd : ∀ H, Pv x.cps.size H → Qd H) :
    ∃ W : Nat → Nat → Hp → Prop, (∃ m, W 0 m (upd H1 D (.lst []))) ∧ ∀ i m H, W i m H →
      ((Its x).stop i H ∧ Qd H) ∨ ((Its x).go i H ∧ ∃ Nx : Hp → Prop, (∀ H', Nx H' → ∃ m', m' < m ∧ W (i + 1) m' H') ∧ ∀ v H', (Its x).yld i H v H' → g v (wipe σ vs) H' fun σ2 H2 => wipe σ2 vs = wipe σ vs ∧ tt σ2 H2 fun b H3 =>
        if b = true then te σ2 H3 fun y H4 => ∃ acc, H4 D = some (.lst acc) ∧ acc.length < sizeLine ∧ Nx (upd H4 D (.lst (acc ++ [y]))) else Nx H3) := by
  refine ⟨fun i m H => m + i = x.cps.size ∧ Pv i H, ⟨x.cps.size, rfl, h0⟩, fun i m H w => ?_⟩
  obtain ⟨e, p⟩ := w
  by_cases lt : i < x.cps.size
  · refine .inr ⟨lt, Pv (i + 1), fun H' p' => ⟨m - 1, by omega, by omega, p'⟩, fun v H' y => ?_⟩
    obtain ⟨rfl, c, ec, rfl⟩ := y
    exact hs i c H' ec p
  · refine .inl ⟨by show x.cps.size ≤ i; omega, hd H ?_⟩
    rw [show x.cps.size = i by omega]
    exact p
theorem letters_all : ∀ c, c < 123 → 97 ≤ c → c ∈ TL.tl letters := by decide +kernel
def spName : Sp := fun vs H Q _ => ∃ z, vs = [.str z] ∧ NameOk z ∧ ∀ H', Same H H' → Q (.bl true) H'
/-- the constants of the names' module -/
structure Words (K : PySem.W.Frag) (mg : Str → Option Value) (kw : Addr) : Prop where
  longest : ∃ t, mg "LONGEST_NAME" = some (.int 4 t)
  letters : ∃ t, mg "LETTERS" = some (.str letters t)
  kept : mg "KEPT_WORDS" = some (.ref kw)
  tup : ∀ H, SqT K H kw [.str "if", .str "else", .str "end"]
section
variable {P : Program} {w : World} {K : PySem.W.Frag} {mg : Str → Option Value} {base : Heap}
def nIs : List Str := ["value", "letter"]
theorem scIs : FnScope nIs ["value"] (defScope sIsName) := ⟨rfl, rfl, rfl, by decide +kernel, rfl, by decide +kernel, by decide +kernel⟩
theorem ok_isName {f kw : Addr} {fd : FuncData} (S : Std mg) (W : Words K mg kw) (F : Fun K "is_name" "is_name" sIsName f fd) : FnOk P w K mg base CX0 1 f fd ["value"] spName := by
  refine F.ok scIs (fun vs H Q E h => ?_) (fun cdv A outer s H vs Q E hr h => ?_)
  · obtain ⟨z, rfl, _⟩ := h
    rfl
  · obtain ⟨z, rfl, hz, q⟩ := h
    obtain ⟨t1, m1⟩ := W.longest
    obtain ⟨t2, m2⟩ := W.letters
    refine ⟨_, pss_cons (ps_if (PW.pt (pw_or (pt_not (pt_val (pe_callB call_isi (by rfl) S.isi (by decide +kernel) (pa_cons (pv 0) (pa_cons (pe_bltn (v := .ty "str") (by rfl) S.str (by decide +kernel) rfl) pa_nil)))))
          (pw_or1 (pt_not (pt_chain op_le op_le pe_int (pe_callB call_len (by rfl) S.len PySem.boot_len (pa_cons (pv 0) pa_nil)) (pe_glob (v := .int 4) rfl m1 ⟨_, rfl⟩))))))
        (pss_one (ps_ret pe_bl)) pss_nil)
      (pss_one (ps_ret (pe_and (pe_cmpR op_notIn_seq (pv 0) (pe_glob (v := .ref kw) rfl W.kept rfl) (by rfl))
        (pe_one (pe_callB (cr_all rfl) (by rfl) S.all (by decide +kernel) (pa_cons (pe_lc (own := [("letter", 1)]) (g := gName 1) (tt := tYes) rfl scIs.nd
            (pi_str (pv 0)) (blkOk_by (N := nIs) (sc := defScope sIsName) (by decide +kernel)) (fun _ _ _ _ _ => pg_name (i := 1) scIs.nd rfl (Or.inl rfl)) (fun _ _ _ _ _ => pts_nil)
            (fun _ _ _ _ _ => pe_cmpR op_in_sign (pv 1) (pe_glob (v := .str letters) rfl m2 ⟨_, rfl⟩) (by rfl))) pa_nil)))))), ?_⟩
    have zl : z.length = z.cps.size := rfl
    have h4 := hz.len
    have h1 := hz.pos
    refine ⟨_, rfl, _, _, _, _, true, rfl, .ty "str", .base (.str z), kit_ty (by decide +kernel), true, rfl, iteF ?_⟩
    refine ⟨_, rfl, _, z.length, rfl, ⟨by rw [sizeLine_eq]; omega, rfl⟩, _, _, rfl, rfl, _, rfl, ?_⟩
    rw [decide_eq_true (show (1 : Int) ≤ (z.length : Int) by omega)]
    refine iteT ⟨_, _, rfl, rfl, _, rfl, ?_⟩
    rw [decide_eq_true (show (z.length : Int) ≤ 4 by omega)]
    refine iteF ⟨_, rfl, kw, _, rfl, .inr (W.tup H), rfl, by decide +kernel, ?_⟩
    have no : inV (.str z) [.str "if", .str "else", .str "end"] = false := by
      have e1 : (("if" : Str) == z) = false := beq_eq_false_iff_ne.mpr (Ne.symm hz.nif)
      have e2 : (("else" : Str) == z) = false := beq_eq_false_iff_ne.mpr (Ne.symm hz.nelse)
      have e3 : (("end" : Str) == z) = false := beq_eq_false_iff_ne.mpr (Ne.symm hz.nend)
      show (("if" : Str) == z || (("else" : Str) == z || (("end" : Str) == z || false))) = false
      rw [e1, e2, e3]
      rfl
    rw [if_pos rfl, no]
    refine ⟨_, rfl, iteT ⟨_, rfl, z, rfl, fun D hD => lc_str (fun i H4 => Keep D H H4 ∧ H4 D = some (.lst (List.replicate i (V.bl true)))) ⟨Keep.new hD, upd_same⟩ (fun i c H4 hc ⟨k4, d4⟩ => ?_) (fun H4 ⟨k4, d4⟩ => ?_)⟩⟩
    · have lt : i < z.cps.size := (Array.getElem?_eq_some_iff.mp hc).1
      have mem : c ∈ TL.tl letters := by
        obtain ⟨c0, c1⟩ := hz.low c (Array.mem_toList_iff.mpr (Array.mem_of_getElem? hc))
        exact letters_all c (by omega) c0
      refine ⟨rfl, _, rfl, c, letters, rfl, rfl, _, d4, by rw [List.length_replicate]; exact small1000 (by omega), fun b o n e => ?_, ?_⟩
      · rw [upd_ne n]
        exact k4 b o n e
      · rw [upd_same, decide_eq_true (show c ∈ letters.cps.toList from mem), List.replicate_succ']
    · refine ⟨D, List.replicate z.cps.size true, rfl, SqL.of (by rw [List.map_replicate]; exact d4), ?_⟩
      rw [show (List.replicate z.cps.size true).all id = true from by rw [List.all_eq_true]; intro b hb; exact (List.mem_replicate.mp hb).2]
      exact q _ fun b o e => k4 b o (ne_of_none e hD) e
end
end LK

/-! xs.extend(t), t a tuple -/
namespace LR
open PySem PySem.Spec PyProof.Rows L2
theorem meets_extT {l b : Addr} {its more : Array Value} {n : Nat} {ob : Obj} (few : its.size + more.size ≤ sizeLine) :
    Meets (Builtin.«list.extend» ⟨[.ref l, .ref b], []⟩) (fun _ R s => s.heap.get? l = some { cls := .type "list", dict := none, data := .seq its n, slots := #[] } ∧ (s.heap.get? b = some ob ∧ ob.cls = .type "tuple" ∧ ∃ k, ob.data = .seq more k) ∧
      R (.ok (.ret Value.none)) { s with heap := s.heap.update l (Obj.mapSeq fun x => x ++ more), toks := s.toks }) :=
  .of_wp fun prog w A R s h => by
    obtain ⟨a1, ⟨a2, a3, k, a4⟩, q⟩ := h
    change wpAny _ _ (Builtin.List.listExtendWith (.ref l) (.ref b) .none) _ _ s
    unfold Builtin.List.listExtendWith
    refine wpAny_bind (wpAny_typeOf ⟨ob, a2, a3⟩ ?_)
    rw [if_pos (by simp)]
    unfold Builtin.List.listItems
    refine wpAny_bind (wpAny_bind (wpAny_seqItems a2 a4 (wpAny_pure ?_)))
    refine wpAny_bind (wpAny_bind (wpAny_seqItems a1 rfl (wpAny_pure ?_)))
    have short : ¬ ((!its.isEmpty && Builtin.List.listTooLong (its.size + more.size)) = true) := by
      rw [notLongL few, Bool.and_false]
      exact Bool.false_ne_true
    rw [if_neg short]
    change wpAny _ _ (updateSeq l (· ++ more) >>= fun _ => ret Value.none) _ _ s
    refine wpAny_bind (wpAny_updateSeq a1 rfl ?_ (hz := by omega) (_hz' := by rw [Array.size_append]; omega))
    exact wpAny_pure ⟨_, rfl, q⟩
section
variable {X : Cx}
def rExtT (K : PySem.W.Frag) : V → List V → Hp → VK → Prop := fun x vs H Q => ∃ l b xs zs, x = V.ref l ∧ vs = [V.ref b] ∧ H l = some (.lst xs) ∧ SqT K H b zs ∧ xs.length + zs.length ≤ sizeLine ∧ Q .non (upd H l (.lst (xs ++ zs)))
theorem mt_extT : MtM X "list.extend" (rExtT X.K) := by
  intro pins s σ H x vs v us Q I rx rv h
  obtain ⟨l, b, xs, zs, rfl, rfl, hl, hb, few, q⟩ := h
  cases rx
  obtain ⟨u, rfl, ru⟩ := rv.one
  cases ru
  obtain ⟨_, its, n, r, len, e⟩ := I.lstM hl
  obtain ⟨its2, r2, it, _⟩ := I.tuple hb
  obtain ⟨ob, b1, b2, b3⟩ := it
  have len2 := r2.length
  refine call_meets PySem.F.slot_list_extend ⟨_, e, rfl⟩ PySem.F.entry_list_extend (PySem.F.args_list_extend_2 _ _) (meets_extT (its := its.toArray) (n := n) (more := its2.toArray) (ob := ob) (by rw [List.size_toArray, List.size_toArray]; omega)) ⟨e, ⟨b1, b2, b3⟩, ?_⟩
  refine ⟨.non, _, I.lset (its' := its ++ its2) hl e (by simp) (r.append r2) (by rw [List.length_append]; omega), rfl, q⟩
end
end LR

/-! a dict that is made by a comprehension, its keys tuples -/
namespace LR
open PySem PySem.Spec PyProof.Rows L2
section
variable {X : Cx} {kx vx tg iter : Expr} {ifs : List Expr} {scope : Scope} {own : List (Str × Nat)} {pos : Pos} {wi : TI} {g : TG} {tt : TT} {tk tv : TE}
/-- the new pair goes into the dict at D -/
def PutT (D : Addr) (y z : V) (Nx : Hp → Prop) (H : Hp) : Prop :=
  ∃ kvs k b, y = V.ref b ∧ H b = some (.tup (k.map kV)) ∧ H D = some (.dT kvs) ∧ kvs.length < sizeLine ∧ Nx (upd H D (.dT (putK kvs k z)))
/-- the turn's end, by what the tests say -/
def RowT (D : Addr) (tt : TT) (tk tv : TE) (Nx : Hp → Prop) : L2.St → Hp → Prop := fun σ H =>
  tt σ H fun b H3 => if b = true then tk σ H3 fun y H4 => tv σ H4 fun z H5 => PutT D y z Nx H5 else Nx H3
def tDcT (wi : TI) (g : TG) (tt : TT) (tk tv : TE) (vs : List Nat) : TE := fun σ H Q => wi σ H fun J H1 => ∀ D, H1 D = none →
  ∃ W : Nat → Nat → Hp → Prop, (∃ m, W 0 m (upd H1 D (.dT []))) ∧ ∀ i m H, W i m H → (J.stop i H ∧ Q (.ref D) H) ∨
    (J.go i H ∧ ∃ Nx : Hp → Prop, (∀ H', Nx H' → ∃ m', m' < m ∧ W (i + 1) m' H') ∧ ∀ x H', J.yld i H x H' → g x (wipe σ vs) H' fun σ2 H2 => wipe σ2 vs = wipe σ vs ∧ RowT D tt tk tv Nx σ2 H2)
/-- the store of one pair -/
theorem put_ok {B : Cx} {pins : List (Addr × Obj)} {σ : L2.St} {H : Hp} {s : Shared} {D : Addr} {y z : V} {u r : Value} {Nx : Hp → Prop} {E : Value → Shared → Prop} {Q : Unit → Shared → Prop} (hu : B.A.units < cLine)
    (I : Inv B pins σ H s) (ry : RelV y u) (rz : RelV z r) (p : PutT D y z Nx H) (h : ∀ s' H', Inv B pins σ H' s' → Nx H' → Q () s') : wpAny (model B.prog B.w) B.A (dictSet D u r) Q E s := by
  obtain ⟨kvs, k, b, rfl, hb, hD, few, nx⟩ := p
  cases (show u = Value.ref b from ry)
  obtain ⟨z1, z2, xs, rel, dd⟩ := dt_of I.hok hD
  have fits : xs.length ≤ sizeLine := by
    rw [← Paired.length rel]
    exact z1
  have more := length_putK kvs k z
  refine wpAny_dictSet_heap (hsz := fits) (show (tupleKind (mixKind B.prog B.w)).room B.A from hu) (key_of I.hok hb) dd fun h' now same => h _ _ ?_ nx
  obtain ⟨q, es, ep, a1, a2, a3, a4, _, a5⟩ := now
  refine d_write I (by rw [hD]; exact True.intro) same ⟨q, a1⟩ ⟨by omega, z2, _, (rel.put k hb rz).keeps fun c ys at_c => ?_, q, es, ep, a1, a2, a3, a4, a5⟩
  have away : c ≠ D := ne_of at_c hD fun z => nomatch z
  rw [upd_ne away]
  exact at_c
/-- {kx: vx for tg in iter if ..}, the keys tuples -/
theorem pe_dcT (calm : X.calm = true) (hu : X.A.units < cLine) (nd : X.N.Nodup) (pi : PI X tg iter wi) (ok : BlkOk X.N X.env.scope scope own)
    (pg : ∀ (s : Shared) (H : Hp) (C : Addr) (cl : List (Str × Addr)) (fp : List Addr), PG (X.blk s H scope (compEnvC scope cl C X.env) fp) tg g)
    (pt : ∀ (s : Shared) (H : Hp) (C : Addr) (cl : List (Str × Addr)) (fp : List Addr), PTs (X.blk s H scope (compEnvC scope cl C X.env) fp) ifs tt)
    (pk : ∀ (s : Shared) (H : Hp) (C : Addr) (cl : List (Str × Addr)) (fp : List Addr), PE (X.blk s H scope (compEnvC scope cl C X.env) fp) kx tk)
    (pv : ∀ (s : Shared) (H : Hp) (C : Addr) (cl : List (Str × Addr)) (fp : List Addr), PE (X.blk s H scope (compEnvC scope cl C X.env) fp) vx tv)
    (fold : ∀ x, foldedSetIterable iter X.env x = pure x := by intro _; rfl) :
    PE X (.DictComp kx vx [⟨tg, iter, ifs, 0⟩] scope pos) (tDcT wi g tt tk tv (own.map (·.2))) := by
  refine ⟨fun pins s σ H Q I h => ?_⟩
  rw [arm_eval_DictComp]
  have cells : ∀ y ∈ scope.names, y.2 = .free → ∃ c, X.env.cells.lookup y.1 = some c := fun y hy z => (ok.free y hy z).elim (fun k => I.ok.has _ (.inl k)) fun k => I.ok.has _ (.inr k)
  refine wpAny_comprehension_free (use := none) rfl fold (closure_ok cells) ok.kind (fun y hy z => by rw [ok.uniq y hy, z]) (thn (pi.run pins s σ H _ I h) fun v1 s1 b1 => thn b1 fun v2 s2 b2 => ?_)
  obtain ⟨it, fp, tn, J, H2, rfl, I2, T, at0, off, q⟩ := b2
  refine wpAny_newObj_type (newEnv_comp ?_)
  have freshD : H2 s2.heap.objs.size = none := I2.hok.fresh (Nat.le_refl _)
  obtain ⟨W, ⟨m0, w0⟩, turn⟩ := q s2.heap.objs.size freshD
  have low : ∀ b, b ∈ fp → b < s2.heap.objs.size := fun b hb => by
    obtain ⟨o, z, _⟩ := T.obj _ _ at0 b hb
    exact Heap.lt_size z
  have I3 := I2.laid (t' := s2.toks) (fun b o z => Heap.get?_push_of_some _ z) (Nat.le_refl _) (dt_empty (P := X.prog) (w := X.w) (H := upd H2 s2.heap.objs.size (.dT [])) s2.heap I2.big)
  generalize e3 : ({ s2 with heap := s2.heap.push { cls := .type "dict", data := .dict #[] } } : Shared) = s3
  rw [show ({ s2 with heap := s2.heap.push { cls := .type "dict", data := .dict #[] }, toks := s2.toks } : Shared) = s3 from e3] at I3
  have push3 : ∀ {b : Addr} {o : Obj}, s2.heap.get? b = some o → s3.heap.get? b = some o := fun {b o} z => by
    rw [← e3]
    exact Heap.get?_push_of_some _ z
  have size3 : s3.heap.objs.size = s2.heap.objs.size + 1 := by
    rw [← e3]
    exact Heap.size_push _ _
  generalize eD : s2.heap.objs.size = D at freshD w0 turn low I3 size3 ⊢
  have off3 : ∀ b, b ∈ fp → FpOk X pins (upd H2 D (.dT [])) b ∧ b < s3.heap.objs.size := fun b hb => by
    obtain ⟨f0, f1⟩ := off b hb
    have lb := low b hb
    exact ⟨⟨by rw [upd_ne (Nat.ne_of_lt lb)]; exact f0, f1⟩, by rw [size3]; exact Nat.lt_succ_of_lt lb⟩
  have J0 := block_start I3 ok nd off3
  have pg' := pg s3 (upd H2 D (.dT [])) s3.heap.objs.size (cellsFrom (s3.heap.objs.size + 1) scope.names (cloFrom X.env.cells scope.names [])) fp
  have pt' := pt s3 (upd H2 D (.dT [])) s3.heap.objs.size (cellsFrom (s3.heap.objs.size + 1) scope.names (cloFrom X.env.cells scope.names [])) fp
  have pk' := pk s3 (upd H2 D (.dT [])) s3.heap.objs.size (cellsFrom (s3.heap.objs.size + 1) scope.names (cloFrom X.env.cells scope.names [])) fp
  have pv' := pv s3 (upd H2 D (.dT [])) s3.heap.objs.size (cellsFrom (s3.heap.objs.size + 1) scope.names (cloFrom X.env.cells scope.names [])) fp
  change codeAny _ _ (.compStart (.DictComp kx vx [⟨tg, iter, ifs, 0⟩] scope pos) 0 (.ref it) (.ref D)
    (compEnvC scope (cellsFrom (s3.heap.objs.size + 1) scope.names (cloFrom X.env.cells scope.names [])) s3.heap.objs.size X.env))
    (compPost (model X.prog X.w) X.A X.xe none (EP X pins σ Q) (.ref D) s3.heap.objs.size)
    { s3 with heap := pushCells (s3.heap.push { cls := .type "dict", data := .dict #[] }) scope.names }
  have locs : (compEnvC scope (cellsFrom (s3.heap.objs.size + 1) scope.names (cloFrom X.env.cells scope.names [])) s3.heap.objs.size X.env).locals = s3.heap.objs.size := rfl
  generalize compEnvC scope (cellsFrom (s3.heap.objs.size + 1) scope.names (cloFrom X.env.cells scope.names [])) s3.heap.objs.size X.env = ce at J0 pg' pt' pk' pv' locs ⊢
  generalize e4 : ({ s3 with heap := pushCells (s3.heap.push { cls := .type "dict", data := .dict #[] }) scope.names } : Shared) = s4 at J0 ⊢
  have at4 : tn 0 s4.heap := T.keep _ _ _ at0 fun b _ o z => by
    rw [← e4]
    exact pushCells_keeps _ _ _ _ (Heap.get?_push_of_some _ (push3 z))
  generalize upd H2 D (.dT []) = H3 at I3 off3 J0 pg' pt' pk' pv' w0 ⊢
  -- seen from the block the walker's things are no one's
  have offB : ∀ {σ' : L2.St} {H' : Hp} {s' : Shared}, Inv (X.blk s3 H3 scope ce fp) [] σ' H' s' → (∀ b, b ∈ fp → H' b = none) → ∀ b, b ∈ fp → FpOk (X.blk s3 H3 scope ce fp) [] H' b := fun J free b hb => by
    obtain ⟨z1, z2⟩ := J.ok.exf b hb
    refine ⟨free b hb, z1, J.ok.exfs b hb, .inl hb, z2, fun r hr => ?_⟩
    simp at hr
  have loop : codeAny (model X.prog X.w) X.A (.compLoop (.DictComp kx vx [⟨tg, iter, ifs, 0⟩] scope pos) 0 (.ref it) (.ref D) ce) (compPost (model X.prog X.w) X.A X.xe none (EP X pins σ Q) (.ref D) s3.heap.objs.size) s4 := by
    refine compLoop_anyD (fun n s' => ∃ i H', Inv (X.blk s3 H3 scope ce fp) [] (wipe σ (own.map (·.2))) H' s' ∧ tn i s'.heap ∧ (∀ b, b ∈ fp → H' b = none) ∧ W i n H') (fun n s5 inv => ?_) m0 ⟨0, H3, J0, at4, fun b hb => (off3 b hb).1.1, w0⟩
    obtain ⟨i, H5, J5, at5, free5, w5⟩ := inv
    rcases turn i n H5 w5 with ⟨stop, done⟩ | ⟨go, Nx, again, step⟩
    · refine thnF (T.done (X.blk s3 H3 scope ce fp) rfl rfl rfl calm i [] s5 _ H5 (fun _ _ => False) J5 (offB J5 free5) at5 stop) fun r s6 r6 => ?_
      obtain ⟨rfl, J6⟩ := r6
      have I7 : Inv X pins σ H5 s6 := I3.call' (ch := fp) J6.os J6.base J6.hok J6.bare fun b hb => by
        obtain ⟨_, o1, _, o3, o4, o5⟩ := (off3 b hb).1
        exact ⟨o3, o1, o4, o5⟩
      have noC : H5 s3.heap.objs.size = none := by
        have z : H5 ce.locals = none := J6.free
        rwa [locs] at z
      obtain ⟨m, ns, _⟩ := J6.loc
      have ns' : s6.heap.Ns ce.locals m := ns
      rw [locs] at ns'
      obtain ⟨c0, c1, _, c3, c4, c5⟩ := I3.fpOk (Nat.le_refl _) noC
      exact ⟨m, ns', fun h2 but => ⟨.ref D, H5, I7.turned (t' := s6.toks) (fun b o nb z => (but.2 b nb).trans z) c0 c1 c3 c4 c5, rfl, done⟩⟩
    · refine thnF (T.item (X.blk s3 H3 scope ce fp) rfl rfl rfl calm i [] s5 _ H5 (fun _ _ => False) J5 (offB J5 free5) at5 go) fun r s6 r6 => ?_
      obtain ⟨u, rfl, own6⟩ := r6
      refine thnF own6 fun _ s7 r7 => ?_
      obtain ⟨x, H7, J7, rx, yl, at7, free7⟩ := r7
      have P7 := J7.pinned (offB J7 free7) (T.obj _ _ at7)
      refine thnF (pg'.run _ s7 _ H7 x u _ P7 rx (step x H7 yl)) fun _ s8 r8 => ?_
      obtain ⟨σ8, H8, J8, w8, q8⟩ := r8
      refine thnF (pt'.run _ s8 σ8 H8 _ J8 q8) fun b s9 r9 => ?_
      obtain ⟨H9, J9, q9⟩ := r9
      have close : ∀ {s' : Shared} {H' : Hp}, Inv (X.blk s3 H3 scope ce fp) ([] ++ pinsAt fp s7.heap) σ8 H' s' → Nx H' → ∃ m, m < n ∧ ∃ i H', Inv (X.blk s3 H3 scope ce fp) [] (wipe σ (own.map (·.2))) H' s' ∧ tn i s'.heap ∧ (∀ b, b ∈ fp → H' b = none) ∧ W i m H' := fun {s' H'} J' nx => by
        obtain ⟨m', lt, w'⟩ := again H' nx
        have kept : ∀ b, b ∈ fp → ∀ o, s7.heap.get? b = some o → s'.heap.get? b = some o ∧ H' b = none := fun b hb o z => by
          have r := J'.pin (b, o) (List.mem_append_right _ (List.mem_append_right _ (mem_pinsAt hb z)))
          exact ⟨r.1, r.2.1⟩
        refine ⟨m', lt, i + 1, H', (J'.unpinned (pins := [])).weak (by rw [← w8, wipe_length]) (fun j v z => (wipe_some (by rwa [← w8] at z)).1), T.keep _ _ _ at7 fun b hb o z => (kept b hb o z).1, fun b hb => ?_, w'⟩
        obtain ⟨o, z, _⟩ := T.obj _ _ at7 b hb
        exact (kept b hb o z).2
      cases b with
      | false => exact close J9 (by simpa using q9)
      | true =>
        rw [if_pos rfl] at q9 ⊢
        refine thnF (pk'.run _ s9 σ8 H9 _ J9 q9) fun z s10 r10 => ?_
        obtain ⟨yk, H10, J10, rk, q10⟩ := r10
        refine thnF (pv'.run _ s10 σ8 H10 _ J10 q10) fun z2 s11 r11 => ?_
        obtain ⟨yv, H11, J11, rv, q11⟩ := r11
        exact put_ok (B := X.blk s3 H3 scope ce fp) hu J11 rk rv q11 fun s12 H12 J12 nx => close J12 nx
  exact codeAny_compStart_dict loop (T.self X.A 0 _ _ _ at4 loop)
end
end LR

/-! sorted(found), found a dict whose keys are pairs of texts -/
namespace LR
open PySem PySem.Spec PyProof.Rows L2
/-- a pair of texts as a key, as items of a sort, its order -/
def kT (e : Str × Str) : List Key := [.inr e.1, .inr e.2]
def kL (e : Str × Str) : List (Int ⊕ List Nat) := [.inr e.1.cps.toList, .inr e.2.cps.toList]
def upT (a b : Str × Str) : Prop := lexLt itemOrd (kL b) (kL a) = false
abbrev ent2 (e : (Str × Str) × V) : List Key × V := (kT e.1, e.2)
abbrev Kp := (Str × Str) × Addr
def PairAt (H : Hp) (z : Kp) : Prop := H z.2 = some (.tup [.str z.1.1, .str z.1.2])
theorem kps_of {H : Hp} : ∀ {es : List ((Str × Str) × V)} {xs : List (List Key × Addr × Value)}, KT H (es.map ent2) xs →
    ∃ zs : List Kp, zs.map (·.1) = es.map (·.1) ∧ zs.map (·.2) = xs.map (fun x => x.2.1) ∧ ∀ z ∈ zs, PairAt H z
  | [], _, r => by
    cases r
    exact ⟨[], rfl, rfl, fun _ h => nomatch h⟩
  | e :: es, xs, r => by
    cases r with
    | @cons _ q _ ys h t =>
      obtain ⟨zs, a, b, c⟩ := kps_of t
      refine ⟨(e.1, q.2.1) :: zs, by rw [List.map_cons, List.map_cons, a], by rw [List.map_cons, List.map_cons, b], fun z hz => ?_⟩
      rcases List.mem_cons.mp hz with rfl | hz
      · exact h.2.1
      · exact c z hz
section
variable {P : Program} {w : World} {H : Hp} {h : Heap}
/-- a pair of texts laid out -/
theorem pair_obj {z : Kp} (ok : HOk P w H h) (p : PairAt H z) : ∃ t u, IsTup h z.2 #[.str z.1.1 t, .str z.1.2 u] := by
  obtain ⟨_, its, rv, it⟩ := (show ObjOk P w H h z.2 (.tup [.str z.1.1, .str z.1.2]) from ok _ _ p)
  cases rv with
  | cons r1 r2 =>
    cases r2 with
    | cons r3 r4 =>
      cases r4
      obtain ⟨t, rfl⟩ := r1
      obtain ⟨u, rfl⟩ := r3
      exact ⟨t, u, it⟩
abbrev allS : Nat → Bool := fun _ => true
theorem pair_key {z : Kp} {t u : Tok} (x : IsTup h z.2 #[.str z.1.1 t, .str z.1.2 u]) : G.tupKeyC h allS (.ref z.2) = some (kL z.1) := by
  obtain ⟨o, ho, hc, n, hd⟩ := x
  exact G.tupKeyC_of ho hc hd (by simp [tupItems, allS, kL])
theorem pair_first {z : Kp} {t u : Tok} (x : IsTup h z.2 #[.str z.1.1 t, .str z.1.2 u]) : TupOf h allS (.ref z.2) (.str z.1.1 t) := by
  obtain ⟨o, ho, hc, n, hd⟩ := x
  exact ⟨_, o, _, n, rfl, ho, hc, hd, rfl, ⟨(fun e => nomatch e), fun _ => ⟨_, _, rfl⟩⟩⟩
theorem pairs_first : ∀ zs : List Kp, (∀ z ∈ zs, ∃ t u, IsTup h z.2 #[.str z.1.1 t, .str z.1.2 u]) → ∃ fs, TupsOf h allS (zs.map fun z => Value.ref z.2) fs
  | [], _ => ⟨[], .nil⟩
  | z :: zs, x => by
    obtain ⟨fs, f⟩ := pairs_first zs fun y hy => x y (List.mem_cons_of_mem _ hy)
    obtain ⟨t, u, it⟩ := x z List.mem_cons_self
    exact ⟨_, .cons (pair_first it) f⟩
end
theorem zip_twice {α : Type} (f : α → Value) : ∀ l : List α, (l.map f).zip (l.map f) = l.map fun x => (f x, f x)
  | [] => rfl
  | x :: l => by
    show (f x, f x) :: (l.map f).zip (l.map f) = _
    rw [zip_twice f l]
    rfl
/-- what the sort made of the pairs -/
theorem pairs_out {h : Heap} {zs : List Kp} {arr : Array Keyed} (x : ∀ z ∈ zs, G.tupKeyC h allS (.ref z.2) = some (kL z.1)) (pm : arr.Perm (pairsOf (zs.map fun z => Value.ref z.2)))
    (up : SortedToK (G.tupKindC h allS) arr (pairsOf (zs.map fun z => Value.ref z.2)).size) : ∃ ys : List Kp, ys.Perm zs ∧ (arr.map (·.2)).toList = ys.map (fun z => Value.ref z.2) ∧ ys.Pairwise fun a b => upT a.1 b.1 := by
  have pl : arr.toList.Perm (zs.map fun z => (Value.ref z.2, Value.ref z.2)) := by
    have q := Array.perm_iff_toList_perm.mp pm
    rw [pairsOf_toList, zip_twice] at q
    exact q
  obtain ⟨ys, py, ey⟩ := perm_lift (fun z : Kp => (Value.ref z.2, Value.ref z.2)) pl zs rfl
  have size : (pairsOf (zs.map fun z => Value.ref z.2)).size = ys.length := by rw [pairsOf_size, List.length_map, py.length_eq]
  have at_ : ∀ (i : Nat) (y : Kp), ys[i]? = some y → KK (G.tupKindC h allS) arr i = kL y.1 := by
    intro i y hy
    have q : arr[i]? = some (Value.ref y.2, Value.ref y.2) := by
      rw [← Array.getElem?_toList, ← ey, List.getElem?_map, hy]
      rfl
    unfold KK
    rw [q]
    show ((G.tupKeyC h allS (.ref y.2)).getD _) = _
    rw [x y (py.mem_iff.mp (List.mem_of_getElem? hy))]
    rfl
  refine ⟨ys, py, ?_, ?_⟩
  · rw [Array.toList_map, ← ey, List.map_map]
    rfl
  · rw [List.pairwise_iff_getElem]
    intro i j hi hj lt
    have q := up i j (Nat.le_of_lt lt) (by rw [size]; exact hj)
    rw [at_ i ys[i] (List.getElem?_eq_getElem hi), at_ j ys[j] (List.getElem?_eq_getElem hj)] at q
    exact q
section
variable {P : Program} {w : World} {A : Around} {E : Value → Shared → Prop} {s : Shared} {T : String} {r d : Addr} {n : Nat} {It1 : Nat → Value → Prop} {OK : Heap → Prop}
/-- the things of a source, one after another, and that the heap grew -/
theorem collect_src {R : List Value → Shared → Prop} (src : PySem.W.KdlSrc P w T r d n It1 OK) (quiet : A.handled = none) (here : OK s.heap) (few : n ≤ sizeLine)
    (k : ∀ (h' : Heap) (tk : Nat) (acc : Array Value), (∀ b o, s.heap.get? b = some o → h'.get? b = some o) → s.heap.objs.size ≤ h'.objs.size → ItemsOf It1 acc n → R acc.toList { s with heap := h', toks := tk }) :
    wpAny (model P w) A (collect (.ref r)) R E s := by
  obtain ⟨lr, ld⟩ := src.there _ here
  let End : Result → Shared → Prop := fun q t => ∃ h' tk acc c, q = .ok (.ret (.ref s.heap.objs.size)) ∧ t = { s with heap := h', toks := tk } ∧ (∀ b o, s.heap.get? b = some o → h'.get? b = some o) ∧
    h'.get? s.heap.objs.size = some { cls := .type "list", dict := none, data := .seq acc c, slots := #[] } ∧ ItemsOf It1 acc n
  have fin : ∀ h' tk acc c, (∀ b o, s.heap.get? b = some o → h'.get? b = some o) → h'.get? s.heap.objs.size = some { cls := .type "list", dict := none, data := .seq acc c, slots := #[] } → ItemsOf It1 acc n →
      wpAny (model P w) A (load s.heap.objs.size >>= fun o => match o.data with | .seq xs _ => pure xs.toList | _ => unsupported "internal:collect") R E { s with heap := h', toks := tk } := by
    intro h' tk acc c a1 a2 a3
    refine wpAny_bind (wpAny_load a2 ?_)
    exact wpAny_pure (k h' tk acc a1 (Nat.le_of_lt (Heap.lt_size a2)) a3)
  unfold collect
  refine wpAny_bind (wpAny_runValue (codeAny_builtin entry_proto_collect' ?_))
  rw [Around.under_plainId PySem.F.plain_proto_collect _]
  change wpAny _ A.in1 (newList [] >>= fun l => again (.builtin "list.__iadd__" ⟨[l, .ref r], []⟩)) _ _ s
  refine wpAny_bind (wpAny_newObj_type (wpAny_pure ⟨plainId_quiet PySem.F.plain_list_iadd _, codeAny_builtin entry_list_iadd' ?_⟩))
  rw [Around.under_plainId PySem.F.plain_list_iadd _]
  have new : (s.heap.push { cls := .type "list", data := .seq ([] : List Value).toArray }).get? s.heap.objs.size = some { cls := .type "list", data := .seq #[] } := Heap.get?_push_size _ rfl
  change wpAny _ A.in1 (Builtin.List.listExtendWith (.ref s.heap.objs.size) (.ref r) (.ref s.heap.objs.size)) _ _ _
  have run := PySem.W.kdl_extend (A := A) (R := End) (s := { s with heap := s.heap.push { cls := .type "list", data := .seq ([] : List Value).toArray } }) src quiet (src.keep _ _ here fun b _ o z => Heap.get?_push_of_some _ z)
    s.heap.objs.size (Nat.ne_of_gt lr) (Nat.ne_of_gt ld) (.ref s.heap.objs.size) 0 new (fun h' tk acc c stay at_s items => ⟨h', tk, acc, c, rfl, rfl, fun b o z => stay b o (Nat.ne_of_lt (Heap.lt_size z)) (Heap.get?_push_of_some _ z), at_s, items⟩) few
  refine wpAny_mono run (fun f t x => ?_) fun e t x => ?_
  · cases f with
    | done y =>
      obtain ⟨h', tk, acc, c, q, rfl, a1, a2, a3⟩ := x
      cases q
      exact fin h' tk acc c a1 a2 a3
    | again c1 =>
      obtain ⟨quiet1, x⟩ := x
      refine ⟨quiet1, codeAny_mono x fun y t2 x2 => ?_⟩
      obtain ⟨h', tk, acc, c, rfl, rfl, a1, a2, a3⟩ := x2
      exact fin h' tk acc c a1 a2 a3
  · obtain ⟨_, _, _, _, z, _⟩ := x
    cases z
end
section
variable {X : Cx}
theorem keys_out {P : Program} {w : World} {es : Array DictEntry} {ks : List (List Key × Addr × Value)} {acc : Array Value} (he : es.toList = ks.map (entryOfKey (tupleKind (mixKind P w))))
    (it : ItemsOf (fun i v => ∃ en : DictEntry, es[i]? = some en ∧ v = en.key) acc es.size) : acc.toList = (ks.map fun x => x.2.1).map Value.ref := by
  have few : es.size = ks.length := size_of_entries he
  refine List.ext_getElem? fun j => ?_
  rw [List.map_map, List.getElem?_map]
  by_cases lt : j < ks.length
  · have la : j < acc.size := by
      have := it.1
      omega
    obtain ⟨en, e1, e2⟩ := it.2 j acc[j] (Array.getElem?_eq_getElem la)
    have q := entry_at he j
    rw [e1, List.getElem?_eq_getElem lt] at q
    rw [Array.getElem?_toList, Array.getElem?_eq_getElem la, e2, Option.some.inj q, List.getElem?_eq_getElem lt]
    rfl
  · rw [List.getElem?_eq_none (by have := it.1; rw [Array.length_toList]; omega), List.getElem?_eq_none (by omega)]
    rfl
theorem cr_sortedDT (calm : X.calm = true) : CallR X (.builtin "sorted") (fun vs H Q => ∃ (a : Addr) (es : List ((Str × Str) × V)), vs = [V.ref a] ∧ H a = some (.dT (es.map ent2)) ∧
    ∀ (zs : List Kp) (p : Addr), (zs.map (·.1)).Perm (es.map (·.1)) → (zs.Pairwise fun x y => upT x.1 y.1) → (∀ z ∈ zs, PairAt H z) → H p = none → Q (.ref p) (upd H p (.lst (zs.map fun z => V.ref z.2)))) := by
  intro pins s σ H vs us Q I r h
  obtain ⟨a, es, rfl, ha, q⟩ := h
  rw [Vals.ref1 r]
  obtain ⟨z1, z2, ks, rel, o, ents, ep, ho, hx, hd, he, _, _⟩ := dt_of I.hok ha
  obtain ⟨zs, k1, k2, k3⟩ := kps_of rel
  have l1 : (es.map ent2).length = ks.length := Paired.length rel
  have l2 : zs.length = ks.length := by
    have := congrArg List.length k2
    simpa using this
  have l3 : ents.size = ks.length := size_of_entries he
  refine Calls.call_function_entry kind_sorted plain_sorted entry_sorted (args_sorted1 _) ?_
  unfold Builtin.«sorted»
  refine wpAny_bind (m := checkCount "sorted" 1 1 _) (wpAny_pure (wpAny_bind (collect_src (A := X.A.in1) (kdl_raw z2 hx hd) (I.ok.hd calm) ho (by omega) fun h' tk acc keep old it => ?_)))
  have ev : acc.toList = zs.map fun z => Value.ref z.2 := by
    rw [keys_out he it, ← k2, List.map_map]
    rfl
  rw [ev]
  refine wpAny_bind (wpAny_newList ?_ (by rw [List.length_map]; omega))
  generalize e2 : h'.push { cls := .type "list", data := .seq (zs.map fun z => Value.ref z.2).toArray } = h2
  have hoL : h2.get? h'.objs.size = some (seqObj "list" (zs.map fun z => Value.ref z.2).toArray 0) := by
    rw [← e2]
    exact Heap.get?_push_size _ rfl
  have up2 : ∀ b u, s.heap.get? b = some u → h2.get? b = some u := fun b u z => by
    rw [← e2]
    exact Heap.get?_push_of_some _ (keep b u z)
  have lay : ∀ z ∈ zs, ∃ t u, IsTup h2 z.2 #[.str z.1.1 t, .str z.1.2 u] := fun z hz => by
    obtain ⟨t, u, x⟩ := pair_obj I.hok (k3 z hz)
    exact ⟨t, u, x.keeps up2⟩
  obtain ⟨fs, hf⟩ := pairs_first zs lay
  have keyed : ∀ z ∈ zs, G.tupKeyC h2 allS (.ref z.2) = some (kL z.1) := fun z hz => by
    obtain ⟨t, u, x⟩ := lay z hz
    exact pair_key x
  refine wpAny_bind (wpAny_holding (wpAny_call_entry slot_list_sort ⟨_, hoL, rfl⟩ entry_list_sort (G.list_sort_tups (s := { s with heap := h2, toks := tk }) hoL hf (fun v hv => ?_) (by rw [List.length_map]; omega) fun st pm up _ => ⟨_, rfl, ?_⟩) (args_list_sort _)))
  · obtain ⟨z, hz, rfl⟩ := List.mem_map.mp hv
    exact ⟨_, keyed z hz⟩
  · obtain ⟨ys, y1, y2, y3⟩ := pairs_out keyed pm up
    obtain ⟨c, hc⟩ := sortedHeap_at (vs := zs.map fun z => Value.ref z.2) (out := (arrOf st).map (·.2)) hoL
    have stay : ∀ b u, s.heap.get? b = some u → (sortedHeap h2 h'.objs.size (zs.map fun z => Value.ref z.2) ((arrOf st).map (·.2))).get? b = some u := fun b u z => by
      have lt := Heap.lt_size (keep b u z)
      rw [sortedHeap_old (Nat.ne_of_lt lt) (Heap.lt_size (up2 b u z))]
      exact up2 b u z
    have len : (ys.map fun z => V.ref z.2).length ≤ sizeLine := by rw [List.length_map, y1.length_eq]; omega
    have free : H h'.objs.size = none := I.hok.fresh old
    have laid : ObjOk X.prog X.w (upd H h'.objs.size (.lst (ys.map fun z => V.ref z.2))) (sortedHeap h2 h'.objs.size (zs.map fun z => Value.ref z.2) ((arrOf st).map (·.2))) h'.objs.size (.lst (ys.map fun z => V.ref z.2)) :=
      ⟨len, ((arrOf st).map (·.2)).toList, c, by rw [y2]; exact vals_maps _ _ ys fun _ _ => rfl, hc⟩
    refine wpAny_pure ⟨_, rfl, .ref h'.objs.size, _, I.laid (t' := tk) stay old laid, rfl, q ys h'.objs.size ?_ y3 (fun z hz => k3 z (y1.mem_iff.mp hz)) free⟩
    rw [← k1]
    exact y1.map _
end
end LR

namespace LK
open PySem PySem.Spec PyProof.Rows L2 LR
/-! ### names and steps, gathered from what has them -/
/-- a def of the text with one default -/
structure Dd (K : PySem.W.Frag) (mg : Str → Option Value) (x : Str) (st : Stmt) (f : Addr) (fd : FuncData) (ps : List Str) : Prop where
  F : ∃ t, FunD K x x (defArgs st) (defBody st) (defScope st) [V.ref t] [] f fd
  b : Binds K fd ps []
  g : mg x = some (.ref f)
  kp : PySem.W.keepIn K (.ref f) = true
/-- v has a field that is a tuple -/
def FldT (K : PySem.W.Frag) (f : Str) (H : Hp) (v : V) (xs : List V) : Prop := ∃ a C dx fs q, v = .ref a ∧ H a = some (.ins C dx fs) ∧ Cls K C ∧ NoAttr K C f ∧ fs.lookup f = some (.ref q) ∧ SqT K H q xs
theorem FldT.same {K : PySem.W.Frag} {f : Str} {H H' : Hp} {v : V} {xs : List V} (s : Same H H') (h : FldT K f H v xs) : FldT K f H' v xs := by
  obtain ⟨a, C, dx, fs, q, e, ha, c, n, l, t⟩ := h
  exact ⟨a, C, dx, fs, q, e, s _ _ ha, c, n, l, SqT.same s t⟩
def tot (ks : List (V × Nat)) : Nat := (ks.map (·.2)).sum
theorem tot_take {ks : List (V × Nat)} {i : Nat} {e : V × Nat} (h : ks[i]? = some e) : tot (ks.take (i + 1)) = tot (ks.take i) + e.2 := by
  unfold tot
  rw [List.take_add_one, h, List.map_append, List.sum_append]
  simp
theorem tot_le (ks : List (V × Nat)) (i : Nat) : tot (ks.take i) ≤ tot ks := by
  have q : tot ks = tot (ks.take i) + tot (ks.drop i) := by
    unfold tot
    rw [← List.sum_append, ← List.map_append, List.take_append_drop]
  omega
def HasNames (K : PySem.W.Frag) (H : Hp) (e : V × Nat) : Prop := ∃ zs : List Str, FldT K "names" H e.1 (zs.map V.str) ∧ zs.length ≤ e.2
def IsSt (cS : Addr) (H : Hp) (v : V) : Prop := ∃ b z y, v = .ref b ∧ StepAt cS H b z y
theorem IsSt.same {cS : Addr} {H H' : Hp} {v : V} (s : Same H H') (h : IsSt cS H v) : IsSt cS H' v := by
  obtain ⟨b, z, y, e, dx, hb⟩ := h
  exact ⟨b, z, y, e, dx, s _ _ hb⟩
def HasSteps (K : PySem.W.Frag) (cS : Addr) (H : Hp) (e : V × Nat) : Prop := ∃ bs : List V, FldT K "steps" H e.1 bs ∧ bs.length ≤ e.2 ∧ ∀ b ∈ bs, IsSt cS H b
def spNames (K : PySem.W.Frag) : Sp := fun vs H Q _ => ∃ (p a : Addr) (own : List Str) (ks : List (V × Nat)), vs = [.ref p, .ref a] ∧ SqT K H p (ks.map (·.1)) ∧ H a = some (.lst (own.map V.str)) ∧ (∀ e ∈ ks, HasNames K H e) ∧ own.length + tot ks < 64 ∧
  ∀ (q : Addr) (ys : List Str) (H' : Hp), Same H H' → H q = none → H' q = some (.tup (ys.map V.str)) → ys.length ≤ own.length + tot ks → Q (.ref q) H'
def spSteps (K : PySem.W.Frag) (cS : Addr) : Sp := fun vs H Q _ => ∃ (p a : Addr) (own : List V) (ks : List (V × Nat)), vs = [.ref p, .ref a] ∧ SqT K H p (ks.map (·.1)) ∧ H a = some (.lst own) ∧ (∀ b ∈ own, IsSt cS H b) ∧ (∀ e ∈ ks, HasSteps K cS H e) ∧ own.length + tot ks < 64 ∧
  ∀ (q : Addr) (bs : List V) (H' : Hp), Same H H' → H q = none → H' q = some (.tup bs) → (∀ b ∈ bs, IsSt cS H' b) → bs.length ≤ own.length + tot ks → Q (.ref q) H'
theorem same_put {H H1 : Hp} {l : Addr} {o : HO} (hl : H l = none) (s : Same H H1) : Same H (upd H1 l o) := fun b u e => by
  rw [upd_ne (ne_of_none e hl)]
  exact s _ _ e
section
variable {P : Program} {w : World} {K : PySem.W.Frag} {mg : Str → Option Value} {base : Heap}
theorem Dd.ok {x : Str} {st : Stmt} {f : Addr} {fd : FuncData} {N ps : List Str} {k : Nat} {sp : Sp} (D : Dd K mg x st f fd ps) (S : FnScope N ps (defScope st)) (len : ∀ vs H Q E, sp vs H Q E → vs.length = ps.length)
    (walk : ∀ (cdv : Value) (A : Around) (outer : List Env) (s : Shared) (H : Hp) (vs : List V) (Q : VK) (E : XK), Room k (A.deeper (envOfC x (defScope st) s.heap.objs.size f cdv)) → sp vs H Q E →
      ∃ t, PSs (cxOf CX0 P w K mg base N x (defScope st) f cdv A outer s H E).nox (defBody st) t ∧ t { nx := fun _ H' => Q .non H', rt := Q } (start N vs) H) : FnOk P w K mg base CX0 (k + 1) f fd ps sp := by
  obtain ⟨t, F⟩ := D.F
  refine F.ok S len fun cdv A outer s H vs Q E hr h => ?_
  obtain ⟨t, p, q⟩ := walk cdv A outer s H vs Q E hr h
  exact ⟨t, p.nox, q⟩
def nAn : List Str := ["holders", "more", "found", "holder"]
theorem scAn : FnScope nAn ["holders", "more"] (defScope sAllNames) := ⟨rfl, rfl, rfl, by decide +kernel, rfl, by decide +kernel, by decide +kernel⟩
theorem ok_allNames {f : Addr} {fd : FuncData} (S : Std mg) (D : Dd K mg "all_names" sAllNames f fd ["holders", "more"]) : FnOk P w K mg base CX0 1 f fd ["holders", "more"] (spNames K) := by
  refine D.ok scAn (fun vs H Q E h => ?_) (fun cdv A outer s H vs Q E hr h => ?_)
  · obtain ⟨p, a, own, ks, rfl, _⟩ := h
    rfl
  · obtain ⟨p, a, own, ks, rfl, hp, ha, hk, few, q⟩ := h
    refine ⟨_, pss_cons (ps_set (i := 2) scAn.nd rfl (Or.inl rfl) (pe_callTy call_list_of (by rfl) S.list (by decide +kernel) (pa_cons (pv 1) pa_nil)))
      (pss_cons (ps_for PassesOwn.never rfl (pi_tup (pv 0)) (pg_name (i := 3) scAn.nd rfl (Or.inl rfl))
        (pss_one (ps_expr (pe_bm PySem.F.plainAttrs_list PySem.F.slot_list_extend PySem.F.type_list_extend mt_extT (pv 2) (pa_cons (pe_fld (pv 3) rfl) pa_nil)))))
      (pss_one (ps_ret (pe_callTy call_tuple_of (by rfl) S.tuple (by decide +kernel) (pa_cons (pe_callB (LR.cr_sortedSetS rfl) (by rfl) S.sorted (by decide +kernel)
        (pa_cons (pe_callTy (LR.cr_setL rfl) (by rfl) S.set (by decide +kernel) (pa_cons (pv 2) pa_nil)) pa_nil)) pa_nil))))), ?_⟩
    refine ⟨_, rfl, a, _, rfl, .inl (SqL.of ha), fun l hl => ?_⟩
    refine ⟨_, rfl, p, rfl, ⟨_, SqT.same (same_new hl) hp⟩, for_tup (xs := ks.map fun e : V × Nat => e.1) (fun i σ' H' => ∃ h zs, σ' = [some (.ref p), some (.ref a), some (.ref l), h] ∧ Same H H' ∧ H' l = some (.lst (zs.map V.str)) ∧ zs.length ≤ own.length + tot (ks.take i))
      ⟨_, own, rfl, same_new hl, upd_same, Nat.le_add_right _ _⟩ (fun i σ' H' _ h => ?_) (fun i x σ' H' hx h => ?_) (fun σ' H' h => ?_)⟩
    · obtain ⟨_, _, _, s1, _⟩ := h
      exact SqT.same s1 hp
    · obtain ⟨h0, zs, rfl, s1, hz, len⟩ := h
      rw [List.getElem?_map] at hx
      obtain ⟨e, he, rfl⟩ := Option.map_eq_some_iff.mp hx
      obtain ⟨ys, ⟨b, C, dx, fs, q1, e1, hb, c, n, lk, t⟩, few1⟩ := hk e (List.mem_of_getElem? he)
      refine ⟨_, rfl, .inl ⟨rfl, _, SqL.of hz⟩, _, rfl, b, C, dx, fs, .ref q1, e1, s1 _ _ hb, c, n, lk, l, q1, zs.map V.str, ys.map V.str, rfl, rfl, hz, SqT.same s1 t, ?_, ?_⟩
      · have := tot_le ks i
        rw [List.length_map, List.length_map, sizeLine_eq]
        have := tot_take he
        have := tot_le ks (i + 1)
        omega
      · refine ⟨_, zs ++ ys, rfl, same_put hl s1, by rw [upd_same, List.map_append], ?_⟩
        rw [List.length_append, tot_take he]
        omega
    · obtain ⟨h0, zs, rfl, s1, hz, len⟩ := h
      rw [List.take_of_length_le (by rw [List.length_map]; exact Nat.le_refl _)] at len
      refine ⟨_, rfl, l, zs, rfl, SqL.of hz, by omega, fun p2 c hp2 hc => ?_⟩
      refine ⟨p2, _, c, rfl, upd_same, by omega, fun ys p3 o1 o2 o3 o4 hp3 => ⟨p3, _, rfl, .inl ⟨SqL.of upd_same, fun l4 hl4 => q _ ys _ (((s1.trans (same_new hp2)).trans (same_new hp3)).trans (same_new hl4)) (Same.free ((s1.trans (same_new hp2)).trans (same_new hp3)) hl4) upd_same (by omega)⟩⟩⟩
end
end LK

namespace LK
open PySem PySem.Spec PyProof.Rows L2 LR
/-! ### all_steps -/
abbrev Dn := List ((Str × Str) × V)
def putP (es : Dn) (e : Str × Str) (v : V) : Dn := if (es.any fun x => decide (x.1 = e)) = true then es.map (fun x => if x.1 = e then (x.1, v) else x) else es ++ [(e, v)]
theorem kT_inj {a b : Str × Str} (h : kT a = kT b) : a = b := by
  unfold kT at h
  injection h with h1 h2
  injection h2 with h3 _
  injection h1 with h1
  injection h3 with h3
  exact Prod.ext h1 h3
theorem kT_eq (a b : Str × Str) : decide (kT a = kT b) = decide (a = b) := by
  by_cases h : a = b
  · rw [h]
    simp
  · rw [decide_eq_false h, decide_eq_false fun z => h (kT_inj z)]
theorem putK_ent (es : Dn) (e : Str × Str) (v : V) : putK (es.map ent2) (kT e) v = (putP es e v).map ent2 := by
  have q : ((es.map ent2).any fun kv => decide (kv.1 = kT e)) = es.any fun x => decide (x.1 = e) := by
    rw [List.any_map]
    congr 1
    funext x
    exact kT_eq x.1 e
  unfold putK putP
  rw [q]
  by_cases h : (es.any fun x => decide (x.1 = e)) = true
  · rw [if_pos h, if_pos h, List.map_map, List.map_map]
    apply List.map_congr_left
    intro x _
    show (if kT x.1 = kT e then (kT x.1, v) else (kT x.1, x.2)) = ent2 (if x.1 = e then (x.1, v) else x)
    by_cases g : x.1 = e
    · rw [if_pos g, if_pos (congrArg kT g)]
    · rw [if_neg g, if_neg fun z => g (kT_inj z)]
  · rw [if_neg h, if_neg h, List.map_append]
    rfl
theorem putP_len (es : Dn) (e : Str × Str) (v : V) : (putP es e v).length ≤ es.length + 1 := by
  unfold putP
  split
  · rw [List.length_map]
    omega
  · rw [List.length_append]
    exact Nat.le_refl _
theorem putP_all {Q : (Str × Str) × V → Prop} {es : Dn} {e : Str × Str} {v : V} (h : ∀ x ∈ es, Q x) (q : Q (e, v)) : ∀ x ∈ putP es e v, Q x := by
  intro x hx
  unfold putP at hx
  split at hx
  · obtain ⟨y, hy, rfl⟩ := List.mem_map.mp hx
    by_cases g : y.1 = e
    · rw [if_pos g, g]
      exact q
    · rw [if_neg g]
      exact h y hy
  · rcases List.mem_append.mp hx with hx | hx
    · exact h x hx
    · rw [List.mem_singleton.mp hx]
      exact q
theorem valV_ent : ∀ (es : Dn) (e : Str × Str), e ∈ es.map (·.1) → ∃ v, valV (es.map ent2) (kT e) = some v ∧ (e, v) ∈ es
  | [], e, h => nomatch h
  | x :: es, e, h => by
    by_cases g : x.1 = e
    · exact ⟨x.2, by rw [List.map_cons]; exact valV_pos (congrArg kT g), by rw [← g]; exact List.mem_cons_self⟩
    · rw [List.map_cons] at h
      rcases List.mem_cons.mp h with h | h
      · exact absurd h.symm g
      · obtain ⟨v, a, b⟩ := valV_ent es e h
        exact ⟨v, by rw [List.map_cons, valV_neg fun z => g (kT_inj z)]; exact a, List.mem_cons_of_mem _ b⟩
/-- a comprehension for a dict over a list that stays -/
theorem dcT_list {K : PySem.W.Frag} {a : Addr} {xs : List V} {g : TG} {tt : TT} {tk tv : TE} {vs : List Nat} {σ : L2.St} {H1 : Hp} {D : Addr} {Qd : Hp → Prop} (Pv : Nat → Hp → Prop) (h0 : Pv 0 (upd H1 D (.dT []))) (hl : ∀ i H, Pv i H → SqL K H a xs)
    (hs : ∀ i x H, xs[i]? = some x → Pv i H → g x (wipe σ vs) H fun σ2 H2 => wipe σ2 vs = wipe σ vs ∧ RowT D tt tk tv (Pv (i + 1)) σ2 H2) (hd : ∀ H, Pv xs.length H → Qd H) :
    ∃ W : Nat → Nat → Hp → Prop, (∃ m, W 0 m (upd H1 D (.dT []))) ∧ ∀ i m H, W i m H → ((Itl K a).stop i H ∧ Qd H) ∨
      ((Itl K a).go i H ∧ ∃ Nx : Hp → Prop, (∀ H', Nx H' → ∃ m', m' < m ∧ W (i + 1) m' H') ∧ ∀ x H', (Itl K a).yld i H x H' → g x (wipe σ vs) H' fun σ2 H2 => wipe σ2 vs = wipe σ vs ∧ RowT D tt tk tv Nx σ2 H2) := by
  refine ⟨fun i m H => m + i = xs.length ∧ Pv i H, ⟨xs.length, rfl, h0⟩, fun i m H w => ?_⟩
  obtain ⟨e, p⟩ := w
  have at_ := hl i H p
  by_cases lt : i < xs.length
  · refine .inr ⟨⟨xs, xs[i], at_, List.getElem?_eq_getElem lt⟩, Pv (i + 1), fun H' p' => ⟨m - 1, by omega, by omega, p'⟩, fun x H' y => ?_⟩
    obtain ⟨rfl, y⟩ := y
    exact hs i x H' (y xs at_) p
  · refine .inl ⟨⟨xs, at_, by omega⟩, hd H ?_⟩
    rw [show xs.length = i by omega]
    exact p
def StE (cS : Addr) (H : Hp) (x : (Str × Str) × V) : Prop := ∃ b, x.2 = .ref b ∧ StepAt cS H b x.1.1 x.1.2
theorem StE.same {cS : Addr} {H H' : Hp} {x : (Str × Str) × V} (s : Same H H') (h : StE cS H x) : StE cS H' x := by
  obtain ⟨b, e, dx, hb⟩ := h
  exact ⟨b, e, dx, s _ _ hb⟩
section
variable {P : Program} {w : World} {K : PySem.W.Frag} {mg : Str → Option Value} {base : Heap}
def nAs : List Str := ["holders", "more", "steps", "found", "holder", "step", "key"]
theorem scAs : FnScope nAs ["holders", "more"] (defScope sAllSteps) := ⟨rfl, rfl, rfl, by decide +kernel, rfl, by decide +kernel, by decide +kernel⟩
theorem ok_allSteps {cS f : Addr} {fd : FuncData} (S : Std mg) (cl : Cls K cS) (n1 : NoAttr K cS "name") (n2 : NoAttr K cS "ways") (D : Dd K mg "all_steps" sAllSteps f fd ["holders", "more"]) : FnOk P w K mg base CX0 1 f fd ["holders", "more"] (spSteps K cS) := by
  refine D.ok scAs (fun vs H Q E h => ?_) (fun cdv A outer s H vs Q E hr h => ?_)
  · obtain ⟨p, a, own, ks, rfl, _⟩ := h
    rfl
  · obtain ⟨p, a, own, ks, rfl, hp, ha, ho, hk, few, q⟩ := h
    refine ⟨_, pss_cons (ps_set (i := 2) scAs.nd rfl (Or.inl rfl) (pe_callTy call_list_of (by rfl) S.list (by decide +kernel) (pa_cons (pv 1) pa_nil)))
      (pss_cons (ps_for PassesOwn.never rfl (pi_tup (pv 0)) (pg_name (i := 4) scAs.nd rfl (Or.inl rfl))
        (pss_one (ps_expr (pe_bm PySem.F.plainAttrs_list PySem.F.slot_list_extend PySem.F.type_list_extend mt_extT (pv 2) (pa_cons (pe_fld (pv 4) rfl) pa_nil)))))
      (pss_cons (ps_set (i := 3) scAs.nd rfl (Or.inr rfl) (pe_dcT (own := [("step", 5)]) (g := gName 5) (tt := tYes) (tk := tTup (tCons (tFld K (tVar 5) "name") (tCons (tFld K (tVar 5) "ways") tNil))) (tv := tVar 5) rfl hr.units0 scAs.nd (pi_list (pv 2)) (blkOk_by (N := nAs) (sc := defScope sAllSteps) (by decide +kernel))
          (fun _ _ _ _ _ => pg_name (i := 5) scAs.nd rfl (Or.inl rfl)) (fun _ _ _ _ _ => pts_nil) (fun _ _ _ _ _ => pe_tup (pa_cons (pe_fld (pv 5) rfl) (pa_cons (pe_fld (pv 5) rfl) pa_nil))) (fun _ _ _ _ _ => pv 5)))
      (pss_one (ps_ret (pe_callTy call_tuple_of (by rfl) S.tuple (by decide +kernel) (pa_cons (pe_lc (own := [("key", 6)]) (g := gName 6) (tt := tYes) rfl scAs.nd
          (pi_list (pe_callB (cr_sortedDT rfl) (by rfl) S.sorted (by decide +kernel) (pa_cons (pv 3) pa_nil))) (blkOk_by (N := nAs) (sc := defScope sAllSteps) (by decide +kernel))
          (fun _ _ _ _ _ => pg_name (i := 6) scAs.nd rfl (Or.inl rfl)) (fun _ _ _ _ _ => pts_nil) (fun _ _ _ _ _ => pe_dget (by show (A.deeper (envOfC "all_steps" (defScope sAllSteps) s.heap.objs.size f cdv)).units + 1 < cLine; have := hr.units; omega) (pv 3) (pv 6) (fun _ _ => rfl))) pa_nil)))))), ?_⟩
    refine ⟨_, rfl, a, _, rfl, .inl (SqL.of ha), fun l hl => ?_⟩
    refine ⟨_, rfl, p, rfl, ⟨_, SqT.same (same_new hl) hp⟩, for_tup (xs := ks.map fun e : V × Nat => e.1) (fun i σ' H' => ∃ h zs, σ' = [some (.ref p), some (.ref a), some (.ref l), none, h, none, none] ∧ Same H H' ∧ H' l = some (.lst zs) ∧ (∀ b ∈ zs, IsSt cS H' b) ∧ zs.length ≤ own.length + tot (ks.take i))
      ⟨_, own, rfl, same_new hl, upd_same, fun b hb => (ho b hb).same (same_new hl), Nat.le_add_right _ _⟩ (fun i σ' H' _ h => ?_) (fun i x σ' H' hx h => ?_) (fun σ' H' h => ?_)⟩
    · obtain ⟨_, _, _, s1, _⟩ := h
      exact SqT.same s1 hp
    · obtain ⟨h0, zs, rfl, s1, hz, gz, len⟩ := h
      rw [List.getElem?_map] at hx
      obtain ⟨e, he, rfl⟩ := Option.map_eq_some_iff.mp hx
      obtain ⟨ys, ⟨b, C, dx, fs, q1, e1, hb, c, n, lk, t⟩, few1, gy⟩ := hk e (List.mem_of_getElem? he)
      refine ⟨_, rfl, .inl ⟨rfl, _, SqL.of hz⟩, _, rfl, b, C, dx, fs, .ref q1, e1, s1 _ _ hb, c, n, lk, l, q1, zs, ys, rfl, rfl, hz, SqT.same s1 t, ?_, ?_⟩
      · rw [sizeLine_eq]
        have := tot_take he
        have := tot_le ks (i + 1)
        omega
      · have s2 : Same H (upd H' l (.lst (zs ++ ys))) := same_put hl s1
        have low : ∀ v, IsSt cS H' v → IsSt cS (upd H' l (.lst (zs ++ ys))) v := fun v h => by
          obtain ⟨b, z, y, e2, d2, h2⟩ := h
          refine ⟨b, z, y, e2, d2, ?_⟩
          rw [upd_ne (ne_of h2 hz (by intro z; cases z))]
          exact h2
        refine ⟨_, zs ++ ys, rfl, s2, upd_same, fun v hv => ?_, ?_⟩
        · rcases List.mem_append.mp hv with hv | hv
          · exact low v (gz v hv)
          · exact low v ((gy v hv).same s1)
        · rw [List.length_append, tot_take he]
          omega
    · obtain ⟨h0, zs, rfl, s1, hz, gz, len⟩ := h
      rw [List.take_of_length_le (by rw [List.length_map]; exact Nat.le_refl _)] at len
      refine ⟨_, rfl, l, rfl, ⟨_, SqL.of hz⟩, fun d hd => dcT_list (xs := zs) (fun i H4 => Same H' H4 ∧ ∃ es : Dn, H4 d = some (.dT (es.map ent2)) ∧ es.length ≤ i ∧ ∀ x ∈ es, StE cS H' x) ⟨same_new hd, [], upd_same, Nat.le_refl _, fun _ h => nomatch h⟩
        (fun i H4 h => SqL.of (h.1 _ _ hz)) (fun i v H4 hv h => ?_) (fun H4 h => ?_)⟩
      · obtain ⟨s4, es, hd4, le, ge⟩ := h
        have le2 : i < zs.length := (List.getElem?_eq_some_iff.mp hv).1
        obtain ⟨b, z, y, rfl, dx, hb⟩ := gz v (List.mem_of_getElem? hv)
        refine ⟨rfl, ?_⟩
        refine ⟨_, rfl, b, cS, dx, _, _, rfl, s4 _ _ hb, cl, n1, rfl, _, rfl, b, cS, dx, _, _, rfl, s4 _ _ hb, cl, n2, rfl, (by show 2 ≤ sizeLine; decide), fun t ht => ?_⟩
        refine ⟨_, rfl, es.map ent2, kT (z, y), t, rfl, upd_same, ?_, ?_, ?_⟩
        · rw [upd_ne (ne_of_none hd4 ht)]
          exact hd4
        · rw [List.length_map, sizeLine_eq]
          omega
        · rw [putK_ent]
          refine ⟨same_put hd (s4.trans (same_new ht)), putP es (z, y) (.ref b), upd_same, Nat.le_trans (putP_len _ _ _) (by omega), putP_all ge ⟨b, rfl, dx, hb⟩⟩
      · obtain ⟨s4, es, hd4, le, ge⟩ := h
        refine ⟨_, rfl, d, es, rfl, hd4, fun kz p3 pm _ hk hp3 => ?_⟩
        have s5 : Same H' (upd H4 p3 (.lst (kz.map fun z => V.ref z.2))) := s4.trans (same_new hp3)
        have kl : kz.length = es.length := by
          have := pm.length_eq
          rwa [List.length_map, List.length_map] at this
        refine ⟨p3, rfl, ⟨_, SqL.of upd_same⟩, fun D5 hD5 => lc_list (xs := kz.map fun z => V.ref z.2) (fun i H6 => Same (upd H4 p3 (.lst (kz.map fun z => V.ref z.2))) H6 ∧ ∃ bs, H6 D5 = some (.lst bs) ∧ bs.length = i ∧ ∀ b ∈ bs, IsSt cS H' b)
          ⟨same_new hD5, [], upd_same, rfl, fun _ h => nomatch h⟩ (fun i H6 _ h => SqL.of (h.1 _ _ upd_same)) (fun i v H6 hv h => ?_) (fun H6 h => ?_)⟩
        · obtain ⟨s6, bs, hb6, lb, gb⟩ := h
          rw [List.getElem?_map] at hv
          obtain ⟨z, hz2, rfl⟩ := Option.map_eq_some_iff.mp hv
          have mz := List.mem_of_getElem? hz2
          obtain ⟨v, v1, v2⟩ := valV_ent es z.1 (pm.mem_iff.mp (List.mem_map_of_mem mz))
          obtain ⟨b, rfl, hb⟩ := ge _ v2
          have il : i < kz.length := (List.getElem?_eq_some_iff.mp hz2).1
          have pz : H6 z.2 = some (.tup ((kT z.1).map kV)) := s6 _ _ (same_new hp3 _ _ (hk z mz))
          have dz : H6 d = some (.dT (es.map ent2)) := s6 _ _ (same_new hp3 _ _ hd4)
          refine ⟨rfl, _, rfl, _, rfl, d, .ref b, rfl, v1 ▸ DGet.t dz pz, bs, hb6, by rw [lb, sizeLine_eq]; omega, same_put hD5 s6, bs ++ [.ref b], upd_same, by rw [List.length_append, lb]; rfl, fun x hx => ?_⟩
          rcases List.mem_append.mp hx with hx | hx
          · exact gb x hx
          · rw [List.mem_singleton.mp hx]
            exact ⟨b, _, _, rfl, hb⟩
        · obtain ⟨s6, bs, hb6, lb, gb⟩ := h
          have s7 : Same H' H6 := s5.trans s6
          refine ⟨D5, _, rfl, .inl ⟨SqL.of hb6, fun l5 hl5 => q _ bs _ ((s1.trans s7).trans (same_new hl5)) (Same.free (s1.trans s7) hl5) upd_same (fun b hb => (gb b hb).same (s7.trans (same_new hl5))) ?_⟩⟩
          rw [lb, List.length_map]
          omega
end
end LK

namespace LK
open PySem PySem.Spec PyProof.Rows L2 LR
/-! ### expressions -/
structure ExN (K : PySem.W.Frag) (C : Addr) : Prop where
  kind : NoAttr K C "kind"
  word : NoAttr K C "word"
  step : NoAttr K C "step"
  parts : NoAttr K C "parts"
  names : NoAttr K C "names"
  steps : NoAttr K C "steps"
  size : NoAttr K C "size"
  applied : NoAttr K C "applied"
  other : ∃ cS, cS ≠ C ∧ Cls K cS ∧ NoAttr K cS "name" ∧ NoAttr K cS "ways"
abbrev exFs (kd z : Str) (st : V) (p q1 q2 : Addr) (i j : Int) : List (Str × V) := [("kind", .str kd), ("word", .str z), ("step", st), ("parts", .ref p), ("names", .ref q1), ("steps", .ref q2), ("size", .int i), ("applied", .int j)]
/-- an expression of at most n names and steps -/
def ExF (C cS : Addr) (H : Hp) (a : Addr) (kd z : Str) (st : V) (p : Addr) (n : Nat) : Prop := ∃ dx q1 q2 i j, ∃ (zs : List Str) (bs : List V), H a = some (.ins C dx (exFs kd z st p q1 q2 i j)) ∧
  H q1 = some (.tup (zs.map V.str)) ∧ H q2 = some (.tup bs) ∧ zs.length ≤ n ∧ bs.length ≤ n ∧ ∀ b ∈ bs, IsSt cS H b
def IsEx (C cS : Addr) (H : Hp) (e : V × Nat) : Prop := ∃ a kd z st p, e.1 = .ref a ∧ ExF C cS H a kd z st p e.2
theorem ExF.same {C cS : Addr} {H H' : Hp} {a : Addr} {kd z : Str} {st : V} {p : Addr} {n : Nat} (s : Same H H') (h : ExF C cS H a kd z st p n) : ExF C cS H' a kd z st p n := by
  obtain ⟨dx, q1, q2, i, j, zs, bs, e, t1, t2, l1, l2, g⟩ := h
  exact ⟨dx, q1, q2, i, j, zs, bs, s _ _ e, s _ _ t1, s _ _ t2, l1, l2, fun b hb => (g b hb).same s⟩
theorem IsEx.same {C cS : Addr} {H H' : Hp} {e : V × Nat} (s : Same H H') (h : IsEx C cS H e) : IsEx C cS H' e := by
  obtain ⟨a, kd, z, st, p, q, f⟩ := h
  exact ⟨a, kd, z, st, p, q, f.same s⟩
/-- v is an expression of this kind, word and step, its parts ps, with at most n names and steps -/
def ExP (K : PySem.W.Frag) (C cS : Addr) (H : Hp) (v : V) (kd z : Str) (st : V) (ps : List V) (n : Nat) : Prop := ∃ a p, v = .ref a ∧ ExF C cS H a kd z st p n ∧ SqT K H p ps
theorem ExP.same {K : PySem.W.Frag} {C cS : Addr} {H H' : Hp} {v : V} {kd z : Str} {st : V} {ps : List V} {n : Nat} (s : Same H H') (h : ExP K C cS H v kd z st ps n) : ExP K C cS H' v kd z st ps n := by
  obtain ⟨a, p, e, f, t⟩ := h
  exact ⟨a, p, e, f.same s, SqT.same s t⟩
theorem ExP.is {K : PySem.W.Frag} {C cS : Addr} {H : Hp} {v : V} {kd z : Str} {st : V} {ps : List V} {n : Nat} (h : ExP K C cS H v kd z st ps n) : IsEx C cS H (v, n) := by
  obtain ⟨a, p, e, f, t⟩ := h
  exact ⟨a, kd, z, st, p, e, f⟩
theorem IsSt.put {C cS x dx : Addr} {H : Hp} {fs gs : List (Str × V)} {v : V} (ne : cS ≠ C) (e : H x = some (.ins C dx fs)) (h : IsSt cS H v) : IsSt cS (upd H x (.ins C dx gs)) v := by
  obtain ⟨b, z, y, q, d, hb⟩ := h
  refine ⟨b, z, y, q, d, ?_⟩
  rw [upd_ne (ne_of hb e (by intro z; injection z with z1; exact ne z1))]
  exact hb
theorem IsEx.put {C cS x dx : Addr} {H : Hp} {fs gs : List (Str × V)} {v : V × Nat} (ne : cS ≠ C) (e : H x = some (.ins C dx fs)) (fl : fs.length < 8) (h : IsEx C cS H v) : IsEx C cS (upd H x (.ins C dx gs)) v := by
  obtain ⟨a, kd, z, st, p, q, d, q1, q2, i, j, zs, bs, ha, t1, t2, l1, l2, g⟩ := h
  refine ⟨a, kd, z, st, p, q, d, q1, q2, i, j, zs, bs, ?_, ?_, ?_, l1, l2, fun b hb => (g b hb).put ne e⟩
  · rw [upd_ne (ne_of ha e (by intro z; injection z with _ _ z3; rw [← z3] at fl; simp at fl))]
    exact ha
  · rw [upd_ne (ne_of t1 e (by intro z; cases z))]
    exact t1
  · rw [upd_ne (ne_of t2 e (by intro z; cases z))]
    exact t2
/-- while it is filled -/
structure Fill (K : PySem.W.Frag) (C cS x dx l l2 : Addr) (own : List Str) (own2 : List V) (ks : List (V × Nat)) (ts tr : List (Addr × List V)) (gb : List V) (H0 H : Hp) (fs : List (Str × V)) : Prop where
  at_ : H x = some (.ins C dx fs)
  l1 : H l = some (.lst (own.map V.str))
  l2 : H l2 = some (.lst own2)
  ts : ∀ t ∈ ts, SqT K H t.1 t.2
  tr : ∀ t ∈ tr, H t.1 = some (.tup t.2)
  st : ∀ b ∈ gb, IsSt cS H b
  pk : ∀ e ∈ ks, IsEx C cS H e
  kp : Keep x H0 H
theorem sqT_put {K : PySem.W.Frag} {H : Hp} {x p C dx : Addr} {fs gs : List (Str × V)} {ys : List V} (h : SqT K H p ys) (e : H x = some (.ins C dx fs)) : SqT K (upd H x (.ins C dx gs)) p ys := by
  have ne : ∀ o, H p = some o → o ≠ .ins C dx fs → p ≠ x := fun o e1 n z => by
    rw [z, e] at e1
    exact n (Option.some.inj e1).symm
  rcases h with (h | ⟨o, h⟩) | h
  · exact .inl (.inl (by rw [upd_ne (ne _ h (by intro z; cases z))]; exact h))
  · exact .inl (.inr ⟨o, by rw [upd_ne (ne _ h (by intro z; cases z))]; exact h⟩)
  · exact .inr h
section
variable {K : PySem.W.Frag} {C cS x dx l l2 : Addr} {own : List Str} {own2 : List V} {ks : List (V × Nat)} {ts tr : List (Addr × List V)} {gb : List V} {H0 H H' : Hp} {fs : List (Str × V)}
theorem Fill.same (h : Fill K C cS x dx l l2 own own2 ks ts tr gb H0 H fs) (s : Same H H') : Fill K C cS x dx l l2 own own2 ks ts tr gb H0 H' fs :=
  ⟨s _ _ h.at_, s _ _ h.l1, s _ _ h.l2, fun t ht => SqT.same s (h.ts t ht), fun t ht => s _ _ (h.tr t ht), fun b hb => (h.st b hb).same s, fun e he => (h.pk e he).same s, h.kp.trans (Keep.same s)⟩
theorem Fill.put (h : Fill K C cS x dx l l2 own own2 ks ts tr gb H0 H fs) (ne : cS ≠ C) (fl : fs.length < 8) (gs : List (Str × V)) : Fill K C cS x dx l l2 own own2 ks ts tr gb H0 (upd H x (.ins C dx gs)) gs :=
  ⟨upd_same, by rw [upd_ne (ne_of h.l1 h.at_ (by intro z; cases z))]; exact h.l1, by rw [upd_ne (ne_of h.l2 h.at_ (by intro z; cases z))]; exact h.l2, fun t ht => sqT_put (h.ts t ht) h.at_, fun t ht => by rw [upd_ne (ne_of (h.tr t ht) h.at_ (by intro z; cases z))]; exact h.tr t ht, fun b hb => (h.st b hb).put ne h.at_, fun e he => (h.pk e he).put ne h.at_ fl, h.kp.trans Keep.put⟩
theorem Fill.tup (h : Fill K C cS x dx l l2 own own2 ks ts tr gb H0 H fs) {q : Addr} {ys : List V} (t : H q = some (.tup ys)) : Fill K C cS x dx l l2 own own2 ks ts ((q, ys) :: tr) gb H0 H fs :=
  ⟨h.at_, h.l1, h.l2, h.ts, fun u hu => (List.mem_cons.mp hu).elim (fun e => by rw [e]; exact t) (h.tr u), h.st, h.pk, h.kp⟩
theorem Fill.free (h : Fill K C cS x dx l l2 own own2 ks ts tr gb H0 H fs) {b : Addr} (n : H b = none) : H0 b = none := by
  cases e : H0 b with
  | none => rfl
  | some o =>
    rw [h.kp b o (ne_of_none h.at_ n).symm e] at n
    cases n
theorem Fill.sts (h : Fill K C cS x dx l l2 own own2 ks ts tr gb H0 H fs) {bs : List V} (t : ∀ b ∈ bs, IsSt cS H b) : Fill K C cS x dx l l2 own own2 ks ts tr (bs ++ gb) H0 H fs :=
  ⟨h.at_, h.l1, h.l2, h.ts, h.tr, fun u hu => (List.mem_append.mp hu).elim (t u) (h.st u), h.pk, h.kp⟩
end
theorem IsEx.hasNames {K : PySem.W.Frag} {C cS : Addr} {H : Hp} {e : V × Nat} (cl : Cls K C) (n : ExN K C) (h : IsEx C cS H e) : HasNames K H e := by
  obtain ⟨a, kd, z, st, p, q, d, q1, q2, i, j, zs, bs, ha, t1, t2, l1, l2, g⟩ := h
  exact ⟨zs, ⟨a, C, d, _, q1, q, ha, cl, n.names, rfl, SqT.of t1⟩, l1⟩
theorem IsEx.hasSteps {K : PySem.W.Frag} {C cS : Addr} {H : Hp} {e : V × Nat} (cl : Cls K C) (n : ExN K C) (h : IsEx C cS H e) : HasSteps K cS H e := by
  obtain ⟨a, kd, z, st, p, q, d, q1, q2, i, j, zs, bs, ha, t1, t2, l1, l2, g⟩ := h
  exact ⟨bs, ⟨a, C, d, _, q2, q, ha, cl, n.steps, rfl, SqT.of t2⟩, l2, g⟩
theorem ite_te {c : Prop} [Decidable c] {t1 t2 : TE} {σ : L2.St} {H : Hp} {G : VK} (P : V → Hp → Prop) (h1 : (∀ y H', P y H' → G y H') → c → t1 σ H G) (h2 : (∀ y H', P y H' → G y H') → ¬ c → t2 σ H G) (key : ∀ y H', P y H' → G y H') : if c then t1 σ H G else t2 σ H G := by
  by_cases h : c
  · rw [if_pos h]
    exact h1 key h
  · rw [if_neg h]
    exact h2 key h
def ownN (kd z : Str) : List Str := if kd = "name" then [z] else []
def ownS (st : V) : List V := if st = .non then [] else [st]
theorem ownN_le (kd z : Str) : (ownN kd z).length ≤ 1 := by
  unfold ownN
  split
  · exact Nat.le_refl _
  · exact Nat.zero_le _
theorem ownS_le (st : V) : (ownS st).length ≤ 1 := by
  unfold ownS
  split
  · exact Nat.zero_le _
  · exact Nat.le_refl _
def spExInit (K : PySem.W.Frag) (C cS : Addr) : Sp := fun vs H Q _ => ∃ (x dx p : Addr) (kd z : Str) (st : V) (ks : List (V × Nat)), vs = [.ref x, .str kd, .str z, st, .ref p] ∧ H x = some (.ins C dx []) ∧ SqT K H p (ks.map fun e => e.1) ∧ (∀ e ∈ ks, IsEx C cS H e) ∧
  (st = .non ∨ IsSt cS H st) ∧ 1 + tot ks < 64 ∧ ks.length < 64 ∧ ∀ H', (∃ q1 q2 i j, ∃ (zs : List Str) (bs : List V), H' x = some (.ins C dx (exFs kd z st p q1 q2 i j)) ∧ H q1 = none ∧ H q2 = none ∧ H' q1 = some (.tup (zs.map V.str)) ∧ H' q2 = some (.tup bs) ∧
    zs.length ≤ (ownN kd z).length + tot ks ∧ bs.length ≤ (ownS st).length + tot ks ∧ ∀ b ∈ bs, IsSt cS H' b) → Keep x H H' → Q .non H'
section
variable {P : Program} {w : World} {K : PySem.W.Frag} {mg : Str → Option Value} {base : Heap}
def nEx : List Str := ["self", "kind", "word", "step", "parts", "own_names", "own_steps", "part"]
theorem scEx : FnScope nEx ["self", "kind", "word", "step", "parts"] (defScope sExprInit) := ⟨rfl, rfl, rfl, by decide +kernel, rfl, by decide +kernel, by decide +kernel⟩
theorem ok_exInit {C cS f fN fS : Addr} {fd fdN fdS : FuncData} (S : Std mg) (cl : Cls K C) (n : ExN K C) (ne : cS ≠ C) (clS : Cls K cS) (s1 : NoAttr K cS "name") (s2 : NoAttr K cS "ways") (F : Fun K "__init__" "Expr.__init__" sExprInit f fd) (N : Dd K mg "all_names" sAllNames fN fdN ["holders", "more"]) (T : Dd K mg "all_steps" sAllSteps fS fdS ["holders", "more"]) :
    FnOk P w K mg base CX0 2 f fd ["self", "kind", "word", "step", "parts"] (spExInit K C cS) := by
  have GN : FnOk P w K mg base CX0 1 fN fdN ["holders", "more"] (spNames K) := ok_allNames S N
  have GS : FnOk P w K mg base CX0 1 fS fdS ["holders", "more"] (spSteps K cS) := ok_allSteps S clS s1 s2 T
  refine F.ok scEx (fun vs H Q E h => ?_) (fun cdv A outer s H vs Q E hr h => ?_)
  · obtain ⟨x, dx, p, kd, z, st, ks, rfl, _⟩ := h
    rfl
  · obtain ⟨x, dx, p, kd, z, st, ks, rfl, hx, hp, hk, hst, few, short, q⟩ := h
    refine ⟨_, pss_cons (ps_set (i := 5) scEx.nd rfl (Or.inl rfl) (pe_ifExp (pt_cmpR op_eq (pv 1) pe_str (nomark _)) (pe_lst (pa_cons (pv 2) pa_nil)) (pe_lst pa_nil)))
      (pss_cons (ps_set (i := 6) scEx.nd rfl (Or.inl rfl) (pe_ifExp (pt_cmp (pc_isN (pv 3))) (pe_lst pa_nil) (pe_lst (pa_cons (pv 3) pa_nil))))
      (pss_cons (ps_fld (pv 0) (pv 1) rfl) (pss_cons (ps_fld (pv 0) (pv 2) rfl) (pss_cons (ps_fld (pv 0) (pv 3) rfl) (pss_cons (ps_fld (pv 0) (pv 4) rfl)
      (pss_cons (ps_fld (pv 0) (pe_call GN hr rfl N.g N.kp N.b .nil pass0 (pa_cons (pv 4) (pa_cons (pv 5) pa_nil))) rfl)
      (pss_cons (ps_fld (pv 0) (pe_call GS hr rfl T.g T.kp T.b .nil pass0 (pa_cons (pv 4) (pa_cons (pv 6) pa_nil))) rfl)
      (pss_cons (ps_fld (pv 0) (pe_op op_add pe_int (pe_callB (cr_sum rfl) (by rfl) S.sum (by decide +kernel) (pa_cons (pe_lc (own := [("part", 7)]) (g := gName 7) (tt := tYes) (te := tFld K (tVar 7) "size") rfl scEx.nd
          (pi_tup (pv 4)) (blkOk_by (N := nEx) (sc := defScope sExprInit) (by decide +kernel)) (fun _ _ _ _ _ => pg_name (i := 7) scEx.nd rfl (Or.inl rfl)) (fun _ _ _ _ _ => pts_nil) (fun _ _ _ _ _ => pe_fld (pv 7) rfl)) pa_nil))) rfl)
      (pss_one (ps_fld (pv 0) (pe_op op_add (pe_callB call_len_seq (by rfl) S.len PySem.boot_len (pa_cons (pv 6) pa_nil)) (pe_callB (cr_sum rfl) (by rfl) S.sum (by decide +kernel) (pa_cons (pe_lc (own := [("part", 7)]) (g := gName 7) (tt := tYes) (te := tFld K (tVar 7) "applied") rfl scEx.nd
          (pi_tup (pv 4)) (blkOk_by (N := nEx) (sc := defScope sExprInit) (by decide +kernel)) (fun _ _ _ _ _ => pg_name (i := 7) scEx.nd rfl (Or.inl rfl)) (fun _ _ _ _ _ => pts_nil) (fun _ _ _ _ _ => pe_fld (pv 7) rfl)) pa_nil))) rfl)))))))))), ?_⟩
    refine ⟨_, rfl, rfl, _, rfl, ite_te (fun y H' => ∃ l, y = .ref l ∧ H' l = some (.lst ((ownN kd z).map V.str)) ∧ Same H H') (fun key c => ?_) (fun key c => ?_) (fun y Hl hl => ?_)⟩
    · refine ⟨_, rfl, (by show 1 ≤ sizeLine; decide), fun l hl => key _ _ ⟨l, rfl, ?_, same_new hl⟩⟩
      have e : kd = "name" := by simpa using c
      rw [upd_same, ownN, if_pos e]
      rfl
    · refine ⟨(by show 0 ≤ sizeLine; decide), fun l hl => key _ _ ⟨l, rfl, ?_, same_new hl⟩⟩
      have e : ¬ kd = "name" := by simpa using c
      rw [upd_same, ownN, if_neg e]
      rfl
    obtain ⟨l, rfl, hl1, sl⟩ := hl
    refine ⟨_, rfl, _, rfl, ite_te (fun y H' => ∃ l2, y = .ref l2 ∧ H' l2 = some (.lst (ownS st)) ∧ Same Hl H') (fun key c => ?_) (fun key c => ?_) (fun y Ha hl => ?_)⟩
    · refine ⟨(by show 0 ≤ sizeLine; decide), fun l hl => key _ _ ⟨l, rfl, ?_, same_new hl⟩⟩
      have e : st = .non := by simpa using c
      rw [upd_same, ownS, if_pos e]
    · refine ⟨_, rfl, (by show 1 ≤ sizeLine; decide), fun l hl => key _ _ ⟨l, rfl, ?_, same_new hl⟩⟩
      have e : ¬ st = .non := by simpa using c
      rw [upd_same, ownS, if_neg e]
    obtain ⟨l2, rfl, hl2, sl2⟩ := hl
    have s2 : Same H Ha := sl.trans sl2
    have f0 : Fill K C cS x dx l l2 (ownN kd z) (ownS st) ks [(p, ks.map fun e => e.1)] [] (ownS st) H Ha [] := by
      refine ⟨s2 _ _ hx, sl2 _ _ hl1, hl2, fun t ht => ?_, (fun _ h => nomatch h), fun b hb => ?_, fun e he => (hk e he).same s2, Keep.same s2⟩
      · rw [List.mem_singleton.mp ht]
        exact SqT.same s2 hp
      · unfold ownS at hb
        by_cases e : st = .non
        · rw [if_pos e] at hb
          cases hb
        · rw [if_neg e] at hb
          rw [List.mem_singleton.mp hb]
          exact (hst.resolve_left e).same s2
    refine ⟨_, rfl, _, rfl, x, C, dx, _, rfl, f0.at_, cl, n.kind, by decide, ?_⟩
    have f1 := f0.put ne (by decide) (putF "kind" (.str kd) [])
    generalize e1 : putF "kind" (.str kd) [] = g1 at f1 ⊢
    have m1 : g1.length = 1 := by rw [← e1]; rfl
    generalize upd Ha x (.ins C dx g1) = Hb at f1 ⊢
    refine ⟨_, rfl, _, rfl, x, C, dx, _, rfl, f1.at_, cl, n.word, by omega, ?_⟩
    have f2 := f1.put ne (by omega) (putF "word" (.str z) g1)
    generalize e2 : putF "word" (.str z) g1 = g2 at f2 ⊢
    have m2 : g2.length = 2 := by rw [← e2, ← e1]; rfl
    generalize upd Hb x (.ins C dx g2) = Hc at f2 ⊢
    refine ⟨_, rfl, _, rfl, x, C, dx, _, rfl, f2.at_, cl, n.step, by omega, ?_⟩
    have f3 := f2.put ne (by omega) (putF "step" st g2)
    generalize e3 : putF "step" st g2 = g3 at f3 ⊢
    have m3 : g3.length = 3 := by rw [← e3, ← e2, ← e1]; rfl
    generalize upd Hc x (.ins C dx g3) = Hd at f3 ⊢
    refine ⟨_, rfl, _, rfl, x, C, dx, _, rfl, f3.at_, cl, n.parts, by omega, ?_⟩
    have f4 := f3.put ne (by omega) (putF "parts" (.ref p) g3)
    generalize e4 : putF "parts" (.ref p) g3 = g4 at f4 ⊢
    have m4 : g4.length = 4 := by rw [← e4, ← e3, ← e2, ← e1]; rfl
    generalize upd Hd x (.ins C dx g4) = He at f4 ⊢
    have o1 := ownN_le kd z
    have o2 := ownS_le st
    refine ⟨_, rfl, _, rfl, p, l, ownN kd z, ks, rfl, f4.ts _ List.mem_cons_self, f4.l1, fun e he => (f4.pk e he).hasNames cl n, by omega, fun q4 ys J4 s4 n4 t4 len4 => ?_⟩
    have k4 := f4.free n4
    have f4' := (f4.same s4).tup t4
    refine ⟨_, rfl, x, C, dx, _, rfl, f4'.at_, cl, n.names, by omega, ?_⟩
    have f5 := f4'.put ne (by omega) (putF "names" (.ref q4) g4)
    generalize e5 : putF "names" (.ref q4) g4 = g5 at f5 ⊢
    have m5 : g5.length = 5 := by rw [← e5, ← e4, ← e3, ← e2, ← e1]; rfl
    generalize upd J4 x (.ins C dx g5) = Hf at f5 ⊢
    refine ⟨_, rfl, _, rfl, p, l2, ownS st, ks, rfl, f5.ts _ List.mem_cons_self, f5.l2, f5.st, fun e he => (f5.pk e he).hasSteps cl n, by omega, fun q5 bs J5 s5 n5 t5 g5s len5 => ?_⟩
    have k5 := f5.free n5
    have f5' := ((f5.same s5).tup t5).sts g5s
    refine ⟨_, rfl, x, C, dx, _, rfl, f5'.at_, cl, n.steps, by omega, ?_⟩
    have f6 := f5'.put ne (by omega) (putF "steps" (.ref q5) g5)
    generalize e6 : putF "steps" (.ref q5) g5 = g6 at f6 ⊢
    have m6 : g6.length = 6 := by rw [← e6, ← e5, ← e4, ← e3, ← e2, ← e1]; rfl
    generalize upd J5 x (.ins C dx g6) = Hg at f6 ⊢
    refine ⟨_, rfl, p, rfl, ⟨_, f6.ts _ List.mem_cons_self⟩, fun D6 hD6 => lc_tup (xs := ks.map fun e : V × Nat => e.1) (fun i H4 => Same Hg H4 ∧ ∃ is : List Int, H4 D6 = some (.lst (is.map V.int)) ∧ is.length = i)
      ⟨same_new hD6, [], upd_same, rfl⟩ (fun i H4 _ h => SqT.same h.1 (f6.ts _ List.mem_cons_self)) (fun i v H4 hv h => ?_) (fun J6 h6 => ?_)⟩
    · obtain ⟨sm, is, d6, li⟩ := h
      rw [List.getElem?_map] at hv
      obtain ⟨e, he, rfl⟩ := Option.map_eq_some_iff.mp hv
      have lt : i < ks.length := (List.getElem?_eq_some_iff.mp he).1
      obtain ⟨a, kd', z', st', p', q', d', q1, q2, i', j', zs', bs', ha, _⟩ := f6.pk e (List.mem_of_getElem? he)
      refine ⟨rfl, _, rfl, a, C, d', _, .int i', q', sm _ _ ha, cl, n.size, rfl, _, d6, by rw [List.length_map, li, sizeLine_eq]; omega, same_put hD6 sm, is ++ [i'], by rw [upd_same, List.map_append]; rfl, by rw [List.length_append, li]; rfl⟩
    obtain ⟨sm, is6, d6, li6⟩ := h6
    have f6' := f6.same sm
    refine ⟨D6, is6, rfl, SqL.of d6, _, _, rfl, rfl, ?_⟩
    refine ⟨_, rfl, x, C, dx, _, rfl, f6'.at_, cl, n.size, by omega, ?_⟩
    have f7 := f6'.put ne (by omega) (putF "size" (.int (1 + is6.sum)) g6)
    generalize e7 : putF "size" (.int (1 + is6.sum)) g6 = g7 at f7 ⊢
    have m7 : g7.length = 7 := by rw [← e7, ← e6, ← e5, ← e4, ← e3, ← e2, ← e1]; rfl
    generalize upd J6 x (.ins C dx g7) = Hh at f7 ⊢
    refine ⟨_, rfl, l2, _, rfl, .inl (SqL.of f7.l2), _, rfl, p, rfl, ⟨_, f7.ts _ List.mem_cons_self⟩, fun D7 hD7 => lc_tup (xs := ks.map fun e : V × Nat => e.1) (fun i H4 => Same Hh H4 ∧ ∃ is : List Int, H4 D7 = some (.lst (is.map V.int)) ∧ is.length = i)
      ⟨same_new hD7, [], upd_same, rfl⟩ (fun i H4 _ h => SqT.same h.1 (f7.ts _ List.mem_cons_self)) (fun i v H4 hv h => ?_) (fun J7 h7 => ?_)⟩
    · obtain ⟨sm, is, d7, li⟩ := h
      rw [List.getElem?_map] at hv
      obtain ⟨e, he, rfl⟩ := Option.map_eq_some_iff.mp hv
      have lt : i < ks.length := (List.getElem?_eq_some_iff.mp he).1
      obtain ⟨a, kd', z', st', p', q', d', q1, q2, i', j', zs', bs', ha, _⟩ := f7.pk e (List.mem_of_getElem? he)
      refine ⟨rfl, _, rfl, a, C, d', _, .int j', q', sm _ _ ha, cl, n.applied, rfl, _, d7, by rw [List.length_map, li, sizeLine_eq]; omega, same_put hD7 sm, is ++ [j'], by rw [upd_same, List.map_append]; rfl, by rw [List.length_append, li]; rfl⟩
    obtain ⟨sm, is7, d7, li7⟩ := h7
    have f7' := f7.same sm
    refine ⟨D7, is7, rfl, SqL.of d7, _, _, rfl, rfl, ?_⟩
    refine ⟨_, rfl, x, C, dx, _, rfl, f7'.at_, cl, n.applied, by omega, ?_⟩
    have f8 := f7'.put ne (by omega) (putF "applied" (.int ((((ownS st).length : Nat) : Int) + is7.sum)) g7)
    refine q _ ⟨q4, q5, 1 + is6.sum, ((((ownS st).length : Nat) : Int) + is7.sum), ys, bs, ?_, k4, k5, f8.tr (q4, ys.map V.str) (List.mem_cons_of_mem _ List.mem_cons_self), f8.tr (q5, bs) List.mem_cons_self, len4, len5, fun b hb => f8.st b (List.mem_append_left _ hb)⟩ f8.kp
    refine f8.at_.trans ?_
    rw [← e7, ← e6, ← e5, ← e4, ← e3, ← e2, ← e1]
    rfl
end
end LK

namespace LK
open PySem PySem.Spec PyProof.Rows L2
/-! ### named, steps -/
theorem same_of_keep {H H1 H' : Hp} {x dx : Addr} {o u : HO} (hx : H x = none) (hd : H dx = none) (k : Keep x (upd (upd H dx o) x u) H') : Same H H' := fun b v e => k b v (ne_of_none e hx) (by rw [upd_ne (ne_of_none e hx), upd_ne (ne_of_none e hd)]; exact e)
/-- what is new in a later heap -/
def nw (H H' : Hp) : Hp := fun b => match H b with | none => H' b | some _ => none
theorem nw_at {H H' : Hp} {b : Addr} (h : H b = none) : nw H H' b = H' b := by
  unfold nw
  rw [h]
theorem nw_some {H H' : Hp} {b : Addr} {o : HO} (h : nw H H' b = some o) : H b = none ∧ H' b = some o := by
  unfold nw at h
  cases e : H b with
  | none =>
    rw [e] at h
    exact ⟨rfl, h⟩
  | some u =>
    rw [e] at h
    cases h
def spNamed (K : PySem.W.Frag) (C : Addr) : Sp := fun vs H Q _ => ∃ z, vs = [.str z] ∧ NameOk z ∧ ∀ a H', ExprAt K C (nw H H') a → (∀ cS, ExP K C cS H' (.ref a) "name" z .non [] 1) → Same H H' → Q (.ref a) H'
def spWaysOk : Sp := fun vs H Q _ => ∃ y, vs = [.str y] ∧ WaysOk y ∧ ∀ H', Same H H' → Q (.bl true) H'
def spStInit (C : Addr) : Sp := fun vs H Q _ => ∃ (x dx : Addr) (z y : Str), vs = [.ref x, .str z, .str y] ∧ H x = some (.ins C dx []) ∧ NameOk z ∧ WaysOk y ∧ ∀ H', StepAt C H' x z y → Keep x H H' → Q .non H'
def spStLen (C : Addr) : Sp := fun vs H Q _ => ∃ (x : Addr) (z y : Str), vs = [.ref x] ∧ StepAt C H x z y ∧ y.length ≤ 3 ∧ Q (.int y.length) H
section
variable {P : Program} {w : World} {K : PySem.W.Frag} {mg : Str → Option Value} {base : Heap}
theorem scNamed : FnScope ["word"] ["word"] (defScope sNamed) := ⟨rfl, rfl, rfl, by decide +kernel, rfl, by decide +kernel, by decide +kernel⟩
theorem ok_named {C fI f fe fN fS kw : Addr} {fdI fd fde fdN fdS : FuncData} (S : Std mg) (W : Words K mg kw) (I : Df K mg "is_name" sIsName fI fdI ["value"]) (cl : Cls K C) (n : ExN K C) (gC : mg "Expr" = some (.ref C))
    (M : Mk K C fe) (Fe : Fun K "__init__" "Expr.__init__" sExprInit fe fde) (be : Binds K fde ["self", "kind", "word", "step", "parts"] []) (N : Dd K mg "all_names" sAllNames fN fdN ["holders", "more"]) (T : Dd K mg "all_steps" sAllSteps fS fdS ["holders", "more"])
    (F : Fun K "named" "named" sNamed f fd) : FnOk P w K mg base CX0 4 f fd ["word"] (spNamed K C) := by
  have GI : FnOk P w K mg base CX0 1 fI fdI ["value"] spName := ok_isName S W I.F
  obtain ⟨cS, ne, clS, a1, a2⟩ := n.other
  have GE : FnOk P w K mg base CX0 2 fe fde ["self", "kind", "word", "step", "parts"] (spExInit K C cS) := ok_exInit S cl n ne clS a1 a2 Fe N T
  refine F.ok scNamed (fun vs H Q E h => ?_) (fun cdv A outer s H vs Q E hr h => ?_)
  · obtain ⟨z, rfl, _⟩ := h
    rfl
  · obtain ⟨z, rfl, hz, q⟩ := h
    refine ⟨_, pss_cons (ps_if (pt_not (pt_val (pe_call GI (hr.mono (by decide)) rfl I.g I.F.kp I.b .nil pass0 (pa_cons (pv 0) pa_nil)))) (pss_one ps_never) pss_nil)
      (pss_one (ps_ret (pe_make M GE hr rfl gC be .nil pass0 (pa_cons pe_str (pa_cons (pv 0) (pa_cons pe_non (pa_cons (pe_tup pa_nil) pa_nil))))))), ?_⟩
    refine ⟨_, rfl, z, rfl, hz, fun H1 s1 => ⟨_, rfl, iteF ?_⟩⟩
    refine ⟨_, rfl, by show 0 ≤ sizeLine; decide, fun p hp => fun x dx nx nd ne => ?_⟩
    have h0 : H1 p = none := hp
    have px : p ≠ x := ne_of_none upd_same nx
    have pd : p ≠ dx := ne_of_none upd_same nd
    have hp2 : (upd (upd (upd H1 p (.tup [])) dx (.own x)) x (.ins C dx [])) p = some (.tup []) := by
      rw [upd_ne px, upd_ne pd]
      exact upd_same
    have old : ∀ {b : Addr}, H1 b = none → H b = none := fun {b} h => by
      cases e : H b with
      | none => rfl
      | some o =>
        rw [s1 _ _ e] at h
        cases h
    have nx1 : H1 x = none := by
      rw [upd_ne px.symm] at nx
      exact nx
    refine ⟨x, dx, p, "name", z, .non, [], rfl, upd_same, SqT.of hp2, (fun _ h => nomatch h), .inl rfl, (by decide), (by decide), fun H' hx k => ?_⟩
    obtain ⟨q1, q2, i, j, zs, bs, he, k1, k2, t1, t2, l1, l2, _⟩ := hx
    have all : Same H H' := (s1.trans (same_new hp)).trans (same_of_keep (H1 := upd H1 p (.tup [])) nx nd k)
    have older : ∀ {b : Addr}, (upd (upd (upd H1 p (.tup [])) dx (.own x)) x (.ins C dx [])) b = none → H b = none := fun {b} h => by
      cases e : H b with
      | none => rfl
      | some o =>
        have e2 := same_new (o := .tup []) hp _ _ (s1 _ _ e)
        have e3 : (upd (upd H1 p (.tup [])) dx (.own x)) b = some o := same_new (o := .own x) nd _ _ e2
        rw [upd_ne (ne_of_none e2 nx), e3] at h
        cases h
    obtain rfl : bs = [] := List.length_eq_zero_iff.mp (Nat.le_zero.mp l2)
    refine ⟨rfl, q x H' ⟨dx, z, p, .ref q1, .ref q2, .int i, .int j, ?_, SqT.of ?_, q1, q2, i, j, zs, rfl, rfl, rfl, rfl, ?_, l1, ?_, hz⟩ (fun cS => ⟨x, p, rfl, ⟨dx, q1, q2, i, j, zs, [], he, t1, t2, l1, Nat.zero_le _, fun _ h => nomatch h⟩, SqT.of (k _ _ px hp2)⟩) all⟩
    · rw [nw_at (old nx1)]
      exact he
    · rw [nw_at (old h0)]
      exact k _ _ px hp2
    · rw [nw_at (older k1)]
      exact t1
    · rw [nw_at (older k2)]
      exact t2
theorem scWaysOk : FnScope ["value", "way"] ["value"] (defScope sAreWays) := ⟨rfl, rfl, rfl, by decide +kernel, rfl, by decide +kernel, by decide +kernel⟩
theorem ok_areWays {f : Addr} {fd : FuncData} {t1 t2 : Tok} (S : Std mg) (m1 : mg "MOST_ARGUMENTS" = some (.int 3 t1)) (m2 : mg "WAYS" = some (.str "+-?" t2)) (F : Fun K "_are_ways" "_are_ways" sAreWays f fd) : FnOk P w K mg base CX0 1 f fd ["value"] spWaysOk := by
  refine F.ok scWaysOk (fun vs H Q E h => ?_) (fun cdv A outer s H vs Q E hr h => ?_)
  · obtain ⟨z, rfl, _⟩ := h
    rfl
  · obtain ⟨z, rfl, hz, q⟩ := h
    refine ⟨_, pss_cons (ps_if (PW.pt (pw_or (pt_not (pt_val (pe_callB call_isi (by rfl) S.isi (by decide +kernel) (pa_cons (pv 0) (pa_cons (pe_bltn (v := .ty "str") (by rfl) S.str (by decide +kernel) rfl) pa_nil)))))
          (pw_or1 (pt_not (pt_chain op_le op_le pe_int (pe_callB call_len (by rfl) S.len PySem.boot_len (pa_cons (pv 0) pa_nil)) (pe_glob (v := .int 3) rfl m1 ⟨_, rfl⟩))))))
        (pss_one (ps_ret pe_bl)) pss_nil)
      (pss_one (ps_ret (pe_callB (cr_all rfl) (by rfl) S.all (by decide +kernel) (pa_cons (pe_lc (own := [("way", 1)]) (g := gName 1) (tt := tYes) rfl scWaysOk.nd
            (pi_str (pv 0)) (blkOk_by (N := ["value", "way"]) (sc := defScope sAreWays) (by decide +kernel)) (fun _ _ _ _ _ => pg_name (i := 1) scWaysOk.nd rfl (Or.inl rfl)) (fun _ _ _ _ _ => pts_nil)
            (fun _ _ _ _ _ => pe_cmpR op_in_sign (pv 1) (pe_glob (v := .str "+-?") rfl m2 ⟨_, rfl⟩) (by rfl))) pa_nil)))), ?_⟩
    have zl : z.length = z.cps.size := rfl
    have h4 := hz.len
    have h1 := hz.pos
    refine ⟨_, rfl, _, _, _, _, true, rfl, .ty "str", .base (.str z), kit_ty (by decide +kernel), true, rfl, iteF ?_⟩
    refine ⟨_, rfl, _, z.length, rfl, ⟨by rw [sizeLine_eq]; omega, rfl⟩, _, _, rfl, rfl, _, rfl, ?_⟩
    rw [decide_eq_true (show (1 : Int) ≤ (z.length : Int) by omega)]
    refine iteT ⟨_, _, rfl, rfl, _, rfl, ?_⟩
    rw [decide_eq_true (show (z.length : Int) ≤ 3 by omega)]
    refine iteF ⟨_, rfl, z, rfl, fun D hD => lc_str (fun i H4 => Keep D H H4 ∧ H4 D = some (.lst (List.replicate i (V.bl true)))) ⟨Keep.new hD, upd_same⟩ (fun i c H4 hc ⟨k4, d4⟩ => ?_) (fun H4 ⟨k4, d4⟩ => ?_)⟩
    · have lt : i < z.cps.size := (Array.getElem?_eq_some_iff.mp hc).1
      have mem : c ∈ TL.tl ("+-?" : Str) := hz.sg c (Array.mem_toList_iff.mpr (Array.mem_of_getElem? hc))
      refine ⟨rfl, _, rfl, c, "+-?", rfl, rfl, _, d4, by rw [List.length_replicate]; exact small1000 (by omega), fun b o n e => ?_, ?_⟩
      · rw [upd_ne n]
        exact k4 b o n e
      · rw [upd_same, decide_eq_true (show c ∈ ("+-?" : Str).cps.toList from mem), List.replicate_succ']
    · refine ⟨D, List.replicate z.cps.size true, rfl, SqL.of (by rw [List.map_replicate]; exact d4), ?_⟩
      rw [show (List.replicate z.cps.size true).all id = true from by rw [List.all_eq_true]; intro b hb; exact (List.mem_replicate.mp hb).2]
      exact q _ fun b o e => k4 b o (ne_of_none e hD) e
theorem scStInit : FnScope ["self", "name", "ways"] ["self", "name", "ways"] (defScope sStepInit) := ⟨rfl, rfl, rfl, by decide +kernel, rfl, by decide +kernel, by decide +kernel⟩
theorem ok_stInit {C fI fW f kw : Addr} {fdI fdW fd : FuncData} {t1 t2 : Tok} (S : Std mg) (Wd : Words K mg kw) (I : Df K mg "is_name" sIsName fI fdI ["value"]) (m1 : mg "MOST_ARGUMENTS" = some (.int 3 t1)) (m2 : mg "WAYS" = some (.str "+-?" t2)) (W : Df K mg "_are_ways" sAreWays fW fdW ["value"])
    (cl : Cls K C) (n1 : NoAttr K C "name") (n2 : NoAttr K C "ways") (F : Fun K "__init__" "Step.__init__" sStepInit f fd) : FnOk P w K mg base CX0 2 f fd ["self", "name", "ways"] (spStInit C) := by
  have GI : FnOk P w K mg base CX0 1 fI fdI ["value"] spName := ok_isName S Wd I.F
  have GW : FnOk P w K mg base CX0 1 fW fdW ["value"] spWaysOk := ok_areWays S m1 m2 W.F
  refine F.ok scStInit (fun vs H Q E h => ?_) (fun cdv A outer s H vs Q E hr h => ?_)
  · obtain ⟨x, dx, z, y, rfl, _⟩ := h
    rfl
  · obtain ⟨x, dx, z, y, rfl, hx, hz, hy, q⟩ := h
    refine ⟨_, pss_cons (ps_if (pt_not (pt_val (pe_call GI hr rfl I.g I.F.kp I.b .nil pass0 (pa_cons (pv 1) pa_nil)))) (pss_one ps_never) pss_nil)
      (pss_cons (ps_if (pt_not (pt_val (pe_call GW hr rfl W.g W.F.kp W.b .nil pass0 (pa_cons (pv 2) pa_nil)))) (pss_one ps_never) pss_nil)
      (pss_cons (ps_fld (pv 0) (pv 1) rfl) (pss_one (ps_fld (pv 0) (pv 2) rfl)))), ?_⟩
    refine ⟨_, rfl, z, rfl, hz, fun H1 s1 => ⟨_, rfl, iteF ?_⟩⟩
    refine ⟨_, rfl, y, rfl, hy, fun H2 s2 => ⟨_, rfl, iteF ?_⟩⟩
    refine ⟨_, rfl, _, rfl, x, C, dx, _, rfl, s2 _ _ (s1 _ _ hx), cl, n1, by decide, ?_⟩
    refine ⟨_, rfl, _, rfl, x, C, dx, _, rfl, upd_same, cl, n2, by show 1 < 1000; decide, ?_⟩
    exact q _ ⟨dx, upd_same⟩ (((Keep.same (s1.trans s2)).trans Keep.put).trans Keep.put)
theorem scStLen : FnScope ["self"] ["self"] (defScope sStepLen) := ⟨rfl, rfl, rfl, by decide +kernel, rfl, by decide +kernel, by decide +kernel⟩
theorem ok_stLen {C f : Addr} {fd : FuncData} (S : Std mg) (cl : Cls K C) (n2 : NoAttr K C "ways") (F : Fun K "__len__" "Step.__len__" sStepLen f fd) : FnOk P w K mg base CX0 1 f fd ["self"] (spStLen C) := by
  refine F.ok scStLen (fun vs H Q E h => ?_) (fun cdv A outer s H vs Q E hr h => ?_)
  · obtain ⟨x, z, y, rfl, _⟩ := h
    rfl
  · obtain ⟨x, z, y, rfl, ⟨dx, hx⟩, hy, q⟩ := h
    refine ⟨_, pss_one (ps_ret (pe_callB call_len (by rfl) S.len PySem.boot_len (pa_cons (pe_fld (pv 0) rfl) pa_nil))), ?_⟩
    exact ⟨_, rfl, _, _, _, _, _, rfl, hx, cl, n2, rfl, _, _, rfl, ⟨by rw [sizeLine_eq]; omega, rfl⟩, q⟩
end
end LK

namespace LK
open PySem PySem.Spec PyProof.Rows L2
/-! ### chains -/
/-- a def with a star parameter -/
theorem okStar {P : Program} {w : World} {K : PySem.W.Frag} {mg : Str → Option Value} {base : Heap} {x qual pv : Str} {st : Stmt} {f : Addr} {fd : FuncData} {N ps : List Str} {k : Nat} {sp : Sp} (F : Fun K x qual st f fd) (S : FnScope N (ps ++ [pv]) (defScope st))
    (hb : ∀ (kV doc pm : Value) (an : Option Addr) (cdv ct : Value) (us rest : List Value), us.length = ps.length → bindArgs (PySem.W.fnOf x qual (defArgs st) (defBody st) (defScope st) .none kV doc pm an cdv ct) ⟨us ++ rest, []⟩ = (newTuple rest >>= fun t => pure (ps.zip us ++ [(pv, t)])))
    (walk : ∀ (cdv : Value) (A : Around) (outer : List Env) (s : Shared) (H : Hp) (vs : List V) (Q : VK) (E : XK), Room k (A.deeper (envOfC qual (defScope st) s.heap.objs.size f cdv)) → sp vs H Q E →
      ∃ t, PSs (cxOf CX0 P w K mg base N qual (defScope st) f cdv A outer s H E).nox (defBody st) t ∧ t { nx := fun _ H' => Q .non H', rt := Q } (start N vs) H) :
    FnR P w K mg base CX0 (k + 1) f (fun vs H Q E => ∃ ws rest, vs = ws ++ rest ∧ ws.length = ps.length ∧ rest.length ≤ sizeLine ∧ ∀ p, H p = Option.none → sp (ws ++ [V.ref p]) (upd H p (.tup rest)) Q E) := by
  obtain ⟨oc, od, kV, doc, pm, an, cdv, ct, osl, rfl, lk, hcd⟩ := F.ex
  refine StX.fn_star lk hcd S StX.cxUp_none (hb kV doc pm an cdv ct) fun A outer s H vs Q E hr h => ?_
  obtain ⟨t, p, q⟩ := walk cdv A outer s H vs Q E hr h
  exact ⟨t, p.nox, q⟩
/-- a class with its own __len__ -/
structure LenM (K : PySem.W.Frag) (C f : Addr) (fd : FuncData) (st : Stmt) (q : Str) : Prop where
  F : Fun K "__len__" q st f fd
  b : Binds K fd ["self"] []
  at_ : PySem.W.findIn K (.ref C) "__len__" = some (some (.ref f))
  fn : PySem.W.isFn K (.ref f) = true
def spChBody (K : PySem.W.Frag) (cS C : Addr) : Sp := fun vs H Q _ => ∃ (x dx p b : Addr) (z y : Str), vs = [.ref x, .ref p] ∧ H x = some (.ins C dx []) ∧ H p = some (.tup [.ref b]) ∧ StepAt cS H b z y ∧ y.length = 1 ∧ ∀ H', H' x = some (.ins C dx [("steps", .ref p)]) → Keep x H H' → Q .non H'
section
variable {P : Program} {w : World} {K : PySem.W.Frag} {mg : Str → Option Value} {base : Heap}
theorem scChInit : FnScope ["self", "steps", "step"] ((["self"] : List Str) ++ (["steps"] : List Str)) (defScope sChainInit) := ⟨rfl, rfl, rfl, by decide +kernel, rfl, by decide +kernel, by decide +kernel⟩
theorem ok_chInit {cS C fL f : Addr} {fdL fd : FuncData} (S : Std mg) (c : OwnCl K mg "Step" cS) (n2 : NoAttr K cS "ways") (L : LenM K cS fL fdL sStepLen "Step.__len__") (cl : Cls K C) (m : NoAttr K C "steps") (F : Fun K "__init__" "Chain.__init__" sChainInit f fd) :
    FnR P w K mg base CX0 3 f (fun vs H Q E => ∃ ws rest, vs = ws ++ rest ∧ ws.length = ([("self" : Str)] : List Str).length ∧ rest.length ≤ sizeLine ∧ ∀ p, H p = Option.none → spChBody K cS C (ws ++ [V.ref p]) (upd H p (.tup rest)) Q E) := by
  refine okStar (ps := ["self"]) (pv := "steps") F scChInit (fun kV doc pm an cdv ct => StX.bind_star1 (B := fun us => bindArgs (PySem.W.fnOf "__init__" "Chain.__init__" (defArgs sChainInit) (defBody sChainInit) (defScope sChainInit) .none kV doc pm an cdv ct) ⟨us, []⟩) (p1 := "self") (pv := "steps") (fun a => rfl) (fun a r rs => rfl)) (fun cdv A outer s H vs Q E hr h => ?_)
  obtain ⟨x, dx, p, b, z, y, rfl, hx, hp, hb, hy, q⟩ := h
  have GL := fun (P : Program) (w : World) (base : Heap) => ok_stLen (P := P) (w := w) (base := base) S c.cl n2 L.F
  refine ⟨_, pss_cons (ps_for PassesOwn.never rfl (pi_tup (pv 1)) (pg_name (i := 2) scChInit.nd rfl (Or.inl rfl)) (pss_one (ps_if (PW.pt (pw_or (pt_not (pt_val (pe_callB call_isi (by rfl) S.isi (by decide +kernel) (pa_cons (pv 2) (pa_cons (pe_glob (v := .ref cS) rfl c.g rfl) pa_nil)))))
        (pw_or1 (pt_cmpR op_ne (pe_callB (LR.call_lenOwn (GL _ _ _) L.at_ L.fn L.b pass0 hr) (by rfl) S.len PySem.boot_len (pa_cons (pv 2) pa_nil)) pe_int (nomark _))))) (pss_one ps_never) pss_nil)))
    (pss_one (ps_fld (pv 0) (pv 1) rfl)), ?_⟩
  obtain ⟨db, hb'⟩ := hb
  refine ⟨_, rfl, p, rfl, ⟨[.ref b], SqT.of hp⟩, for_tup (xs := [.ref b]) (fun i σ' H' => (∃ o, σ' = [some (.ref x), some (.ref p), o]) ∧ H' = H) ⟨⟨_, rfl⟩, rfl⟩ (fun i σ' H' _ h => ?_) (fun i v σ' H' hv h => ?_) (fun σ' H' h => ?_)⟩
  · rw [h.2]
    exact SqT.of hp
  · obtain ⟨⟨o, rfl⟩, rfl⟩ := h
    have hi : i = 0 := by
      have := (List.getElem?_eq_some_iff.mp hv).1
      simpa using this
    subst hi
    obtain rfl : V.ref b = v := by simpa using hv
    refine ⟨_, rfl, _, _, _, _, true, rfl, .own cS, c.ty hb', kit_self, true, rfl, iteF ?_⟩
    refine ⟨_, rfl, b, db, _, rfl, hb', b, z, y, rfl, ⟨db, hb'⟩, by omega, y.length, rfl, by omega, rfl, _, rfl, ?_⟩
    rw [hy]
    exact iteF ⟨⟨_, rfl⟩, rfl⟩
  · obtain ⟨⟨o, rfl⟩, rfl⟩ := h
    refine ⟨_, rfl, _, rfl, x, C, dx, _, rfl, hx, cl, m, by decide, ?_⟩
    exact q _ upd_same Keep.put
end
end LK

namespace LK
open PySem PySem.Spec PyProof.Rows L2
/-! ### traits of one rising step -/
/-- the two written dicts of the traits' module -/
structure Fits (K : PySem.W.Frag) (w : World) (mg : Str → Option Value) (dC dF tU : Addr) : Prop where
  counts : mg "STEP_COUNTS" = some (.ref dC)
  c1 : ∃ es n, KDict K w dC es n
  c2 : ∃ t, PySem.W.nsIn K dC "up" = some (some (.int 1 t))
  fits : mg "FITTING_WAYS" = some (.ref dF)
  f1 : ∃ es n, KDict K w dF es n
  f2 : PySem.W.nsIn K dF "up" = some (some (.ref tU))
  f3 : ∀ H, SqT K H tU [.str "+"]
def spAreSteps (cS : Addr) : Sp := fun vs H Q _ => ∃ (p b : Addr) (z y : Str), vs = [.ref p, .int 1] ∧ H p = some (.tup [.ref b]) ∧ StepAt cS H b z y ∧ ∀ H', Same H H' → Q (.bl true) H'
def spWaysFit (cS : Addr) : Sp := fun vs H Q _ => ∃ (p b : Addr) (z : Str), vs = [.str "up", .ref p] ∧ H p = some (.tup [.ref b]) ∧ StepAt cS H b z "+" ∧ ∀ H', Same H H' → Q (.bl true) H'
def spTrBody (K : PySem.W.Frag) (cS C : Addr) : Sp := fun vs H Q _ => ∃ (x dx p b : Addr) (z : Str), vs = [.ref x, .str "up", .ref p] ∧ H x = some (.ins C dx []) ∧ H p = some (.tup [.ref b]) ∧ StepAt cS H b z "+" ∧ ∀ H', H' x = some (.ins C dx [("word", .str "up"), ("steps", .ref p)]) → Keep x H H' → Q .non H'
theorem StepAt.same {C : Addr} {H H' : Hp} {a : Addr} {z y : Str} (s : Same H H') (h : StepAt C H a z y) : StepAt C H' a z y := by
  obtain ⟨dx, h⟩ := h
  exact ⟨dx, s _ _ h⟩
section
variable {P : Program} {w : World} {K : PySem.W.Frag} {mg : Str → Option Value} {base : Heap}
theorem scAreSteps : FnScope ["steps", "count", "step"] ["steps", "count"] (defScope sAreSteps) := ⟨rfl, rfl, rfl, by decide +kernel, rfl, by decide +kernel, by decide +kernel⟩
theorem ok_areSteps {cS f : Addr} {fd : FuncData} (S : Std mg) (c : OwnCl K mg "Step" cS) (F : Fun K "_are_steps" "_are_steps" sAreSteps f fd) : FnOk P w K mg base CX0 1 f fd ["steps", "count"] (spAreSteps cS) := by
  refine F.ok scAreSteps (fun vs H Q E h => ?_) (fun cdv A outer s H vs Q E hr h => ?_)
  · obtain ⟨p, b, z, y, rfl, _⟩ := h
    rfl
  · obtain ⟨p, b, z, y, rfl, hp, hb, q⟩ := h
    refine ⟨_, pss_cons (ps_if (PW.pt (pw_or (pt_cmpR op_ne (pe_callB call_len_seq (by rfl) S.len PySem.boot_len (pa_cons (pv 0) pa_nil)) (pv 1) (nomark _))
          (pw_or1 (pt_not (pt_val (pe_callB (cr_all rfl) (by rfl) S.all (by decide +kernel) (pa_cons (pe_lc (own := [("step", 2)]) (g := gName 2) (tt := tYes) (te := tCB (rIsi K) (tCons (tVar 2) (tCons (tC (.ref cS)) tNil))) rfl scAreSteps.nd
            (pi_tup (pv 0)) (blkOk_by (N := ["steps", "count", "step"]) (sc := defScope sAreSteps) (by decide +kernel)) (fun _ _ _ _ _ => pg_name (i := 2) scAreSteps.nd rfl (Or.inl rfl)) (fun _ _ _ _ _ => pts_nil)
            (fun _ _ _ _ _ => pe_callB (id := "isinstance") call_isi (by rfl) S.isi (by decide +kernel) (pa_cons (pv 2) (pa_cons (pe_glob (v := .ref cS) rfl c.g rfl) pa_nil)))) pa_nil))))))) (pss_one (ps_ret pe_bl)) pss_nil)
      (pss_one (ps_ret (pe_or (pe_cmpR op_eq (pv 1) pe_int (nomark _)) (pe_one pe_never)))), ?_⟩
    refine ⟨_, rfl, p, _, rfl, .inr (SqT.of hp), _, rfl, rfl, _, rfl, iteF ?_⟩
    refine ⟨_, rfl, p, rfl, ⟨_, SqT.of hp⟩, fun D hD => lc_tup (xs := [.ref b]) (fun i H4 => Keep D H H4 ∧ H4 D = some (.lst (List.replicate i (V.bl true)))) ⟨Keep.new hD, upd_same⟩ (fun i H4 _ h => SqT.of (h.1 _ _ (ne_of_none hp hD) hp)) (fun i v H4 hv h => ?_) (fun H4 h => ?_)⟩
    · obtain ⟨k4, d4⟩ := h
      have hi : i = 0 := by
        have := (List.getElem?_eq_some_iff.mp hv).1
        simpa using this
      subst hi
      obtain rfl : V.ref b = v := by simpa using hv
      obtain ⟨db, hb⟩ := hb
      refine ⟨rfl, _, rfl, _, _, _, _, true, rfl, .own cS, c.ty (k4 _ _ (ne_of_none hb hD) hb), kit_self, _, d4, by decide, fun b o n e => ?_, upd_same⟩
      rw [upd_ne n]
      exact k4 b o n e
    · obtain ⟨k4, d4⟩ := h
      refine ⟨D, [true], rfl, SqL.of d4, true, rfl, iteF ?_⟩
      refine ⟨_, rfl, rfl, _, rfl, iteT (q _ fun b o e => k4 b o (ne_of_none e hD) e)⟩
theorem scWaysFit : FnScope ["word", "steps", "ways", "step"] ["word", "steps"] (defScope sWaysFit) := ⟨rfl, rfl, rfl, by decide +kernel, rfl, by decide +kernel, by decide +kernel⟩
theorem ok_waysFit {cS dC dF tU f : Addr} {fd : FuncData} (S : Std mg) (c : OwnCl K mg "Step" cS) (n2 : NoAttr K cS "ways") (D0 : Fits K w mg dC dF tU) (F : Fun K "_ways_fit" "_ways_fit" sWaysFit f fd) : FnOk P w K mg base CX0 1 f fd ["word", "steps"] (spWaysFit cS) := by
  refine F.ok scWaysFit (fun vs H Q E h => ?_) (fun cdv A outer s H vs Q E hr h => ?_)
  · obtain ⟨p, b, z, rfl, _⟩ := h
    rfl
  · obtain ⟨p, b, z, rfl, hp, ⟨db, hb⟩, q⟩ := h
    obtain ⟨es, n, k1, k2, k3⟩ := D0.f1
    refine ⟨_, pss_cons (ps_set (i := 2) scWaysFit.nd rfl (Or.inr rfl) (pe_fld (pe_ix ix_tup (pv 1) pe_int (fun _ _ => rfl)) rfl))
      (pss_cons (ps_if (pt_val (pe_callB (cr_any rfl) (by rfl) S.any (by decide +kernel) (pa_cons (pe_lc (own := [("step", 3)]) (g := gName 3) (tt := tYes) (te := tOp rNe (tFld K (tVar 3) "ways") (tVar 2)) rfl scWaysFit.nd
            (pi_tup (pv 1)) (blkOk_by (N := ["word", "steps", "ways", "step"]) (sc := defScope sWaysFit) (by decide +kernel)) (fun _ _ _ _ _ => pg_name (i := 3) scWaysFit.nd rfl (Or.inl rfl)) (fun _ _ _ _ _ => pts_nil)
            (fun _ _ _ _ _ => pe_cmpR op_ne (pe_fld (pv 3) rfl) (pv 2) (nomark _))) pa_nil))) (pss_one (ps_ret pe_bl)) pss_nil)
      (pss_one (ps_ret (pe_or (pe_cmpR op_eq (pv 0) pe_str (nomark _)) (pe_one (pe_cmpR op_in_seq (pv 2) (pe_ix ix_kdict (pe_glob (v := .ref dF) rfl D0.fits rfl) (pv 0) (fun _ _ => rfl)) (by rfl))))))), ?_⟩
    refine ⟨_, rfl, p, _, 0, .ref b, rfl, rfl, SqT.of hp, rfl, b, cS, db, _, _, rfl, hb, c.cl, n2, rfl, ?_⟩
    refine ⟨_, rfl, p, rfl, ⟨_, SqT.of hp⟩, fun D hD => lc_tup (xs := [.ref b]) (fun i H4 => Keep D H H4 ∧ H4 D = some (.lst (List.replicate i (V.bl false)))) ⟨Keep.new hD, upd_same⟩ (fun i H4 _ h => SqT.of (h.1 _ _ (ne_of_none hp hD) hp)) (fun i v H4 hv h => ?_) (fun H4 h => ?_)⟩
    · obtain ⟨k4, d4⟩ := h
      have hi : i = 0 := by
        have := (List.getElem?_eq_some_iff.mp hv).1
        simpa using this
      subst hi
      obtain rfl : V.ref b = v := by simpa using hv
      refine ⟨rfl, _, rfl, b, cS, db, _, _, rfl, k4 _ _ (ne_of_none hb hD) hb, c.cl, n2, rfl, _, rfl, rfl, _, d4, by decide, fun b o n e => ?_, ?_⟩
      · rw [upd_ne n]
        exact k4 b o n e
      · rw [upd_same]
        rfl
    · obtain ⟨k4, d4⟩ := h
      refine ⟨D, [false], rfl, SqL.of d4, false, rfl, iteF ?_⟩
      refine ⟨_, rfl, rfl, false, rfl, iteF ?_⟩
      refine ⟨_, rfl, _, rfl, dF, "up", .ref tU, rfl, rfl, ?_, tU, _, rfl, .inr (D0.f3 _), rfl, rfl, ?_⟩
      · exact ⟨es, n, _, k1, k2, D0.f2, rfl⟩
      · exact q _ fun b o e => k4 b o (ne_of_none e hD) e
theorem scTrInit : FnScope ["self", "word", "steps"] ((["self", "word"] : List Str) ++ (["steps"] : List Str)) (defScope sTraitInit) := ⟨rfl, rfl, rfl, by decide +kernel, rfl, by decide +kernel, by decide +kernel⟩
theorem ok_trInit {cS C dC dF tU fA fW f : Addr} {fdA fdW fd : FuncData} (S : Std mg) (c : OwnCl K mg "Step" cS) (n2 : NoAttr K cS "ways") (D0 : Fits K w mg dC dF tU) (A1 : Df K mg "_are_steps" sAreSteps fA fdA ["steps", "count"]) (W1 : Df K mg "_ways_fit" sWaysFit fW fdW ["word", "steps"])
    (cl : Cls K C) (m1 : NoAttr K C "word") (m2 : NoAttr K C "steps") (F : Fun K "__init__" "Trait.__init__" sTraitInit f fd) :
    FnR P w K mg base CX0 2 f (fun vs H Q E => ∃ ws rest, vs = ws ++ rest ∧ ws.length = (["self", "word"] : List Str).length ∧ rest.length ≤ sizeLine ∧ ∀ p, H p = Option.none → spTrBody K cS C (ws ++ [V.ref p]) (upd H p (.tup rest)) Q E) := by
  have GA : FnOk P w K mg base CX0 1 fA fdA ["steps", "count"] (spAreSteps cS) := ok_areSteps S c A1.F
  have GW : FnOk P w K mg base CX0 1 fW fdW ["word", "steps"] (spWaysFit cS) := ok_waysFit S c n2 D0 W1.F
  refine okStar (ps := ["self", "word"]) (pv := "steps") F scTrInit (fun kV doc pm an cdv ct => StX.bind_star2 (B := fun us => bindArgs (PySem.W.fnOf "__init__" "Trait.__init__" (defArgs sTraitInit) (defBody sTraitInit) (defScope sTraitInit) .none kV doc pm an cdv ct) ⟨us, []⟩) (p1 := "self") (p2 := "word") (pv := "steps") (fun a b => rfl) (fun a b r rs => rfl)) (fun cdv A outer s H vs Q E hr h => ?_)
  obtain ⟨x, dx, p, b, z, rfl, hx, hp, hb, q⟩ := h
  obtain ⟨es, n, kd⟩ := D0.c1
  obtain ⟨t, k1⟩ := D0.c2
  obtain ⟨ka, kb, kc⟩ := kd
  have KD : KDict K w dC es n := ⟨ka, kb, kc⟩
  refine ⟨_, pss_cons (ps_if (PW.pt (pw_or (pt_not (pt_val (pe_callB call_isi (by rfl) S.isi (by decide +kernel) (pa_cons (pv 1) (pa_cons (pe_bltn (v := .ty "str") (by rfl) S.str (by decide +kernel) rfl) pa_nil)))))
        (pw_or1 (pt_cmpR (op_notIn_kd KD) (pv 1) (pe_glob (v := .ref dC) rfl D0.counts rfl) (by rfl))))) (pss_one ps_never) pss_nil)
    (pss_cons (ps_if (pt_not (pt_val (pe_call GA hr rfl A1.g A1.F.kp A1.b .nil pass0 (pa_cons (pv 2) (pa_cons (pe_ix ix_kdict (pe_glob (v := .ref dC) rfl D0.counts rfl) (pv 1) (fun _ _ => rfl)) pa_nil))))) (pss_one ps_never) pss_nil)
    (pss_cons (ps_if (pt_not (pt_val (pe_call GW hr rfl W1.g W1.F.kp W1.b .nil pass0 (pa_cons (pv 1) (pa_cons (pv 2) pa_nil))))) (pss_one ps_never) pss_nil)
    (pss_cons (ps_fld (pv 0) (pv 1) rfl) (pss_one (ps_fld (pv 0) (pv 2) rfl))))), ?_⟩
  refine ⟨_, rfl, _, _, _, _, true, rfl, .ty "str", .base (.str "up"), kit_ty (by decide +kernel), true, rfl, iteF ?_⟩
  refine ⟨_, rfl, "up", _, rfl, rfl, k1, _, rfl, iteF ?_⟩
  refine ⟨_, rfl, _, rfl, dC, "up", .int 1, rfl, rfl, ⟨es, n, _, ka, kb, k1, ⟨_, rfl⟩⟩, p, b, z, "+", rfl, hp, hb, fun H1 s1 => ⟨_, rfl, iteF ?_⟩⟩
  refine ⟨_, rfl, _, rfl, p, b, z, rfl, s1 _ _ hp, hb.same s1, fun H2 s2 => ⟨_, rfl, iteF ?_⟩⟩
  have s3 := s1.trans s2
  refine ⟨_, rfl, _, rfl, x, C, dx, _, rfl, s3 _ _ hx, cl, m1, by decide, ?_⟩
  refine ⟨_, rfl, _, rfl, x, C, dx, _, rfl, upd_same, cl, m2, by show 1 < 1000; decide, ?_⟩
  exact q _ upd_same (((Keep.same s3).trans Keep.put).trans Keep.put)
end
end LK

namespace LK
open PySem PySem.Spec PyProof.Rows L2
/-! ### texts that are drawn -/
def spSign : Sp := fun vs H Q _ => ∃ (l : Addr), vs = [.ref l] ∧ Feed H l ∧ ∀ c H', Feed H' l → Keep l H H' → Q (.str ⟨#[c]⟩) H'
def spBent : Sp := fun vs H Q _ => ∃ (l : Addr) (z : Str), vs = [.ref l, .str z] ∧ z.length ≤ 4 ∧ Feed H l ∧ ∀ y H', y.length ≤ 9 → Feed H' l → Keep l H H' → Q (.str y) H'
def spNear : Sp := fun vs H Q _ => ∃ (l : Addr), vs = [.ref l] ∧ Feed H l ∧ ∀ y H', y.length ≤ 9 → Feed H' l → Keep l H H' → Q (.str y) H'
def spWays : Sp := fun vs H Q _ => ∃ (l : Addr), vs = [.ref l] ∧ Feed H l ∧ ∀ y H', WaysOk y → Feed H' l → Keep l H H' → Q (.str y) H'
theorem len_app (x y : Str) : (x ++ y).length = x.length + y.length := by
  rw [TL.len_tl, TL.tl_append, List.length_append, ← TL.len_tl, ← TL.len_tl]
theorem fit {x y : Str} {m n : Nat} (a : x.length ≤ m) (b : y.length ≤ n) (c : m + n ≤ 1000) : x.length + y.length ≤ sizeLine := Nat.le_of_lt (small1000 (by omega))
theorem cut4 {z : Str} (h : z.length ≤ 4) (a b : Option Int) : (cutS z a b).length ≤ 4 := Nat.le_trans (cutS_length z a b) h
section
variable {P : Program} {w : World} {K : PySem.W.Frag} {mg : Str → Option Value} {base : Heap}
theorem scSign : FnScope ["_law_feed_here", "_law_signs"] ["_law_feed_here"] (defScope sSign) := ⟨rfl, rfl, rfl, by decide +kernel, rfl, by decide +kernel, by decide +kernel⟩
theorem ok_sign {f fD fP : Addr} {fd fdD fdP : FuncData} (S : Std mg) (F : Fun K "_law_sign" "_law_sign" sSign f fd) (D : Df K mg "_law_draw" sDraw fD fdD ["_law_feed_here", "_law_many"]) (PK : Df K mg "_law_pick" sPick fP fdP ["_law_feed_here", "_law_items"]) : FnOk P w K mg base CX0 3 f fd ["_law_feed_here"] spSign := by
  have GP : FnOk P w K mg base CX0 2 fP fdP ["_law_feed_here", "_law_items"] (spPick K) := ok_pick S PK.F D
  refine F.ok scSign (fun vs H Q E h => ?_) (fun cdv A outer s H vs Q E hr h => ?_)
  · obtain ⟨l, rfl, _⟩ := h
    rfl
  · obtain ⟨l, rfl, hf, q⟩ := h
    refine ⟨_, pss_cons (ps_set (i := 1) scSign.nd rfl (Or.inl rfl) pe_str) (pss_cons (ps_set (i := 1) scSign.nd rfl (Or.inl rfl) (pe_op op_add_str (pv 1) pe_str))
      (pss_one (ps_ret (pe_call GP hr rfl PK.g PK.F.kp PK.b .nil pass0 (pa_cons (pv 0) (pa_cons (pv 1) pa_nil)))))), ?_⟩
    refine ⟨_, rfl, _, _, rfl, rfl, by decide +kernel, _, rfl, _, rfl, l, _, (fun v => ∃ c : Nat, v = .str ⟨#[c]⟩), rfl, hf, .inl ⟨_, rfl, by decide +kernel, by decide +kernel, fun c _ => ⟨c, rfl⟩⟩, ?_⟩
    rintro v H' ⟨c, rfl⟩ hf' k
    exact q c H' hf' k
def nBent : List Str := ["_law_feed_here", "_law_text", "_law_at", "_law_way", "_law_sign_here"]
theorem scBent : FnScope nBent ["_law_feed_here", "_law_text"] (defScope sBent) := ⟨rfl, rfl, rfl, by decide +kernel, rfl, by decide +kernel, by decide +kernel⟩
theorem ok_bent {f fD fS fP : Addr} {fd fdD fdS fdP : FuncData} (S : Std mg) (F : Fun K "_law_bent" "_law_bent" sBent f fd) (D : Df K mg "_law_draw" sDraw fD fdD ["_law_feed_here", "_law_many"]) (PK : Df K mg "_law_pick" sPick fP fdP ["_law_feed_here", "_law_items"])
    (SG : Df K mg "_law_sign" sSign fS fdS ["_law_feed_here"]) : FnOk P w K mg base CX0 4 f fd ["_law_feed_here", "_law_text"] spBent := by
  have GD : FnOk P w K mg base CX0 1 fD fdD ["_law_feed_here", "_law_many"] spDraw := ok_draw S D.F
  have GS : FnOk P w K mg base CX0 3 fS fdS ["_law_feed_here"] spSign := ok_sign S SG.F D PK
  refine F.ok scBent (fun vs H Q E h => ?_) (fun cdv A outer s H vs Q E hr h => ?_)
  · obtain ⟨l, z, rfl, _⟩ := h
    rfl
  · obtain ⟨l, z, rfl, hz, hf, q⟩ := h
    have hr1 : Room 1 _ := hr.mono (by decide)
    refine ⟨_, pss_cons (ps_par3 (i := 2) (j := 3) (l := 4) rfl scBent.nd rfl rfl rfl (by decide) (by decide) (by decide) rfl rfl rfl
        (pa_cons (pe_call GD hr1 rfl D.g D.F.kp D.b .nil pass0 (pa_cons (pv 0) (pa_cons (pe_op op_add (pe_callB call_len (by rfl) S.len PySem.boot_len (pa_cons (pv 1) pa_nil)) pe_int) pa_nil)))
        (pa_cons (pe_call GD hr1 rfl D.g D.F.kp D.b .nil pass0 (pa_cons (pv 0) (pa_cons pe_int pa_nil)))
        (pa_cons (pe_call GS hr rfl SG.g SG.F.kp SG.b .nil pass0 (pa_cons (pv 0) pa_nil)) pa_nil))) rfl)
      (pss_cons (ps_if (pt_cmpR op_eq (pv 3) pe_int (nomark _)) (pss_one (ps_ret (pe_op op_add_str (pe_op op_add_str (pe_slice sl_str (pv 1) po_none (po_some (pv 2))) (pv 4)) (pe_slice sl_str (pv 1) (po_some (pv 2)) po_none)))) pss_nil)
      (pss_cons (ps_if (pt_cmpR op_eq (pv 3) pe_int (nomark _)) (pss_one (ps_ret (pe_op op_add_str (pe_op op_add_str (pe_slice sl_str (pv 1) po_none (po_some (pv 2))) (pv 4)) (pe_slice sl_str (pv 1) (po_some (pe_op op_add (pv 2) pe_int)) po_none)))) pss_nil)
      (pss_cons (ps_if (pt_cmpR op_eq (pv 3) pe_int (nomark _)) (pss_one (ps_ret (pe_op op_add_str (pe_slice sl_str (pv 1) po_none (po_some (pv 2))) (pe_slice sl_str (pv 1) (po_some (pe_op op_add (pv 2) pe_int)) po_none)))) pss_nil)
      (pss_one (ps_ret (pe_op op_add_str (pe_slice sl_str (pv 1) po_none (po_some (pe_op op_add (pv 2) pe_int))) (pe_slice sl_str (pv 1) (po_some (pv 2)) po_none))))))), ?_⟩
    refine ⟨_, rfl, _, rfl, _, z.length, rfl, ⟨by rw [sizeLine_eq]; omega, rfl⟩, _, _, rfl, rfl, l, _, rfl, hf, by show (1 : Int) ≤ z.length + 1; omega, by show (z.length : Int) + 1 < 1073741824; omega, fun d H1 d0 d1 hf1 k1 => ?_⟩
    refine ⟨_, rfl, l, 4, rfl, hf1, by decide, by decide, fun v H2 v0 v1 hf2 k2 => ?_⟩
    refine ⟨_, rfl, l, rfl, hf2, fun c H3 hf3 k3 => ?_⟩
    have zs : z.length ≤ sizeLine := Nat.le_of_lt (small1000 (by omega))
    have k : Keep l H H3 := (k1.trans k2).trans k3
    have one : (⟨#[c]⟩ : Str).length ≤ 1 := Nat.le_refl 1
    have q3 : ∀ u v : Str, u.length ≤ 5 → v.length ≤ 4 → Q (.str (u ++ v)) H3 := fun u v a b => q _ H3 (by rw [len_app]; omega) hf3 k
    refine ⟨_, _, _, rfl, _, rfl, rfl, _, rfl, ite2 (fun _ => ?_) (fun _ => ?_)⟩
    · refine ⟨_, rfl, _, rfl, d, rfl, z, rfl, zs, _, rfl, _, _, rfl, rfl, fit (cut4 hz _ _) one (by decide), ?_⟩
      refine ⟨_, rfl, _, rfl, d, rfl, z, rfl, zs, _, _, rfl, rfl, fit (m := 5) (by rw [len_app]; have := cut4 hz none (some d); omega) (cut4 hz _ _) (by decide), q3 _ _ (by rw [len_app]; have := cut4 hz none (some d); omega) (cut4 hz _ _)⟩
    refine ⟨_, rfl, rfl, _, rfl, ite2 (fun _ => ?_) (fun _ => ?_)⟩
    · refine ⟨_, rfl, _, rfl, d, rfl, z, rfl, zs, _, rfl, _, _, rfl, rfl, fit (cut4 hz _ _) one (by decide), ?_⟩
      refine ⟨_, rfl, _, rfl, _, _, rfl, rfl, _, rfl, z, rfl, zs, _, _, rfl, rfl, fit (m := 5) (by rw [len_app]; have := cut4 hz none (some d); omega) (cut4 hz _ _) (by decide), q3 _ _ (by rw [len_app]; have := cut4 hz none (some d); omega) (cut4 hz _ _)⟩
    refine ⟨_, rfl, rfl, _, rfl, ite2 (fun _ => ?_) (fun _ => ?_)⟩
    · refine ⟨_, rfl, _, rfl, d, rfl, z, rfl, zs, ?_⟩
      refine ⟨_, rfl, _, rfl, _, _, rfl, rfl, _, rfl, z, rfl, zs, _, _, rfl, rfl, fit (cut4 hz _ _) (cut4 hz _ _) (by decide), q3 _ _ (Nat.le_trans (cut4 hz _ _) (by decide)) (cut4 hz _ _)⟩
    · refine ⟨_, rfl, _, rfl, _, _, rfl, rfl, _, rfl, z, rfl, zs, ?_⟩
      refine ⟨_, rfl, _, rfl, d, rfl, z, rfl, zs, _, _, rfl, rfl, fit (cut4 hz _ _) (cut4 hz _ _) (by decide), q3 _ _ (Nat.le_trans (cut4 hz _ _) (by decide)) (cut4 hz _ _)⟩
def nNear : List Str := ["_law_feed_here", "_law_letters", "_law_way", "_law_k"]
theorem scNear : FnScope nNear ["_law_feed_here"] (defScope sNear) := ⟨rfl, rfl, rfl, by decide +kernel, rfl, by decide +kernel, by decide +kernel⟩
theorem feed_ne {H : Hp} {l D : Addr} (h : Feed H l) (hD : H D = none) : l ≠ D := h.ne hD
theorem ok_near {f fD fS fP fB fW : Addr} {fd fdD fdS fdP fdB fdW : FuncData} (S : Std mg) (F : Fun K "_law_near_name" "_law_near_name" sNear f fd) (D : Df K mg "_law_draw" sDraw fD fdD ["_law_feed_here", "_law_many"]) (PK : Df K mg "_law_pick" sPick fP fdP ["_law_feed_here", "_law_items"])
    (SG : Df K mg "_law_sign" sSign fS fdS ["_law_feed_here"]) (B : Df K mg "_law_bent" sBent fB fdB ["_law_feed_here", "_law_text"]) (W : Df K mg "_law_word" sWord fW fdW ["_law_feed_here"]) : FnOk P w K mg base CX0 5 f fd ["_law_feed_here"] spNear := by
  have GD : FnOk P w K mg base CX0 1 fD fdD ["_law_feed_here", "_law_many"] spDraw := ok_draw S D.F
  have GP : FnOk P w K mg base CX0 2 fP fdP ["_law_feed_here", "_law_items"] (spPick K) := ok_pick S PK.F D
  have GB : FnOk P w K mg base CX0 4 fB fdB ["_law_feed_here", "_law_text"] spBent := ok_bent S B.F D PK SG
  have GW : FnOk P w K mg base CX0 3 fW fdW ["_law_feed_here"] spWord := ok_word S W.F D PK
  refine F.ok scNear (fun vs H Q E h => ?_) (fun cdv A outer s H vs Q E hr h => ?_)
  · obtain ⟨l, rfl, _⟩ := h
    rfl
  · obtain ⟨l, rfl, hf, q⟩ := h
    have hr1 : Room 1 _ := hr.mono (by decide)
    have hr2 : Room 2 _ := hr.mono (by decide)
    have hr3 : Room 3 _ := hr.mono (by decide)
    refine ⟨_, pss_cons (ps_set (i := 1) scNear.nd rfl (Or.inr rfl) pe_str)
      (pss_cons (ps_set (i := 2) scNear.nd rfl (Or.inl rfl) (pe_call GD hr1 rfl D.g D.F.kp D.b .nil pass0 (pa_cons (pv 0) (pa_cons pe_int pa_nil))))
      (pss_cons (ps_if (pt_cmpR op_eq (pv 2) pe_int (nomark _)) (pss_one (ps_ret (pe_call GP hr2 rfl PK.g PK.F.kp PK.b .nil pass0 (pa_cons (pv 0) (pa_cons (pe_lst (pa_cons pe_str (pa_cons pe_str (pa_cons pe_str (pa_cons pe_str (pa_cons pe_str
            (pa_cons pe_str (pa_cons pe_str (pa_cons pe_str (pa_cons pe_str (pa_cons pe_str pa_nil))))))))))) pa_nil))))) pss_nil)
      (pss_cons (ps_if (pt_cmpR op_eq (pv 2) pe_int (nomark _)) (pss_one (ps_ret (pe_join pe_str (pe_lc (own := [("_law_k", 3)]) (g := gName 3) (tt := tYes) rfl scNear.nd
          (pi_range1 (by rfl) S.range (pa_cons (pe_call GD hr1 rfl D.g D.F.kp D.b .nil pass0 (pa_cons (pv 0) (pa_cons pe_int pa_nil))) pa_nil))
          (blkOk_by (N := nNear) (sc := defScope sNear) (by decide +kernel)) (fun _ _ _ _ _ => pg_name (i := 3) scNear.nd rfl (Or.inl rfl)) (fun _ _ _ _ _ => pts_nil)
          (fun _ _ _ _ _ => pe_call GP hr2 rfl PK.g PK.F.kp PK.b .nil pass0 (pa_cons (pv 0) (pa_cons (pv 1) pa_nil))))))) pss_nil)
      (pss_cons (ps_if (pt_cmpR op_eq (pv 2) pe_int (nomark _)) (pss_one (ps_ret (pe_call GB hr rfl B.g B.F.kp B.b .nil pass0 (pa_cons (pv 0) (pa_cons (pe_call GW hr3 rfl W.g W.F.kp W.b .nil pass0 (pa_cons (pv 0) pa_nil)) pa_nil))))) pss_nil)
      (pss_one (ps_ret (pe_call GW hr3 rfl W.g W.F.kp W.b .nil pass0 (pa_cons (pv 0) pa_nil)))))))), ?_⟩
    refine ⟨_, rfl, l, 4, rfl, hf, by decide, by decide, fun v H0 v0 v1 hf0 k0 => ?_⟩
    refine ⟨_, rfl, rfl, _, rfl, ite2 (fun _ => ?_) (fun _ => ?_)⟩
    · refine ⟨_, rfl, by show 10 ≤ sizeLine; decide, fun p hp => ?_⟩
      refine ⟨l, .ref p, (fun v => ∃ y : Str, v = .str y ∧ y.length ≤ 9), rfl, hf0.same (same_new hp), .inr ⟨p, _, rfl, (hf0.ne hp).symm, SqL.of upd_same, by decide, by decide, fun v hv => ?_⟩, ?_⟩
      · simp only [List.mem_cons, List.not_mem_nil, or_false] at hv
        rcases hv with h | h | h | h | h | h | h | h | h | h <;> exact ⟨_, h, by decide +kernel⟩
      · rintro v H' ⟨y, rfl, hy⟩ hf' k
        exact q y H' hy hf' ((k0.trans (Keep.new hp)).trans k)
    refine ⟨_, rfl, rfl, _, rfl, ite2 (fun _ => ?_) (fun _ => ?_)⟩
    · refine ⟨⟨_, rfl⟩, _, rfl, l, 7, rfl, hf0, by decide, by decide, fun d H1 d0 d1 hf1 k1 => ⟨d, rfl, by omega, by omega, fun D hD => ?_⟩⟩
      have hlD : l ≠ D := hf1.ne hD
      refine lc_range (lo := 0) (n := d.toNat) (fun i H2 => Feed H2 l ∧ (∀ b o, b ≠ l → H b = some o → H2 b = some o) ∧ ∃ ys : List Str, ys.length = i ∧ H2 D = some (.lst (ys.map V.str)) ∧ ∀ y, y ∈ ys → y.length = 1)
        ⟨hf1.same (same_new hD), fun b o n e => same_new hD b o (k1 b o n (k0 b o n e)), [], rfl, upd_same, fun y hy => by simp at hy⟩ ?_ ?_
      · rintro i H2 hi ⟨hf2, k2, ys, el, hy, hys⟩
        refine ⟨rfl, _, rfl, _, rfl, l, .str letters, (fun v => ∃ c : Nat, v = .str ⟨#[c]⟩), rfl, hf2, .inl ⟨_, rfl, by decide +kernel, by decide +kernel, fun c hc => ⟨c, rfl⟩⟩, ?_⟩
        rintro v H3 ⟨c, rfl⟩ hf3 k3
        refine ⟨ys.map V.str, k3 _ _ hlD.symm hy, ?_, ?_⟩
        · rw [List.length_map]
          exact small1000 (by omega)
        · refine ⟨hf3.keep (m := D) Keep.put hlD, fun b o n e => ?_, ys ++ [⟨#[c]⟩], by simp [el], by rw [upd_same]; simp, fun y hy' => ?_⟩
          · by_cases hb : b = D
            · exfalso
              rw [hb] at e n
              have z := k1 _ _ n (k0 _ _ n e)
              rw [hD] at z
              cases z
            · rw [upd_ne hb]
              exact k3 b o n (k2 b o n e)
          · rcases List.mem_append.mp hy' with z | z
            · exact hys y z
            · have e : y = ⟨#[c]⟩ := by simpa using z
              subst e
              rfl
      · rintro H2 ⟨hf2, k2, ys, el, hy, hys⟩
        refine ⟨_, _, ys, rfl, rfl, .inl (SqL.of hy), ?_, ?_⟩
        · rw [sum_one hys]
          show ys.length + ys.length * 0 ≤ 16777216
          omega
        · refine q _ H2 ?_ hf2 k2
          rw [TL.len_tl, tl_join0, flat_one hys]
          omega
    refine ⟨_, rfl, rfl, _, rfl, ite2 (fun _ => ?_) (fun _ => ?_)⟩
    · refine ⟨_, rfl, _, rfl, l, rfl, hf0, fun z H1 hz hf1 k1 => ⟨l, z, rfl, hz.len, hf1, fun y H2 hy hf2 k2 => q y H2 hy hf2 ((k0.trans k1).trans k2)⟩⟩
    · exact ⟨_, rfl, l, rfl, hf0, fun z H1 hz hf1 k1 => q z H1 (by have := hz.len; omega) hf1 (k0.trans k1)⟩
theorem scWays : FnScope ["_law_feed_here", "_law_k"] ["_law_feed_here"] (defScope sWays) := ⟨rfl, rfl, rfl, by decide +kernel, rfl, by decide +kernel, by decide +kernel⟩
theorem ok_ways {f fD fP : Addr} {fd fdD fdP : FuncData} (S : Std mg) (F : Fun K "_law_ways" "_law_ways" sWays f fd) (D : Df K mg "_law_draw" sDraw fD fdD ["_law_feed_here", "_law_many"]) (PK : Df K mg "_law_pick" sPick fP fdP ["_law_feed_here", "_law_items"]) : FnOk P w K mg base CX0 3 f fd ["_law_feed_here"] spWays := by
  have GD : FnOk P w K mg base CX0 1 fD fdD ["_law_feed_here", "_law_many"] spDraw := ok_draw S D.F
  have GP : FnOk P w K mg base CX0 2 fP fdP ["_law_feed_here", "_law_items"] (spPick K) := ok_pick S PK.F D
  refine F.ok scWays (fun vs H Q E h => ?_) (fun cdv A outer s H vs Q E hr h => ?_)
  · obtain ⟨l, rfl, _⟩ := h
    rfl
  · obtain ⟨l, rfl, hf, q⟩ := h
    have hr1 : Room 1 _ := hr.mono (by decide)
    refine ⟨_, pss_one (ps_ret (pe_join pe_str (pe_lc (own := [("_law_k", 1)]) (g := gName 1) (tt := tYes) rfl scWays.nd
          (pi_range1 (by rfl) S.range (pa_cons (pe_op op_add pe_int (pe_call GD hr1 rfl D.g D.F.kp D.b .nil pass0 (pa_cons (pv 0) (pa_cons pe_int pa_nil)))) pa_nil))
          (blkOk_by (N := ["_law_feed_here", "_law_k"]) (sc := defScope sWays) (by decide +kernel)) (fun _ _ _ _ _ => pg_name (i := 1) scWays.nd rfl (Or.inl rfl)) (fun _ _ _ _ _ => pts_nil)
          (fun _ _ _ _ _ => pe_call GP hr rfl PK.g PK.F.kp PK.b .nil pass0 (pa_cons (pv 0) (pa_cons pe_str pa_nil)))))), ?_⟩
    refine ⟨⟨_, rfl⟩, _, rfl, l, 3, rfl, hf, by decide, by decide, fun d H1 d0 d1 hf1 k1 => ⟨_, _, rfl, rfl, 1 + d, rfl, by omega, by omega, fun D hD => ?_⟩⟩
    have hlD : l ≠ D := hf1.ne hD
    refine lc_range (lo := 0) (n := (1 + d).toNat) (fun i H2 => Feed H2 l ∧ (∀ b o, b ≠ l → H b = some o → H2 b = some o) ∧ ∃ ys : List Str, ys.length = i ∧ H2 D = some (.lst (ys.map V.str)) ∧ ∀ y, y ∈ ys → y.length = 1 ∧ ∀ c, c ∈ TL.tl y → c ∈ TL.tl ("+-?" : Str))
      ⟨hf1.same (same_new hD), fun b o n e => same_new hD b o (k1 b o n e), [], rfl, upd_same, fun y hy => by simp at hy⟩ ?_ ?_
    · rintro i H2 hi ⟨hf2, k2, ys, el, hy, hys⟩
      refine ⟨rfl, _, rfl, l, .str "+-?", (fun v => ∃ c : Nat, v = .str ⟨#[c]⟩ ∧ c ∈ TL.tl ("+-?" : Str)), rfl, hf2, .inl ⟨_, rfl, by decide +kernel, by decide +kernel, fun c hc => ⟨c, rfl, hc⟩⟩, ?_⟩
      rintro v H3 ⟨c, rfl, hc⟩ hf3 k3
      refine ⟨ys.map V.str, k3 _ _ hlD.symm hy, ?_, ?_⟩
      · rw [List.length_map]
        exact small1000 (by omega)
      · refine ⟨hf3.keep (m := D) Keep.put hlD, fun b o n e => ?_, ys ++ [⟨#[c]⟩], by simp [el], by rw [upd_same]; simp, fun y hy' => ?_⟩
        · by_cases hb : b = D
          · exfalso
            rw [hb] at e n
            have z := k1 _ _ n e
            rw [hD] at z
            cases z
          · rw [upd_ne hb]
            exact k3 b o n (k2 b o n e)
        · rcases List.mem_append.mp hy' with z | z
          · exact hys y z
          · have e : y = ⟨#[c]⟩ := by simpa using z
            subst e
            exact ⟨rfl, fun c' hc' => by
              have e : c' = c := by simpa [TL.tl] using hc'
              subst e
              exact hc⟩
    · rintro H2 ⟨hf2, k2, ys, el, hy, hys⟩
      have hone : ∀ y, y ∈ ys → y.length = 1 := fun y h => (hys y h).1
      have l1 : ys.length = 1 + d.toNat := by omega
      have htl := tl_join0 ys
      have hlen : (Txt.join "" ys).length = ys.length := by rw [TL.len_tl, htl, flat_one hone]
      refine ⟨_, _, ys, rfl, rfl, .inl (SqL.of hy), ?_, q _ H2 ⟨by omega, by omega, fun c hc => ?_⟩ hf2 k2⟩
      · rw [sum_one hone]
        show ys.length + ys.length * 0 ≤ 16777216
        omega
      · rw [htl] at hc
        obtain ⟨l', h1, h2⟩ := List.mem_flatten.mp hc
        obtain ⟨y, hy', rfl⟩ := List.mem_map.mp h1
        exact (hys y hy').2 c h2
end
end LK

namespace LK
open PySem PySem.Spec PyProof.Rows L2
/-! ### any value -/
/-- the makers of the objects -/
structure Make (K : PySem.W.Frag) (mg : Str → Option Value) (w : World) (k : Kinds) (iS iT iC iE lS kw dC dF tU : Addr) (fS fT fC fE gS : FuncData) : Prop where
  mS : Mk K k.cS iS
  mT : Mk K k.cT iT
  mC : Mk K k.cC iC
  mE : Mk K k.cE iE
  FS : Fun K "__init__" "Step.__init__" sStepInit iS fS
  FT : Fun K "__init__" "Trait.__init__" sTraitInit iT fT
  FC : Fun K "__init__" "Chain.__init__" sChainInit iC fC
  FE : Fun K "__init__" "Expr.__init__" sExprInit iE fE
  bS : Binds K fS ["self", "name", "ways"] []
  bE : Binds K fE ["self", "kind", "word", "step", "parts"] []
  L : LenM K k.cS lS gS sStepLen "Step.__len__"
  W : Words K mg kw
  m1 : ∃ t, mg "MOST_ARGUMENTS" = some (.int 3 t)
  m2 : ∃ t, mg "WAYS" = some (.str "+-?" t)
  D : Fits K w mg dC dF tU
  n : ExN K k.cE
def spAny (K : PySem.W.Frag) (k : Kinds) (n : Nat) : Sp := fun vs H Q _ => ∃ (l : Addr) (d : Nat), vs = [.ref l, .int d] ∧ d < n ∧ d ≤ 3 ∧ Feed H l ∧ ∀ v H', Alike K k (d + 1) (nw H H') v v → Feed H' l → Keep l H H' → Q v H'
theorem old_none {H H1 : Hp} {l b : Addr} (k : Keep l H H1) (f : Feed H1 l) (h : H1 b = none) : H b = none := by
  cases e : H b with
  | none => rfl
  | some o =>
    by_cases hb : b = l
    · obtain ⟨x, y, q, _⟩ := f
      rw [hb, q] at h
      cases h
    · rw [k _ _ hb e] at h
      cases h
/-- an object just made, seen later -/
theorem made {H H1 H' : Hp} {l x dx : Addr} {o u : HO} (k : Keep l H H1) (f : Feed H1 l) (nx : H1 x = none) (nd : H1 dx = none) (k2 : Keep x (upd (upd H1 dx o) x u) H') : Feed H' l ∧ Keep l H H' ∧ H x = none := by
  have s := same_of_keep (H1 := H1) nx nd k2
  exact ⟨f.same s, k.trans (Keep.same s), old_none k f nx⟩
theorem nw_mono {H H1 H' : Hp} {l : Addr} (k : Keep l H H1) (f : Feed H1 l) : Same (nw H1 H') (nw H H') := fun b o e => by
  obtain ⟨e1, e2⟩ := nw_some e
  rw [nw_at (old_none k f e1)]
  exact e2
theorem StepAt.nw {C : Addr} {H H' : Hp} {x : Addr} {z y : Str} (hx : H x = none) (h : StepAt C H' x z y) : StepAt C (nw H H') x z y := by
  obtain ⟨dx, h⟩ := h
  exact ⟨dx, by rw [nw_at hx]; exact h⟩
theorem plusOk : WaysOk "+" := ⟨by decide +kernel, by decide +kernel, by decide +kernel⟩
/-- an object made of a new tuple of one step -/
theorem made_of {H H1 H' : Hp} {l x dx p b C : Addr} {fs : List (Str × V)} (k : Keep l H H1) (f : Feed H1 l) (nx : H1 x = none) (nd : H1 dx = none) (ne : dx ≠ x) (hp : (upd (upd H1 dx (.own x)) x (.ins C dx fs)) p = none)
    (k2 : Keep x (upd (upd (upd H1 dx (.own x)) x (.ins C dx fs)) p (.tup [.ref b])) H') : Feed H' l ∧ Keep l H H' ∧ H x = none ∧ H p = none ∧ H' p = some (.tup [.ref b]) ∧ Same H1 (upd (upd (upd H1 dx (.own x)) x (.ins C dx fs)) p (.tup [.ref b])) := by
  have px : p ≠ x := fun e => by
    rw [e, upd_same] at hp
    cases hp
  have pd : p ≠ dx := fun e => by
    rw [e, upd_ne ne, upd_same] at hp
    cases hp
  have hp1 : H1 p = none := by
    rw [upd_ne px, upd_ne pd] at hp
    exact hp
  have nx2 : (upd H1 dx (.own x)) x = none := by
    rw [upd_ne ne.symm]
    exact nx
  have s3 : Same H1 (upd (upd (upd H1 dx (.own x)) x (.ins C dx fs)) p (.tup [.ref b])) := ((same_new nd).trans (same_new nx2)).trans (same_new hp)
  have s : Same H1 H' := fun c o e => k2 c o (ne_of_none e nx) (s3 c o e)
  exact ⟨f.same s, k.trans (Keep.same s), old_none k f nx, old_none k f hp1, k2 _ _ px upd_same, s3⟩
section
variable {P : Program} {w : World} {K : PySem.W.Frag} {mg : Str → Option Value} {base : Heap}
def nAny : List Str := ["_law_feed_here", "_law_deep", "_law_way", "_law_some", "_law_k"]
theorem scAny : FnScope nAny ["_law_feed_here", "_law_deep"] (defScope sAny) := ⟨rfl, rfl, rfl, by decide +kernel, rfl, by decide +kernel, by decide +kernel⟩
/-- all the defs that it calls -/
structure AnyF (K : PySem.W.Frag) (mg : Str → Option Value) (aD aP aS aB aW aN aY aI aM aA aE aWo aSt aFi : Addr) (fD fP fS fB fW fN fY fI fM fA fE fWo fSt fFi : FuncData) : Prop where
  D : Df K mg "_law_draw" sDraw aD fD ["_law_feed_here", "_law_many"]
  P : Df K mg "_law_pick" sPick aP fP ["_law_feed_here", "_law_items"]
  S : Df K mg "_law_sign" sSign aS fS ["_law_feed_here"]
  B : Df K mg "_law_bent" sBent aB fB ["_law_feed_here", "_law_text"]
  W : Df K mg "_law_word" sWord aW fW ["_law_feed_here"]
  N : Df K mg "_law_near_name" sNear aN fN ["_law_feed_here"]
  Y : Df K mg "_law_ways" sWays aY fY ["_law_feed_here"]
  I : Df K mg "is_name" sIsName aI fI ["value"]
  M : Df K mg "named" sNamed aM fM ["word"]
  A : Dd K mg "all_names" sAllNames aA fA ["holders", "more"]
  E : Dd K mg "all_steps" sAllSteps aE fE ["holders", "more"]
  O : Df K mg "_are_ways" sAreWays aWo fWo ["value"]
  T : Df K mg "_are_steps" sAreSteps aSt fSt ["steps", "count"]
  Z : Df K mg "_ways_fit" sWaysFit aFi fFi ["word", "steps"]
theorem ok_any {k : Kinds} {eS eE eT eC : Addr} {dS dE dT dC' : FuncData} {iS iT iC iE lS kw dC dF tU : Addr} {jS jT jC jE gS : FuncData} {aD aP aS aB aW aN aY aI aM aA aE aWo aSt aFi : Addr} {fD fP fS fB fW fN fY fI fM fA fE fWo fSt fFi : FuncData} {f : Addr} {fd : FuncData}
    (S : Std mg) (k' : Kin K mg k eS eE eT eC dS dE dT dC') (m : Make K mg w k iS iT iC iE lS kw dC dF tU jS jT jC jE gS) (a : AnyF K mg aD aP aS aB aW aN aY aI aM aA aE aWo aSt aFi fD fP fS fB fW fN fY fI fM fA fE fWo fSt fFi)
    (D : Df K mg "_law_any" sAny f fd ["_law_feed_here", "_law_deep"]) : ∀ n, FnOk P w K mg base CX0 (n + 6) f fd ["_law_feed_here", "_law_deep"] (spAny K k n)
  | 0 => D.F.ok scAny (fun vs H Q E h => by obtain ⟨_, _, _, h, _⟩ := h; exact absurd h (Nat.not_lt_zero _)) (fun cdv A outer s H vs Q E hr h => by obtain ⟨_, _, _, h, _⟩ := h; exact absurd h (Nat.not_lt_zero _))
  | n + 1 => by
    have G := ok_any S k' m a D n
    obtain ⟨t1, m1⟩ := m.m1
    obtain ⟨t2, m2⟩ := m.m2
    have GD : FnOk P w K mg base CX0 1 aD fD ["_law_feed_here", "_law_many"] spDraw := ok_draw S a.D.F
    have GP : FnOk P w K mg base CX0 2 aP fP ["_law_feed_here", "_law_items"] (spPick K) := ok_pick S a.P.F a.D
    have GN : FnOk P w K mg base CX0 5 aN fN ["_law_feed_here"] spNear := ok_near S a.N.F a.D a.P a.S a.B a.W
    have GW : FnOk P w K mg base CX0 3 aW fW ["_law_feed_here"] spWord := ok_word S a.W.F a.D a.P
    have GY : FnOk P w K mg base CX0 3 aY fY ["_law_feed_here"] spWays := ok_ways S a.Y.F a.D a.P
    have GM : FnOk P w K mg base CX0 4 aM fM ["word"] (spNamed K k.cE) := ok_named S m.W a.I k'.E.cl m.n k'.E.g m.mE m.FE m.bE a.A a.E a.M.F
    have GS : FnOk P w K mg base CX0 2 iS jS ["self", "name", "ways"] (spStInit k.cS) := ok_stInit S m.W a.I m1 m2 a.O k'.S.cl k'.s1 k'.s2 m.FS
    have GT := ok_trInit (P := P) (base := base) S k'.S k'.s2 m.D a.T a.Z k'.T.cl k'.t1 k'.t2 m.FT
    have GC := ok_chInit (P := P) (w := w) (base := base) S k'.S k'.s2 m.L k'.C.cl k'.c1 m.FC
    refine D.F.ok scAny (fun vs H Q E h => ?_) (fun cdv A outer s H vs Q E hr h => ?_)
    · obtain ⟨_, _, rfl, _⟩ := h
      rfl
    · obtain ⟨l, d, rfl, hd, hd3, hf, q⟩ := h
      have hr1 : Room 1 _ := hr.mono (by omega)
      have hr2 : Room 2 _ := hr.mono (by omega)
      have hr3 : Room 3 _ := hr.mono (by omega)
      have hr4 : Room 4 _ := hr.mono (by omega)
      have hr5 : Room 5 _ := hr.mono (by omega)
      have hrn : Room (n + 6) _ := hr.mono (by omega)
      refine ⟨_, pss_cons (ps_set (i := 2) scAny.nd rfl (Or.inl rfl) (pe_call GD hr1 rfl a.D.g a.D.F.kp a.D.b .nil pass0 (pa_cons (pv 0) (pa_cons (pe_ifExp (pt_cmpR op_gt (pv 1) pe_int (nomark _)) pe_int pe_int) pa_nil))))
        (pss_cons (ps_if (pt_cmpR op_eq (pv 2) pe_int (nomark _)) (pss_one (ps_ret (pe_op op_sub (pe_call GD hr1 rfl a.D.g a.D.F.kp a.D.b .nil pass0 (pa_cons (pv 0) (pa_cons pe_int pa_nil))) pe_int))) pss_nil)
        (pss_cons (ps_if (pt_cmpR op_eq (pv 2) pe_int (nomark _)) (pss_one (ps_ret (pe_call GP hr2 rfl a.P.g a.P.F.kp a.P.b .nil pass0 (pa_cons (pv 0) (pa_cons (pe_lst (pa_cons pe_bl (pa_cons pe_bl (pa_cons pe_non (pa_cons pe_non pa_nil))))) pa_nil))))) pss_nil)
        (pss_cons (ps_if (pt_cmpR op_eq (pv 2) pe_int (nomark _)) (pss_one (ps_ret (pe_call GN hr5 rfl a.N.g a.N.F.kp a.N.b .nil pass0 (pa_cons (pv 0) pa_nil)))) pss_nil)
        (pss_cons (ps_if (pt_cmpR op_eq (pv 2) pe_int (nomark _)) (pss_one (ps_ret (pe_make m.mS GS hr3 rfl k'.S.g m.bS .nil pass0 (pa_cons (pe_call GW hr3 rfl a.W.g a.W.F.kp a.W.b .nil pass0 (pa_cons (pv 0) pa_nil)) (pa_cons (pe_call GY hr3 rfl a.Y.g a.Y.F.kp a.Y.b .nil pass0 (pa_cons (pv 0) pa_nil)) pa_nil))))) pss_nil)
        (pss_cons (ps_if (pt_cmpR op_eq (pv 2) pe_int (nomark _)) (pss_one (ps_ret (pe_call GM hr4 rfl a.M.g a.M.F.kp a.M.b .nil pass0 (pa_cons (pe_call GW hr3 rfl a.W.g a.W.F.kp a.W.b .nil pass0 (pa_cons (pv 0) pa_nil)) pa_nil)))) pss_nil)
        (pss_cons (ps_if (pt_cmpR op_eq (pv 2) pe_int (nomark _)) (pss_one (ps_ret (StX.pe_makeR m.mT GT hr3 rfl k'.T.g pass0 (pa_cons pe_str (pa_cons (pe_make m.mS GS hr3 rfl k'.S.g m.bS .nil pass0 (pa_cons (pe_call GW hr3 rfl a.W.g a.W.F.kp a.W.b .nil pass0 (pa_cons (pv 0) pa_nil)) (pa_cons pe_str pa_nil))) pa_nil))))) pss_nil)
        (pss_cons (ps_if (pt_cmpR op_eq (pv 2) pe_int (nomark _)) (pss_one (ps_ret (StX.pe_makeR m.mC GC hr4 rfl k'.C.g pass0 (pa_cons (pe_make m.mS GS hr3 rfl k'.S.g m.bS .nil pass0 (pa_cons (pe_call GW hr3 rfl a.W.g a.W.F.kp a.W.b .nil pass0 (pa_cons (pv 0) pa_nil)) (pa_cons pe_str pa_nil))) pa_nil)))) pss_nil)
        (pss_cons (ps_setLc (i := 3) (own := [("_law_k", 4)]) (g := gName 4) (tt := tYes) rfl scAny.nd rfl rfl (sw_true rfl rfl rfl (by decide +kernel))
            (pi_range1 (by rfl) S.range (pa_cons (pe_call GD hr1 rfl a.D.g a.D.F.kp a.D.b .nil pass0 (pa_cons (pv 0) (pa_cons pe_int pa_nil))) pa_nil))
            (blkOk_by (N := nAny) (sc := defScope sAny) (by decide +kernel)) (fun _ _ _ _ _ => pg_name (i := 4) scAny.nd rfl (Or.inl rfl)) (fun _ _ _ _ _ => pts_nil)
            (fun _ _ _ _ _ => pe_call G (hr.mono (by omega)) rfl D.g D.F.kp D.b .nil pass0 (pa_cons (pv 0) (pa_cons (pe_op op_sub (pv 1) pe_int) pa_nil))))
        (pss_one (ps_ret (pe_ifExp (pt_cmpR op_eq (pv 2) pe_int (nomark _)) (pv 3) (pe_callTy call_tuple_of (by rfl) S.tuple (by decide +kernel) (pa_cons (pv 3) pa_nil))))))))))))), ?_⟩
      have leafA : ∀ {H' : Hp} {v : V}, Leaf K k (nw H H') v → Alike K k (d + 1) (nw H H') v v := fun h => .inl ⟨h, rfl⟩
      refine ⟨_, rfl, _, rfl, _, _, rfl, rfl, _, rfl, ite2 (fun c => ⟨l, 9, rfl, hf, by decide, by decide, fun v H0 v0 v1 hf0 k0 => ?_⟩) (fun c => ⟨l, 7, rfl, hf, by decide, by decide, fun v H0 v0 v1 hf0 k0 => ?_⟩)⟩
      all_goals
        have vd : v < 7 ∨ 0 < d := by
          first
          | exact .inl (by omega)
          | exact .inr (by have c' := of_decide_eq_true c; omega)
        refine ⟨_, rfl, rfl, _, rfl, ite2 (fun _ => ?_) (fun n0 => ?_)⟩
        · exact ⟨_, rfl, l, 2001, rfl, hf0, by decide, by decide, fun x H1 x0 x1 hf1 k1 => ⟨_, _, rfl, rfl, q _ H1 (leafA (.int _)) hf1 (k0.trans k1)⟩⟩
        refine ⟨_, rfl, rfl, _, rfl, ite2 (fun _ => ?_) (fun n1 => ?_)⟩
        · refine ⟨_, rfl, by show 4 ≤ sizeLine; decide, fun p hp => ?_⟩
          refine ⟨l, .ref p, (fun v => (∃ b, v = .bl b) ∨ v = .non), rfl, hf0.same (same_new hp), .inr ⟨p, _, rfl, (hf0.ne hp).symm, SqL.of upd_same, by decide, by decide, fun v hv => ?_⟩, ?_⟩
          · simp only [List.mem_cons, List.not_mem_nil, or_false] at hv
            rcases hv with h | h | h | h
            · exact .inl ⟨_, h⟩
            · exact .inl ⟨_, h⟩
            · exact .inr h
            · exact .inr h
          · rintro v H' h hf' kk
            refine q v H' (leafA ?_) hf' ((k0.trans (Keep.new hp)).trans kk)
            rcases h with ⟨b, rfl⟩ | rfl
            · exact .bl b
            · exact .non
        refine ⟨_, rfl, rfl, _, rfl, ite2 (fun _ => ?_) (fun n2 => ?_)⟩
        · exact ⟨_, rfl, l, rfl, hf0, fun y H1 hy hf1 k1 => q _ H1 (leafA (.str y (by omega))) hf1 (k0.trans k1)⟩
        refine ⟨_, rfl, rfl, _, rfl, ite2 (fun _ => ?_) (fun n3 => ?_)⟩
        · refine ⟨_, rfl, l, rfl, hf0, fun z H1 hz hf1 k1 => ⟨_, rfl, l, rfl, hf1, fun y H2 hy hf2 k2 => fun x dx nx nd ne => ⟨x, dx, z, y, rfl, upd_same, hz, hy, fun H' hs kk => ⟨rfl, ?_⟩⟩⟩⟩
          obtain ⟨f', k'', hx⟩ := made ((k0.trans k1).trans k2) hf2 nx nd kk
          exact q _ H' (leafA (.step (hs.nw hx) hz hy)) f' k''
        refine ⟨_, rfl, rfl, _, rfl, ite2 (fun _ => ?_) (fun n4 => ?_)⟩
        · refine ⟨_, rfl, l, rfl, hf0, fun z H1 hz hf1 k1 => ⟨z, rfl, hz, fun x H' he _ s' => ?_⟩⟩
          exact q _ H' (leafA (Leaf.same (nw_mono (k0.trans k1) hf1) (.expr he))) (hf1.same s') ((k0.trans k1).trans (Keep.same s'))
        refine ⟨_, rfl, rfl, _, rfl, ite2 (fun _ => ?_) (fun n5 => ?_)⟩
        · refine ⟨_, rfl, l, rfl, hf0, fun z H1 hz hf1 k1 => fun x dx nx nd ne => ⟨x, dx, z, "+", rfl, upd_same, hz, plusOk, fun H2 hs kk => ⟨rfl, ?_⟩⟩⟩
          obtain ⟨f2, k2, hx⟩ := made (k0.trans k1) hf1 nx nd kk
          refine fun x2 dx2 nx2 nd2 ne2 => ⟨[.ref x2, .str "up"], [.ref x], rfl, rfl, by show 1 ≤ sizeLine; decide, fun p hp => ?_⟩
          have px : x2 ≠ p := fun e => by
            rw [← e, upd_same] at hp
            cases hp
          refine ⟨x2, dx2, p, x, z, rfl, by rw [upd_ne px]; exact upd_same, upd_same, ?_, fun H' ht kk2 => ⟨rfl, ?_⟩⟩
          · obtain ⟨_, _, _, _, _, s3⟩ := made_of (b := x) k2 f2 nx2 nd2 ne2 hp (Keep.refl)
            exact hs.same s3
          · obtain ⟨f3, k3, hx2, hp0, hp', _⟩ := made_of k2 f2 nx2 nd2 ne2 hp kk2
            exact q _ H' (leafA (.trait ⟨dx2, "up", p, x, by rw [nw_at hx2]; exact ht, SqT.of (by rw [nw_at hp0]; exact hp')⟩)) f3 k3
        refine ⟨_, rfl, rfl, _, rfl, ite2 (fun _ => ?_) (fun n6 => ?_)⟩
        · refine ⟨_, rfl, l, rfl, hf0, fun z H1 hz hf1 k1 => fun x dx nx nd ne => ⟨x, dx, z, "+", rfl, upd_same, hz, plusOk, fun H2 hs kk => ⟨rfl, ?_⟩⟩⟩
          obtain ⟨f2, k2, hx⟩ := made (k0.trans k1) hf1 nx nd kk
          refine fun x2 dx2 nx2 nd2 ne2 => ⟨[.ref x2], [.ref x], rfl, rfl, by show 1 ≤ sizeLine; decide, fun p hp => ?_⟩
          have px : x2 ≠ p := fun e => by
            rw [← e, upd_same] at hp
            cases hp
          refine ⟨x2, dx2, p, x, z, "+", rfl, by rw [upd_ne px]; exact upd_same, upd_same, ?_, by decide +kernel, fun H' ht kk2 => ⟨rfl, ?_⟩⟩
          · obtain ⟨_, _, _, _, _, s3⟩ := made_of (b := x) k2 f2 nx2 nd2 ne2 hp (Keep.refl)
            exact hs.same s3
          · obtain ⟨f3, k3, hx2, hp0, hp', _⟩ := made_of k2 f2 nx2 nd2 ne2 hp kk2
            exact q _ H' (leafA (.chain ⟨dx2, p, x, by rw [nw_at hx2]; exact ht, SqT.of (by rw [nw_at hp0]; exact hp')⟩)) f3 k3
        have hd0 : 0 < d := by
          rcases vd with h | h
          · exfalso
            have e0 : v ≠ 0 := fun e => n0 (decide_eq_true (by rw [e]))
            have e1 : v ≠ 1 := fun e => n1 (decide_eq_true (by rw [e]))
            have e2 : v ≠ 2 := fun e => n2 (decide_eq_true (by rw [e]))
            have e3 : v ≠ 3 := fun e => n3 (decide_eq_true (by rw [e]))
            have e4 : v ≠ 4 := fun e => n4 (decide_eq_true (by rw [e]))
            have e5 : v ≠ 5 := fun e => n5 (decide_eq_true (by rw [e]))
            have e6 : v ≠ 6 := fun e => n6 (decide_eq_true (by rw [e]))
            omega
          · exact h
        obtain ⟨d', rfl⟩ : ∃ d', d = d' + 1 := ⟨d - 1, by omega⟩
        refine ⟨_, rfl, l, 4, rfl, hf0, by decide, by decide, fun c H1 c0 c1 hf1 k1 => ⟨c, rfl, by omega, by omega, fun D hD => ?_⟩⟩
        have k01 := k0.trans k1
        have hDn : H D = none := old_none k01 hf1 hD
        have hlD : D ≠ l := (hf1.ne hD).symm
        refine lc_range (lo := 0) (n := c.toNat) (fun i H2 => Feed H2 l ∧ Keep l H H2 ∧ ∃ ys : List V, ys.length = i ∧ H2 D = some (.lst ys) ∧ ∀ y, y ∈ ys → Alike K k (d' + 1) (L2.del (nw H H2) D) y y)
          ⟨hf1.same (same_new hD), k01.trans (Keep.new hD), [], rfl, upd_same, fun y hy => by simp at hy⟩ ?_ ?_
        · rintro i H2 hi ⟨hf2, k2, ys, el, hy, hys⟩
          refine ⟨rfl, _, rfl, _, rfl, _, _, rfl, rfl, l, d', ?_, by omega, by omega, hf2, fun y H3 ha hf3 k3 => ?_⟩
          · show [V.ref l, V.int (((d' + 1 : Nat) : Int) - 1)] = [V.ref l, V.int (d' : Int)]
            rw [show (((d' + 1 : Nat) : Int) - 1) = (d' : Int) by omega]
          have nl : ∀ {b : Addr}, H b = none → b ≠ l := fun {b} e z => by
            obtain ⟨_, _, e1, _⟩ := hf
            rw [z, e1] at e
            cases e
          refine ⟨ys, k3 _ _ hlD hy, small1000 (by omega), ?_, ?_, ys ++ [y], by simp [el], upd_same, fun u hu => ?_⟩
          · exact hf3.keep (m := D) Keep.put hlD.symm
          · intro b o n e
            rw [upd_ne (ne_of_none e hDn)]
            exact k3 b o n (k2 b o n e)
          · rcases List.mem_append.mp hu with h | h
            · refine (hys u h).same fun b o e => ?_
              have hb : b ≠ D := fun z => by
                rw [z, del_same] at e
                cases e
              rw [del_ne hb] at e ⊢
              obtain ⟨e1, e2⟩ := nw_some e
              rw [nw_at e1, upd_ne hb]
              exact k3 b o (nl e1) e2
            · obtain rfl : u = y := by simpa using h
              refine ha.same fun b o e => ?_
              obtain ⟨e1, e2⟩ := nw_some e
              have hb : b ≠ D := fun z => by
                rw [z, hy] at e1
                cases e1
              rw [del_ne hb, nw_at (old_none k2 hf2 e1), upd_ne hb]
              exact e2
        · rintro H2 ⟨hf2, k2, ys, el, hy, hys⟩
          have sub : ∀ {G : Hp}, Same (nw H H2) G → Same (L2.del (nw H H2) D) G := fun s b o e => by
            have hb : b ≠ D := fun z => by
              rw [z, del_same] at e
              cases e
            rw [del_ne hb] at e
            exact s b o e
          have items : ∀ {G : Hp}, Same (nw H H2) G → ∀ (i : Nat) x' y', ys[i]? = some x' → ys[i]? = some y' → Alike K k (d' + 1) G x' y' := fun s i x' y' e1 e2 => by
            rw [e1] at e2
            obtain rfl := Option.some.inj e2
            exact (hys x' (List.mem_of_getElem? e1)).same (sub s)
          refine ⟨_, rfl, rfl, _, rfl, ite2 (fun _ => ?_) (fun _ => ?_)⟩
          · refine ⟨_, rfl, q (.ref D) H2 (.inr ⟨D, D, ys, ys, rfl, rfl, rfl, by omega, .inl ⟨by rw [nw_at hDn]; exact hy, by rw [nw_at hDn]; exact hy⟩, items fun _ _ e => e⟩) hf2 k2⟩
          · refine ⟨_, rfl, D, ys, rfl, .inl ⟨SqL.of hy, fun p hp => ?_⟩⟩
            have hpn : H p = none := old_none k2 hf2 hp
            have s5 : Same (nw H H2) (nw H (upd H2 p (.tup ys))) := fun b o e => by
              obtain ⟨e1, e2⟩ := nw_some e
              rw [nw_at e1, upd_ne (ne_of_none e2 hp)]
              exact e2
            have hpt : nw H (upd H2 p (.tup ys)) p = some (.tup ys) := by
              rw [nw_at hpn]
              exact upd_same
            exact q (.ref p) _ (.inr ⟨p, p, ys, ys, rfl, rfl, rfl, by omega, .inr ⟨hpt, hpt⟩, items s5⟩) (hf2.same (same_new hp)) (k2.trans (Keep.new hp))
end
end LK

namespace LK
open PySem PySem.Spec PyProof.Rows L2 LR
/-! ### expressions put together -/
theorem same_ins {H1 : Hp} {x dx : Addr} {o u : HO} (nx : H1 x = none) (nd : H1 dx = none) : Same H1 (upd (upd H1 dx o) x u) := fun b v e => by
  rw [upd_ne (ne_of_none e nx), upd_ne (ne_of_none e nd)]
  exact e
/-- what makes an expression -/
structure ExMk (K : PySem.W.Frag) (mg : Str → Option Value) (C cS fe fN fS : Addr) (fde fdN fdS : FuncData) : Prop where
  cl : Cls K C
  n : ExN K C
  ne : cS ≠ C
  clS : Cls K cS
  s1 : NoAttr K cS "name"
  s2 : NoAttr K cS "ways"
  g : mg "Expr" = some (.ref C)
  M : Mk K C fe
  F : Fun K "__init__" "Expr.__init__" sExprInit fe fde
  b : Binds K fde ["self", "kind", "word", "step", "parts"] []
  N : Dd K mg "all_names" sAllNames fN fdN ["holders", "more"]
  T : Dd K mg "all_steps" sAllSteps fS fdS ["holders", "more"]
/-- the made object's fields, seen from the heap it was made in -/
theorem ex_made {K : PySem.W.Frag} {C cS x dx p : Addr} {H1 H' : Hp} {kd z : Str} {st : V} {ps : List V} {m n : Nat} (nx : H1 x = none) (nd : H1 dx = none) (hp : SqT K H1 p ps) (le1 : (ownN kd z).length + m ≤ n) (le2 : (ownS st).length + m ≤ n)
    (h : ∃ q1 q2 i j, ∃ (zs : List Str) (bs : List V), H' x = some (.ins C dx (exFs kd z st p q1 q2 i j)) ∧ (upd (upd H1 dx (.own x)) x (.ins C dx [])) q1 = none ∧ (upd (upd H1 dx (.own x)) x (.ins C dx [])) q2 = none ∧ H' q1 = some (.tup (zs.map V.str)) ∧ H' q2 = some (.tup bs) ∧
      zs.length ≤ (ownN kd z).length + m ∧ bs.length ≤ (ownS st).length + m ∧ ∀ b ∈ bs, IsSt cS H' b) (k : Keep x (upd (upd H1 dx (.own x)) x (.ins C dx [])) H') :
    Same H1 H' ∧ ExP K C cS H' (.ref x) kd z st ps n := by
  obtain ⟨q1, q2, i, j, zs, bs, he, _, _, t1, t2, l1, l2, g⟩ := h
  have s := same_of_keep (H1 := H1) nx nd k
  exact ⟨s, x, p, rfl, ⟨dx, q1, q2, i, j, zs, bs, he, t1, t2, by omega, by omega, g⟩, SqT.same s hp⟩
def spApplied (K : PySem.W.Frag) (C cS : Addr) : Sp := fun vs H Q _ => ∃ (st : V) (l : Addr) (ks : List (V × Nat)), vs = [st, .ref l] ∧ IsSt cS H st ∧ SqL K H l (ks.map fun e => e.1) ∧ (∀ e ∈ ks, IsEx C cS H e) ∧ 1 + tot ks < 64 ∧ ks.length < 64 ∧
  ∀ v H', Same H H' → ExP K C cS H' v "step" "" st (ks.map fun e => e.1) (1 + tot ks) → Q v H'
def spTwo (K : PySem.W.Frag) (C cS : Addr) (kd : Str) : Sp := fun vs H Q _ => ∃ (x y : V) (m n : Nat), vs = [x, y] ∧ IsEx C cS H (x, m) ∧ IsEx C cS H (y, n) ∧ 1 + (m + n) < 64 ∧ ∀ v H', Same H H' → ExP K C cS H' v kd "" .non [x, y] (1 + (m + n)) → Q v H'
section
variable {P : Program} {w : World} {K : PySem.W.Frag} {mg : Str → Option Value} {base : Heap}
theorem scApplied : FnScope ["step", "parts"] ["step", "parts"] (defScope sApplied) := ⟨rfl, rfl, rfl, by decide +kernel, rfl, by decide +kernel, by decide +kernel⟩
theorem ok_applied {C cS fe fN fS f : Addr} {fde fdN fdS fd : FuncData} (S : Std mg) (X1 : ExMk K mg C cS fe fN fS fde fdN fdS) (F : Fun K "applied" "applied" sApplied f fd) : FnOk P w K mg base CX0 4 f fd ["step", "parts"] (spApplied K C cS) := by
  have GE : FnOk P w K mg base CX0 2 fe fde ["self", "kind", "word", "step", "parts"] (spExInit K C cS) := ok_exInit S X1.cl X1.n X1.ne X1.clS X1.s1 X1.s2 X1.F X1.N X1.T
  refine F.ok scApplied (fun vs H Q E h => ?_) (fun cdv A outer s H vs Q E hr h => ?_)
  · obtain ⟨st, l, ks, rfl, _⟩ := h
    rfl
  · obtain ⟨st, l, ks, rfl, hs, hl, hk, few, short, q⟩ := h
    refine ⟨_, pss_one (ps_ret (pe_make X1.M GE hr rfl X1.g X1.b .nil pass0 (pa_cons pe_str (pa_cons pe_str (pa_cons (pv 0) (pa_cons (pe_callTy call_tuple_of (by rfl) S.tuple (by decide +kernel) (pa_cons (pv 1) pa_nil)) pa_nil)))))), ?_⟩
    refine ⟨_, rfl, _, rfl, l, _, rfl, .inl ⟨hl, fun p hp => ?_⟩⟩
    have sp := same_new (o := .tup (ks.map fun e => e.1)) hp
    intro x dx nx nd ne
    have s2 := sp.trans (same_ins (o := .own x) (u := .ins C dx []) nx nd)
    refine ⟨x, dx, p, "step", "", st, ks, rfl, upd_same, SqT.same (same_ins nx nd) (SqT.of upd_same), fun e he => (hk e he).same s2, .inr (hs.same s2), few, short, fun H' h k => ⟨rfl, ?_⟩⟩
    obtain ⟨s3, ex⟩ := ex_made nx nd (SqT.of (K := K) upd_same) (n := 1 + tot ks) (by show 0 + tot ks ≤ _; omega) (by have := ownS_le st; omega) h k
    exact q _ H' (sp.trans s3) ex
theorem two_tot (x y : V) (m n : Nat) : tot [(x, m), (y, n)] = m + n := by
  simp [tot]
theorem scLesser : FnScope ["left", "right"] ["left", "right"] (defScope sLesser) := ⟨rfl, rfl, rfl, by decide +kernel, rfl, by decide +kernel, by decide +kernel⟩
theorem ok_lesser {C cS fe fN fS f : Addr} {fde fdN fdS fd : FuncData} (S : Std mg) (X1 : ExMk K mg C cS fe fN fS fde fdN fdS) (F : Fun K "_lesser" "_lesser" sLesser f fd) : FnOk P w K mg base CX0 4 f fd ["left", "right"] (spTwo K C cS "lesser") := by
  have GE : FnOk P w K mg base CX0 2 fe fde ["self", "kind", "word", "step", "parts"] (spExInit K C cS) := ok_exInit S X1.cl X1.n X1.ne X1.clS X1.s1 X1.s2 X1.F X1.N X1.T
  refine F.ok scLesser (fun vs H Q E h => ?_) (fun cdv A outer s H vs Q E hr h => ?_)
  · obtain ⟨x, y, m, n, rfl, _⟩ := h
    rfl
  · obtain ⟨x0, y0, m, n, rfl, hx, hy, few, q⟩ := h
    refine ⟨_, pss_one (ps_ret (pe_make X1.M GE hr rfl X1.g X1.b .nil pass0 (pa_cons pe_str (pa_cons pe_str (pa_cons pe_non (pa_cons (pe_tup (pa_cons (pv 0) (pa_cons (pv 1) pa_nil))) pa_nil)))))), ?_⟩
    refine ⟨_, rfl, _, rfl, (by show 2 ≤ sizeLine; decide), fun p hp => ?_⟩
    have sp := same_new (o := .tup [x0, y0]) hp
    intro x dx nx nd ne
    have s2 := sp.trans (same_ins (o := .own x) (u := .ins C dx []) nx nd)
    refine ⟨x, dx, p, "lesser", "", .non, [(x0, m), (y0, n)], rfl, upd_same, SqT.same (same_ins nx nd) (SqT.of upd_same), fun e he => ?_, .inl rfl, by rw [two_tot]; exact few, (by show 2 < 64; decide), fun H' h k => ⟨rfl, ?_⟩⟩
    · rcases List.mem_cons.mp he with rfl | he
      · exact hx.same s2
      · rw [List.mem_singleton.mp he]
        exact hy.same s2
    obtain ⟨s3, ex⟩ := ex_made nx nd (SqT.of (K := K) upd_same) (n := 1 + (m + n)) (by rw [two_tot]; show 0 + (m + n) ≤ _; omega) (by rw [two_tot]; show 0 + (m + n) ≤ _; omega) h k
    exact q _ H' (sp.trans s3) ex
theorem scGreater : FnScope ["left", "right"] ["left", "right"] (defScope sGreater) := ⟨rfl, rfl, rfl, by decide +kernel, rfl, by decide +kernel, by decide +kernel⟩
theorem ok_greater {C cS fe fN fS f : Addr} {fde fdN fdS fd : FuncData} (S : Std mg) (X1 : ExMk K mg C cS fe fN fS fde fdN fdS) (F : Fun K "_greater" "_greater" sGreater f fd) : FnOk P w K mg base CX0 4 f fd ["left", "right"] (spTwo K C cS "greater") := by
  have GE : FnOk P w K mg base CX0 2 fe fde ["self", "kind", "word", "step", "parts"] (spExInit K C cS) := ok_exInit S X1.cl X1.n X1.ne X1.clS X1.s1 X1.s2 X1.F X1.N X1.T
  refine F.ok scGreater (fun vs H Q E h => ?_) (fun cdv A outer s H vs Q E hr h => ?_)
  · obtain ⟨x, y, m, n, rfl, _⟩ := h
    rfl
  · obtain ⟨x0, y0, m, n, rfl, hx, hy, few, q⟩ := h
    refine ⟨_, pss_one (ps_ret (pe_make X1.M GE hr rfl X1.g X1.b .nil pass0 (pa_cons pe_str (pa_cons pe_str (pa_cons pe_non (pa_cons (pe_tup (pa_cons (pv 0) (pa_cons (pv 1) pa_nil))) pa_nil)))))), ?_⟩
    refine ⟨_, rfl, _, rfl, (by show 2 ≤ sizeLine; decide), fun p hp => ?_⟩
    have sp := same_new (o := .tup [x0, y0]) hp
    intro x dx nx nd ne
    have s2 := sp.trans (same_ins (o := .own x) (u := .ins C dx []) nx nd)
    refine ⟨x, dx, p, "greater", "", .non, [(x0, m), (y0, n)], rfl, upd_same, SqT.same (same_ins nx nd) (SqT.of upd_same), fun e he => ?_, .inl rfl, by rw [two_tot]; exact few, (by show 2 < 64; decide), fun H' h k => ⟨rfl, ?_⟩⟩
    · rcases List.mem_cons.mp he with rfl | he
      · exact hx.same s2
      · rw [List.mem_singleton.mp he]
        exact hy.same s2
    obtain ⟨s3, ex⟩ := ex_made nx nd (SqT.of (K := K) upd_same) (n := 1 + (m + n)) (by rw [two_tot]; show 0 + (m + n) ≤ _; omega) (by rw [two_tot]; show 0 + (m + n) ≤ _; omega) h k
    exact q _ H' (sp.trans s3) ex
end
end LK

namespace LK
open PySem PySem.Spec PyProof.Rows L2
/-! ### the errors -/
def eN : Nat → Str
  | 0 => "InvalidStep"
  | 1 => "InvalidTrait"
  | 2 => "InvalidExpr"
  | 3 => "InvalidRow"
  | 4 => "InvalidText"
  | 5 => "InvalidWorld"
  | 6 => "InvalidStart"
  | 7 => "InvalidClaim"
  | 8 => "NoName"
  | 9 => "NoStep"
  | _ => "NoRow"
def eQ : Nat → Str
  | 0 => "InvalidStep.__init__"
  | 1 => "InvalidTrait.__init__"
  | 2 => "InvalidExpr.__init__"
  | 3 => "InvalidRow.__init__"
  | 4 => "InvalidText.__init__"
  | 5 => "InvalidWorld.__init__"
  | 6 => "InvalidStart.__init__"
  | 7 => "InvalidClaim.__init__"
  | 8 => "NoName.__init__"
  | 9 => "NoStep.__init__"
  | _ => "NoRow.__init__"
def eF : Nat → Str
  | 4 => "at"
  | 10 => "at"
  | 6 => "name"
  | 8 => "name"
  | 9 => "name"
  | _ => "word"
def eS (i : Nat) : Stmt := inClass (top (i + 2)) 0
/-- one of the errors that keep an argument -/
structure Er (K : PySem.W.Frag) (mg : Str → Option Value) (i : Nat) (C f : Addr) (fd : FuncData) : Prop where
  g : mg (eN i) = some (.ref C)
  T : OexC K C
  X : XfC K C
  E : ExcC K C
  ini : PySem.W.findIn K (.ref C) "__init__" = some (some (.ref f))
  ti : PySem.W.typeIn K (.ref f) = some (.type "function")
  F : Fun K "__init__" (eQ i) (eS i) f fd
  b : Binds K fd ["self", eF i] []
  no : PySem.W.findIn K (.ref C) (eF i) = some none
/-- one of the two that keep none -/
structure Er0 (K : PySem.W.Frag) (mg : Str → Option Value) (x : Str) (C : Addr) : Prop where
  g : mg x = some (.ref C)
  T : OexC K C
  E : ExcC K C
  ini : PySem.W.findIn K (.ref C) "__init__" = some (some (.builtin "ValueError.__init__"))
structure Errs (K : PySem.W.Frag) (mg : Str → Option Value) (C : Nat → Addr) (B : Addr) (f : Nat → Addr) (fd : Nat → FuncData) : Prop where
  er : ∀ i, i < 11 → Er K mg i (C i) (f i) (fd i)
  imp : Er0 K mg "Impossible" (C 11)
  base : Er0 K mg "WaysError" B
  k1 : ∀ i j, i < 12 → j < 12 → PySem.W.kitOne K (.ref (C i)) (.ref (C j)) = some (decide (i = j))
  k2 : ∀ j, j < 12 → PySem.W.kitOne K (.ref B) (.ref (C j)) = some false
  k3 : ∀ i, i < 12 → PySem.W.kitOne K (.ref (C i)) (.type "ValueError") = some true
  k4 : ∀ i, i < 12 → PySem.W.kitOne K (.ref (C i)) (.ref B) = some true
  k5 : PySem.W.kitOne K (.ref B) (.type "ValueError") = some true
/-- an error of the class C at a, that keeps v -/
def ErrAt (C : Addr) (x : Str) (H : Hp) (a : Addr) (v : V) : Prop := ∃ dx, H a = some (exo a C (some dx)) ∧ H dx = some (exd dx [(x, v)])
theorem ErrAt.same {C a : Addr} {x : Str} {H H' : Hp} {v : V} (s : Same H H') (h : ErrAt C x H a v) : ErrAt C x H' a v := by
  obtain ⟨dx, h1, h2⟩ := h
  exact ⟨dx, s _ _ h1, s _ _ h2⟩
def spErr (C : Addr) (x : Str) : Sp := fun vs H Q _ => ∃ (a : Addr) (v : V), vs = [.ref a, v] ∧ H a = some (exo a C none) ∧ ∀ H2, ErrAt C x H2 a v → Keep a H H2 → Q .non H2
theorem spErr_ret {C : Addr} {x : Str} : ∀ vs H Q, spErr C x vs H Q E0 → spErr C x vs H (fun v H' => v = .non ∧ Q v H') E0 := fun vs H Q h => by
  obtain ⟨a, v, e, ha, q⟩ := h
  exact ⟨a, v, e, ha, fun H2 h2 k => ⟨rfl, q H2 h2 k⟩⟩
theorem errV {C : Addr} {x : Str} {H : Hp} {v : V} {Q : Addr → Hp → Prop} (q : ∀ a H2, H a = none → ErrAt C x H2 a v → Same H H2 → Q a H2) : ([v] : List V).length ≤ 1000 ∧ ∀ a, H a = none → spErr C x (.ref a :: [v]) (upd H a (exo a C none)) (fun _ H2 => Q a H2) E0 :=
  ⟨by show 1 ≤ 1000; decide, fun a ha => ⟨a, v, rfl, upd_same, fun H2 e k => q a H2 ha e fun b o z => k b o (ne_of_none z ha) (by rw [upd_ne (ne_of_none z ha)]; exact z)⟩⟩
/-- a list by a comprehension over an enumerated list -/
theorem lc_enum {K : PySem.W.Frag} {a : Addr} {xs : List V} {g : TG} {tt : TT} {te : TE} {vs : List Nat} {σ : L2.St} {H1 : Hp} {D : Addr} {Qd : Hp → Prop} (Pv : Nat → Hp → Prop) (h0 : Pv 0 (upd H1 D (.lst []))) (hq : ∀ i H, Pv i H → SqL K H a xs)
    (hs : ∀ (i : Nat) (x : V) (T : Addr) (H : Hp), xs[i]? = some x → Pv i H → H T = none → g (.ref T) (wipe σ vs) (upd H T (.tup [.int (i : Nat), x])) fun σ2 H2 => wipe σ2 vs = wipe σ vs ∧ tt σ2 H2 fun b H3 =>
      if b = true then te σ2 H3 fun y H4 => ∃ acc, H4 D = some (.lst acc) ∧ acc.length < sizeLine ∧ Pv (i + 1) (upd H4 D (.lst (acc ++ [y]))) else Pv (i + 1) H3) (hd : ∀ H, Pv xs.length H → Qd H) :
    ∃ W : Nat → Nat → Hp → Prop, (∃ m, W 0 m (upd H1 D (.lst []))) ∧ ∀ i m H, W i m H →
      ((Ite K a).stop i H ∧ Qd H) ∨ ((Ite K a).go i H ∧ ∃ Nx : Hp → Prop, (∀ H', Nx H' → ∃ m', m' < m ∧ W (i + 1) m' H') ∧ ∀ x H', (Ite K a).yld i H x H' → g x (wipe σ vs) H' fun σ2 H2 => wipe σ2 vs = wipe σ vs ∧ tt σ2 H2 fun b H3 =>
        if b = true then te σ2 H3 fun y H4 => ∃ acc, H4 D = some (.lst acc) ∧ acc.length < sizeLine ∧ Nx (upd H4 D (.lst (acc ++ [y]))) else Nx H3) := by
  refine ⟨fun i m H => m + i = xs.length ∧ Pv i H, ⟨xs.length, rfl, h0⟩, fun i m H w => ?_⟩
  obtain ⟨e, p⟩ := w
  have q := hq i H p
  by_cases lt : i < xs.length
  · refine .inr ⟨⟨xs, xs[i], q, by simp [lt]⟩, Pv (i + 1), fun H' p' => ⟨m - 1, by omega, by omega, p'⟩, fun v H' y => ?_⟩
    obtain ⟨T, x, rfl, hT, rfl, hx⟩ := y
    exact hs i x T H (hx xs q) p hT
  · refine .inl ⟨⟨xs, q, by omega⟩, hd H ?_⟩
    rw [show xs.length = i by omega]
    exact p
/-- where the trues stand -/
def ix : List Bool → Nat → List Int
  | [], _ => []
  | b :: r, i => (if b = true then [(i : Int)] else []) ++ ix r (i + 1)
theorem ix_add : ∀ (bs : List Bool) (b : Bool) (i : Nat), ix (bs ++ [b]) i = ix bs i ++ (if b = true then [((i + bs.length : Nat) : Int)] else [])
  | [], b, i => by
    show (if b = true then [(i : Int)] else []) ++ [] = [] ++ _
    rw [List.append_nil, List.nil_append]
    rfl
  | c :: r, b, i => by
    show (if c = true then [(i : Int)] else []) ++ ix (r ++ [b]) (i + 1) = ((if c = true then [(i : Int)] else []) ++ ix r (i + 1)) ++ _
    rw [ix_add r b (i + 1), List.append_assoc, List.length_cons, show i + 1 + r.length = i + (r.length + 1) by omega]
theorem ix_len : ∀ (bs : List Bool) (i : Nat), (ix bs i).length ≤ bs.length
  | [], _ => Nat.le_refl _
  | c :: r, i => by
    show ((if c = true then [(i : Int)] else []) ++ ix r (i + 1)).length ≤ r.length + 1
    rw [List.length_append]
    have := ix_len r (i + 1)
    cases c <;> simp <;> omega
def spRef (K : PySem.W.Frag) (C : Nat → Addr) : Sp := fun vs H Q _ => ∃ (a D : Addr) (d : Option Addr) (b : Nat → Bool), vs = [.ref a] ∧ H a = some (exo a D d) ∧ (∀ dx, d = some dx → ∃ fs, H dx = some (exd dx fs)) ∧ ExcC K D ∧ (∀ j, j < 12 → PySem.W.kitOne K (.ref D) (.ref (C j)) = some (b j)) ∧
  ∀ p H', Same H H' → H' p = some (.lst ((ix ((List.range 12).map b) 0).map V.int)) → Q (.ref p) H'
section
variable {P : Program} {w : World} {K : PySem.W.Frag} {mg : Str → Option Value} {base : Heap}
theorem scErr0 : FnScope ["self", "word"] ["self", "word"] (defScope (eS 0)) := ⟨rfl, rfl, rfl, by decide +kernel, rfl, by decide +kernel, by decide +kernel⟩
theorem scErr1 : FnScope ["self", "word"] ["self", "word"] (defScope (eS 1)) := ⟨rfl, rfl, rfl, by decide +kernel, rfl, by decide +kernel, by decide +kernel⟩
theorem scErr2 : FnScope ["self", "word"] ["self", "word"] (defScope (eS 2)) := ⟨rfl, rfl, rfl, by decide +kernel, rfl, by decide +kernel, by decide +kernel⟩
theorem scErr3 : FnScope ["self", "word"] ["self", "word"] (defScope (eS 3)) := ⟨rfl, rfl, rfl, by decide +kernel, rfl, by decide +kernel, by decide +kernel⟩
theorem scErr4 : FnScope ["self", "at"] ["self", "at"] (defScope (eS 4)) := ⟨rfl, rfl, rfl, by decide +kernel, rfl, by decide +kernel, by decide +kernel⟩
theorem scErr5 : FnScope ["self", "word"] ["self", "word"] (defScope (eS 5)) := ⟨rfl, rfl, rfl, by decide +kernel, rfl, by decide +kernel, by decide +kernel⟩
theorem scErr6 : FnScope ["self", "name"] ["self", "name"] (defScope (eS 6)) := ⟨rfl, rfl, rfl, by decide +kernel, rfl, by decide +kernel, by decide +kernel⟩
theorem scErr7 : FnScope ["self", "word"] ["self", "word"] (defScope (eS 7)) := ⟨rfl, rfl, rfl, by decide +kernel, rfl, by decide +kernel, by decide +kernel⟩
theorem scErr8 : FnScope ["self", "name"] ["self", "name"] (defScope (eS 8)) := ⟨rfl, rfl, rfl, by decide +kernel, rfl, by decide +kernel, by decide +kernel⟩
theorem scErr9 : FnScope ["self", "name"] ["self", "name"] (defScope (eS 9)) := ⟨rfl, rfl, rfl, by decide +kernel, rfl, by decide +kernel, by decide +kernel⟩
theorem scErr10 : FnScope ["self", "at"] ["self", "at"] (defScope (eS 10)) := ⟨rfl, rfl, rfl, by decide +kernel, rfl, by decide +kernel, by decide +kernel⟩
theorem err_put {C a : Addr} {x : Str} {H : Hp} {v : V} {Q : VK} (ha : H a = some (exo a C none)) (q : ∀ H2, ErrAt C x H2 a v → Keep a H H2 → Q .non H2) (dx : Addr) (hdx : H dx = none) (ne : dx ≠ a) : Q .non (upd (upd H dx (exd dx [(x, v)])) a (exo a C (some dx))) := by
  refine q _ ⟨dx, upd_same, ?_⟩ fun b o n e => ?_
  · rw [upd_ne ne]
    exact upd_same
  · rw [upd_ne n, upd_ne (ne_of_none e hdx)]
    exact e
theorem ok_err0 {C f : Addr} {fd : FuncData} (e : Er K mg 0 C f fd) : FnOk P w K mg base CX0 1 f fd ["self", "word"] (spErr C "word") := by
  refine e.F.ok scErr0 (fun vs H Q E h => ?_) (fun cdv A outer s H vs Q E hr h => ?_)
  · obtain ⟨_, _, rfl, _⟩ := h
    rfl
  · obtain ⟨a, v, rfl, ha, q⟩ := h
    exact ⟨_, pss_one (ps_ost (pv 0) (pv 1)), _, rfl, _, rfl, a, C, rfl, e.T, e.no, .inl ⟨ha, err_put ha q⟩⟩
theorem ok_err1 {C f : Addr} {fd : FuncData} (e : Er K mg 1 C f fd) : FnOk P w K mg base CX0 1 f fd ["self", "word"] (spErr C "word") := by
  refine e.F.ok scErr1 (fun vs H Q E h => ?_) (fun cdv A outer s H vs Q E hr h => ?_)
  · obtain ⟨_, _, rfl, _⟩ := h
    rfl
  · obtain ⟨a, v, rfl, ha, q⟩ := h
    exact ⟨_, pss_one (ps_ost (pv 0) (pv 1)), _, rfl, _, rfl, a, C, rfl, e.T, e.no, .inl ⟨ha, err_put ha q⟩⟩
theorem ok_err2 {C f : Addr} {fd : FuncData} (e : Er K mg 2 C f fd) : FnOk P w K mg base CX0 1 f fd ["self", "word"] (spErr C "word") := by
  refine e.F.ok scErr2 (fun vs H Q E h => ?_) (fun cdv A outer s H vs Q E hr h => ?_)
  · obtain ⟨_, _, rfl, _⟩ := h
    rfl
  · obtain ⟨a, v, rfl, ha, q⟩ := h
    exact ⟨_, pss_one (ps_ost (pv 0) (pv 1)), _, rfl, _, rfl, a, C, rfl, e.T, e.no, .inl ⟨ha, err_put ha q⟩⟩
theorem ok_err3 {C f : Addr} {fd : FuncData} (e : Er K mg 3 C f fd) : FnOk P w K mg base CX0 1 f fd ["self", "word"] (spErr C "word") := by
  refine e.F.ok scErr3 (fun vs H Q E h => ?_) (fun cdv A outer s H vs Q E hr h => ?_)
  · obtain ⟨_, _, rfl, _⟩ := h
    rfl
  · obtain ⟨a, v, rfl, ha, q⟩ := h
    exact ⟨_, pss_one (ps_ost (pv 0) (pv 1)), _, rfl, _, rfl, a, C, rfl, e.T, e.no, .inl ⟨ha, err_put ha q⟩⟩
theorem ok_err4 {C f : Addr} {fd : FuncData} (e : Er K mg 4 C f fd) : FnOk P w K mg base CX0 1 f fd ["self", "at"] (spErr C "at") := by
  refine e.F.ok scErr4 (fun vs H Q E h => ?_) (fun cdv A outer s H vs Q E hr h => ?_)
  · obtain ⟨_, _, rfl, _⟩ := h
    rfl
  · obtain ⟨a, v, rfl, ha, q⟩ := h
    exact ⟨_, pss_one (ps_ost (pv 0) (pv 1)), _, rfl, _, rfl, a, C, rfl, e.T, e.no, .inl ⟨ha, err_put ha q⟩⟩
theorem ok_err5 {C f : Addr} {fd : FuncData} (e : Er K mg 5 C f fd) : FnOk P w K mg base CX0 1 f fd ["self", "word"] (spErr C "word") := by
  refine e.F.ok scErr5 (fun vs H Q E h => ?_) (fun cdv A outer s H vs Q E hr h => ?_)
  · obtain ⟨_, _, rfl, _⟩ := h
    rfl
  · obtain ⟨a, v, rfl, ha, q⟩ := h
    exact ⟨_, pss_one (ps_ost (pv 0) (pv 1)), _, rfl, _, rfl, a, C, rfl, e.T, e.no, .inl ⟨ha, err_put ha q⟩⟩
theorem ok_err6 {C f : Addr} {fd : FuncData} (e : Er K mg 6 C f fd) : FnOk P w K mg base CX0 1 f fd ["self", "name"] (spErr C "name") := by
  refine e.F.ok scErr6 (fun vs H Q E h => ?_) (fun cdv A outer s H vs Q E hr h => ?_)
  · obtain ⟨_, _, rfl, _⟩ := h
    rfl
  · obtain ⟨a, v, rfl, ha, q⟩ := h
    exact ⟨_, pss_one (ps_ost (pv 0) (pv 1)), _, rfl, _, rfl, a, C, rfl, e.T, e.no, .inl ⟨ha, err_put ha q⟩⟩
theorem ok_err7 {C f : Addr} {fd : FuncData} (e : Er K mg 7 C f fd) : FnOk P w K mg base CX0 1 f fd ["self", "word"] (spErr C "word") := by
  refine e.F.ok scErr7 (fun vs H Q E h => ?_) (fun cdv A outer s H vs Q E hr h => ?_)
  · obtain ⟨_, _, rfl, _⟩ := h
    rfl
  · obtain ⟨a, v, rfl, ha, q⟩ := h
    exact ⟨_, pss_one (ps_ost (pv 0) (pv 1)), _, rfl, _, rfl, a, C, rfl, e.T, e.no, .inl ⟨ha, err_put ha q⟩⟩
theorem ok_err8 {C f : Addr} {fd : FuncData} (e : Er K mg 8 C f fd) : FnOk P w K mg base CX0 1 f fd ["self", "name"] (spErr C "name") := by
  refine e.F.ok scErr8 (fun vs H Q E h => ?_) (fun cdv A outer s H vs Q E hr h => ?_)
  · obtain ⟨_, _, rfl, _⟩ := h
    rfl
  · obtain ⟨a, v, rfl, ha, q⟩ := h
    exact ⟨_, pss_one (ps_ost (pv 0) (pv 1)), _, rfl, _, rfl, a, C, rfl, e.T, e.no, .inl ⟨ha, err_put ha q⟩⟩
theorem ok_err9 {C f : Addr} {fd : FuncData} (e : Er K mg 9 C f fd) : FnOk P w K mg base CX0 1 f fd ["self", "name"] (spErr C "name") := by
  refine e.F.ok scErr9 (fun vs H Q E h => ?_) (fun cdv A outer s H vs Q E hr h => ?_)
  · obtain ⟨_, _, rfl, _⟩ := h
    rfl
  · obtain ⟨a, v, rfl, ha, q⟩ := h
    exact ⟨_, pss_one (ps_ost (pv 0) (pv 1)), _, rfl, _, rfl, a, C, rfl, e.T, e.no, .inl ⟨ha, err_put ha q⟩⟩
theorem ok_err10 {C f : Addr} {fd : FuncData} (e : Er K mg 10 C f fd) : FnOk P w K mg base CX0 1 f fd ["self", "at"] (spErr C "at") := by
  refine e.F.ok scErr10 (fun vs H Q E h => ?_) (fun cdv A outer s H vs Q E hr h => ?_)
  · obtain ⟨_, _, rfl, _⟩ := h
    rfl
  · obtain ⟨a, v, rfl, ha, q⟩ := h
    exact ⟨_, pss_one (ps_ost (pv 0) (pv 1)), _, rfl, _, rfl, a, C, rfl, e.T, e.no, .inl ⟨ha, err_put ha q⟩⟩
end
end LK

namespace LK
open PySem PySem.Spec PyProof.Rows L2
/-! ### which values are names, which ways -/
def lowB (z : Str) : Bool := z.cps.toList.all fun c => decide (c ∈ letters.cps.toList)
def keptW : List V := [.str "if", .str "else", .str "end"]
def nameB : V → Bool
  | .str z => decide ((1 : Int) ≤ z.length) && (decide ((z.length : Int) ≤ 4) && (!inV (.str z) keptW && lowB z))
  | _ => false
def signB (z : Str) : Bool := z.cps.toList.all fun c => decide (c ∈ ("+-?" : Str).cps.toList)
def waysB : V → Bool
  | .str z => decide ((1 : Int) ≤ z.length) && (decide ((z.length : Int) ≤ 3) && signB z)
  | _ => false
/-- whether a value is a text is known -/
def Seen (K : PySem.W.Frag) (H : Hp) (v : V) : Prop := (∃ z : Str, v = .str z ∧ z.length ≤ 1000) ∨ ((∀ z, v ≠ .str z) ∧ ∃ t, TyX K H v t ∧ PySem.W.kitOne K t (.type "str") = some false)
theorem nameB_not {v : V} (h : ∀ z, v ≠ .str z) : nameB v = false := by
  cases v <;> first | rfl | exact absurd rfl (h _)
theorem waysB_not {v : V} (h : ∀ z, v ≠ .str z) : waysB v = false := by
  cases v <;> first | rfl | exact absurd rfl (h _)
def spIsB (K : PySem.W.Frag) (b : V → Bool) : Sp := fun vs H Q _ => ∃ v, vs = [v] ∧ Seen K H v ∧ ∀ H', Same H H' → Q (.bl (b v)) H'
section
variable {P : Program} {w : World} {K : PySem.W.Frag} {mg : Str → Option Value} {base : Heap}
theorem take_bl {z : Str} {f : Nat → Bool} {i c : Nat} (hc : z.cps[i]? = some c) : ((z.cps.toList.take (i + 1)).map fun c => V.bl (f c)) = ((z.cps.toList.take i).map fun c => V.bl (f c)) ++ [V.bl (f c)] := by
  have e : z.cps.toList[i]? = some c := by simpa using hc
  rw [List.take_add_one, e, List.map_append]
  rfl
theorem ok_isNameV {f kw : Addr} {fd : FuncData} (S : Std mg) (W : Words K mg kw) (F : Fun K "is_name" "is_name" sIsName f fd) : FnOk P w K mg base CX0 1 f fd ["value"] (spIsB K nameB) := by
  refine F.ok scIs (fun vs H Q E h => ?_) (fun cdv A outer s H vs Q E hr h => ?_)
  · obtain ⟨v, rfl, _⟩ := h
    rfl
  · obtain ⟨v, rfl, seen, q⟩ := h
    obtain ⟨t1, m1⟩ := W.longest
    obtain ⟨t2, m2⟩ := W.letters
    refine ⟨_, pss_cons (ps_if (PW.pt (pw_or (pt_not (pt_val (pe_callB call_isi (by rfl) S.isi (by decide +kernel) (pa_cons (pv 0) (pa_cons (pe_bltn (v := .ty "str") (by rfl) S.str (by decide +kernel) rfl) pa_nil)))))
          (pw_or1 (pt_not (pt_chain op_le op_le pe_int (pe_callB call_len (by rfl) S.len PySem.boot_len (pa_cons (pv 0) pa_nil)) (pe_glob (v := .int 4) rfl m1 ⟨_, rfl⟩))))))
        (pss_one (ps_ret pe_bl)) pss_nil)
      (pss_one (ps_ret (pe_and (pe_cmpR op_notIn_seq (pv 0) (pe_glob (v := .ref kw) rfl W.kept rfl) (by rfl))
        (pe_one (pe_callB (cr_all rfl) (by rfl) S.all (by decide +kernel) (pa_cons (pe_lc (own := [("letter", 1)]) (g := gName 1) (tt := tYes) rfl scIs.nd
            (pi_str (pv 0)) (blkOk_by (N := nIs) (sc := defScope sIsName) (by decide +kernel)) (fun _ _ _ _ _ => pg_name (i := 1) scIs.nd rfl (Or.inl rfl)) (fun _ _ _ _ _ => pts_nil)
            (fun _ _ _ _ _ => pe_cmpR op_in_sign (pv 1) (pe_glob (v := .str letters) rfl m2 ⟨_, rfl⟩) (by rfl))) pa_nil)))))), ?_⟩
    rcases seen with ⟨z, rfl, len⟩ | ⟨no, t, ty, kt⟩
    · have zl : z.length = z.cps.size := rfl
      refine ⟨_, rfl, _, _, _, _, true, rfl, .ty "str", .base (.str z), kit_ty (by decide +kernel), true, rfl, iteF ?_⟩
      refine ⟨_, rfl, _, z.length, rfl, ⟨by rw [sizeLine_eq]; omega, rfl⟩, _, _, rfl, rfl, _, rfl, ?_⟩
      have ans : ∀ {b : Bool} {H'}, nameB (.str z) = b → Same H H' → Q (.bl b) H' := fun e s => by rw [← e]; exact q _ s
      by_cases h1 : (1 : Int) ≤ z.length
      · rw [decide_eq_true h1]
        refine iteT ⟨_, _, rfl, rfl, _, rfl, ?_⟩
        by_cases h4 : (z.length : Int) ≤ 4
        · rw [decide_eq_true h4]
          refine iteF ⟨_, rfl, kw, _, rfl, .inr (W.tup H), rfl, by decide +kernel, ?_⟩
          rw [if_pos rfl]
          refine ⟨_, rfl, ite2 (fun hk => ?_) (fun hk => ?_)⟩
          · refine ⟨_, rfl, z, rfl, fun D hD => lc_str (fun i H4 => Keep D H H4 ∧ H4 D = some (.lst ((z.cps.toList.take i).map fun c => V.bl (decide (c ∈ letters.cps.toList))))) ⟨Keep.new hD, upd_same⟩ (fun i c H4 hc ⟨k4, d4⟩ => ?_) (fun H4 ⟨k4, d4⟩ => ?_)⟩
            · have lt : i < z.cps.size := (Array.getElem?_eq_some_iff.mp hc).1
              refine ⟨rfl, _, rfl, c, letters, rfl, rfl, _, d4, ?_, fun b o n e => ?_, ?_⟩
              · rw [List.length_map, List.length_take]
                exact small1000 (by omega)
              · rw [upd_ne n]
                exact k4 b o n e
              · rw [upd_same, take_bl hc]
            · refine ⟨D, (z.cps.toList.map fun c => decide (c ∈ letters.cps.toList)), rfl, SqL.of ?_, ?_⟩
              · rw [d4, List.map_map, show z.cps.size = z.cps.toList.length by simp, List.take_length]
                rfl
              · refine ans ?_ fun b o e => k4 b o (ne_of_none e hD) e
                have hk' : inV (.str z) keptW = false := by unfold keptW; simpa using hk
                show (decide ((1 : Int) ≤ z.length) && (decide ((z.length : Int) ≤ 4) && (!inV (.str z) keptW && lowB z))) = _
                rw [decide_eq_true h1, decide_eq_true h4, hk']
                simp [lowB, List.all_map, Function.comp_def]
          · refine ans ?_ fun _ _ e => e
            have hk' : inV (.str z) keptW = true := by unfold keptW; simpa using hk
            show (decide ((1 : Int) ≤ z.length) && (decide ((z.length : Int) ≤ 4) && (!inV (.str z) keptW && lowB z))) = _
            rw [hk']
            simp
        · rw [decide_eq_false h4]
          refine iteT (ans ?_ fun _ _ e => e)
          show (decide ((1 : Int) ≤ z.length) && (decide ((z.length : Int) ≤ 4) && (!inV (.str z) keptW && lowB z))) = _
          rw [decide_eq_false h4]
          simp
      · rw [decide_eq_false h1]
        refine iteF ⟨_, rfl, iteT (ans ?_ fun _ _ e => e)⟩
        show (decide ((1 : Int) ≤ z.length) && (decide ((z.length : Int) ≤ 4) && (!inV (.str z) keptW && lowB z))) = _
        rw [decide_eq_false h1]
        rfl
    · refine ⟨_, rfl, _, _, _, _, false, rfl, .ty "str", ty, kt, false, rfl, iteT ?_⟩
      have e := nameB_not no
      have z := q H fun _ _ e => e
      rw [e] at z
      exact z
theorem ok_areWaysV {f : Addr} {fd : FuncData} {t1 t2 : Tok} (S : Std mg) (m1 : mg "MOST_ARGUMENTS" = some (.int 3 t1)) (m2 : mg "WAYS" = some (.str "+-?" t2)) (F : Fun K "_are_ways" "_are_ways" sAreWays f fd) : FnOk P w K mg base CX0 1 f fd ["value"] (spIsB K waysB) := by
  refine F.ok scWaysOk (fun vs H Q E h => ?_) (fun cdv A outer s H vs Q E hr h => ?_)
  · obtain ⟨v, rfl, _⟩ := h
    rfl
  · obtain ⟨v, rfl, seen, q⟩ := h
    refine ⟨_, pss_cons (ps_if (PW.pt (pw_or (pt_not (pt_val (pe_callB call_isi (by rfl) S.isi (by decide +kernel) (pa_cons (pv 0) (pa_cons (pe_bltn (v := .ty "str") (by rfl) S.str (by decide +kernel) rfl) pa_nil)))))
          (pw_or1 (pt_not (pt_chain op_le op_le pe_int (pe_callB call_len (by rfl) S.len PySem.boot_len (pa_cons (pv 0) pa_nil)) (pe_glob (v := .int 3) rfl m1 ⟨_, rfl⟩))))))
        (pss_one (ps_ret pe_bl)) pss_nil)
      (pss_one (ps_ret (pe_callB (cr_all rfl) (by rfl) S.all (by decide +kernel) (pa_cons (pe_lc (own := [("way", 1)]) (g := gName 1) (tt := tYes) rfl scWaysOk.nd
            (pi_str (pv 0)) (blkOk_by (N := ["value", "way"]) (sc := defScope sAreWays) (by decide +kernel)) (fun _ _ _ _ _ => pg_name (i := 1) scWaysOk.nd rfl (Or.inl rfl)) (fun _ _ _ _ _ => pts_nil)
            (fun _ _ _ _ _ => pe_cmpR op_in_sign (pv 1) (pe_glob (v := .str "+-?") rfl m2 ⟨_, rfl⟩) (by rfl))) pa_nil)))), ?_⟩
    rcases seen with ⟨z, rfl, len⟩ | ⟨no, t, ty, kt⟩
    · have zl : z.length = z.cps.size := rfl
      refine ⟨_, rfl, _, _, _, _, true, rfl, .ty "str", .base (.str z), kit_ty (by decide +kernel), true, rfl, iteF ?_⟩
      refine ⟨_, rfl, _, z.length, rfl, ⟨by rw [sizeLine_eq]; omega, rfl⟩, _, _, rfl, rfl, _, rfl, ?_⟩
      have ans : ∀ {b : Bool} {H'}, waysB (.str z) = b → Same H H' → Q (.bl b) H' := fun e s => by rw [← e]; exact q _ s
      by_cases h1 : (1 : Int) ≤ z.length
      · rw [decide_eq_true h1]
        refine iteT ⟨_, _, rfl, rfl, _, rfl, ?_⟩
        by_cases h4 : (z.length : Int) ≤ 3
        · rw [decide_eq_true h4]
          refine iteF ⟨_, rfl, z, rfl, fun D hD => lc_str (fun i H4 => Keep D H H4 ∧ H4 D = some (.lst ((z.cps.toList.take i).map fun c => V.bl (decide (c ∈ ("+-?" : Str).cps.toList))))) ⟨Keep.new hD, upd_same⟩ (fun i c H4 hc ⟨k4, d4⟩ => ?_) (fun H4 ⟨k4, d4⟩ => ?_)⟩
          · have lt : i < z.cps.size := (Array.getElem?_eq_some_iff.mp hc).1
            refine ⟨rfl, _, rfl, c, "+-?", rfl, rfl, _, d4, ?_, fun b o n e => ?_, ?_⟩
            · rw [List.length_map, List.length_take]
              exact small1000 (by omega)
            · rw [upd_ne n]
              exact k4 b o n e
            · rw [upd_same, take_bl hc]
          · refine ⟨D, (z.cps.toList.map fun c => decide (c ∈ ("+-?" : Str).cps.toList)), rfl, SqL.of ?_, ?_⟩
            · rw [d4, List.map_map, show z.cps.size = z.cps.toList.length by simp, List.take_length]
              rfl
            · refine ans ?_ fun b o e => k4 b o (ne_of_none e hD) e
              show (decide ((1 : Int) ≤ z.length) && (decide ((z.length : Int) ≤ 3) && signB z)) = _
              rw [decide_eq_true h1, decide_eq_true h4]
              simp [signB, List.all_map, Function.comp_def]
        · rw [decide_eq_false h4]
          refine iteT (ans ?_ fun _ _ e => e)
          show (decide ((1 : Int) ≤ z.length) && (decide ((z.length : Int) ≤ 3) && signB z)) = _
          rw [decide_eq_false h4]
          simp
      · rw [decide_eq_false h1]
        refine iteF ⟨_, rfl, iteT (ans ?_ fun _ _ e => e)⟩
        show (decide ((1 : Int) ≤ z.length) && (decide ((z.length : Int) ≤ 3) && signB z)) = _
        rw [decide_eq_false h1]
        rfl
    · refine ⟨_, rfl, _, _, _, _, false, rfl, .ty "str", ty, kt, false, rfl, iteT ?_⟩
      have z := q H fun _ _ e => e
      rw [waysB_not no] at z
      exact z
end
end LK

/-! x & y, x | y by the methods of an own class, the other operand of this class or a text -/
namespace LR
open PySem PySem.W PySem.Calls PySem.Spec PyProof.Rows
theorem none_fill {T nm : String} (h1 : typeLookup (.type T) (dunder nm) = pure none) (h2 : typeLookup (.type T) (dunderR nm) = pure none) : fillsNumberSlot (.type T) nm = pure false := by
  simp only [fillsNumberSlot, h1, h2, pure_bind]
  rfl
theorem str_and : fillsNumberSlot (.type "str") "and" = pure false := none_fill (by rw [typeLookup_type, builtinLookup_eq_fast]; kernel_rfl) (by rw [typeLookup_type, builtinLookup_eq_fast]; kernel_rfl)
theorem str_or : fillsNumberSlot (.type "str") "or" = pure false := none_fill (by rw [typeLookup_type, builtinLookup_eq_fast]; kernel_rfl) (by rw [typeLookup_type, builtinLookup_eq_fast]; kernel_rfl)
section
variable {prog : Program} {w : World} {A : Around} {E : Value → Shared → Prop} {s : Shared} {K : Frag} {x C L f : Addr} {h₀ : Heap} {m : Str → Option Value} {ox : Obj} {od : Option Obj} {op : Operator} {z : Str} {t : Tok}
theorem head_self {K : Frag} {C : Addr} (h : selfFirst K C = true) : ∃ cd rest, clsIn K C = some cd ∧ cd.mro = .ref C :: rest := by
  obtain ⟨cd, e, q⟩ := any_some h
  cases r : cd.mro with
  | nil =>
    rw [r] at q
    cases q
  | cons c l =>
    rw [r, List.head?_cons] at q
    cases beq_iff_eq.mp q
    exact ⟨cd, l, e, r⟩
/-- own object, then a text -/
theorem bin1_text {nm : String} {Q : Option Value → Shared → Prop} (F : Fr h₀ L s.heap m) (X₀ : K.In h₀) (I : InstAt s.heap x ox C od) (hc : selfFirst K C = true) (no : fillsNumberSlot (.type "str") nm = pure false) (hs : findIn K (.ref C) (PySem.dunder nm) = some (some (.ref f))) (hf : isFn K (.ref f) = true)
    (h : wpAny (model prog w) A (call (.ref f) [.ref x, .str z t]) (W.CmpBack fun v => Q (some v)) E s) : wpAny (model prog w) A (binaryOp1 nm (.ref x) (.str z t)) Q E s := by
  have X := X₀.keeps F.keep
  obtain ⟨cd, rest, e1, e2⟩ := head_self hc
  unfold binaryOp1
  refine wpAny_bind (I.type.here (wpAny_bind (wpAny_pure (wpAny_bind ((fills_K X e1 e2 hs).here ?_)))))
  rw [if_neg (by simp), no]
  refine wpAny_bind (wpAny_pure ?_)
  simp only [Bool.and_false, Bool.false_and, Bool.false_eq_true, if_false, if_true]
  refine wpAny_bind (wpAny_pure ?_)
  simp only [Bool.false_eq_true, if_false]
  refine wpAny_bind (m := tryMethod (.ref x) _ (.str z t)) ?_
  unfold tryMethod
  refine wpAny_bind (special_fn X I hs (beq_iff_eq.mp hf) (wpAny_mono h (fun v s' hv => ?_) fun _ _ e => e))
  cases v <;> first | exact hv.elim | exact wpAny_pure (wpAny_pure hv)
/-- a text, then an own object -/
theorem text_bin1 {nm : String} {Q : Option Value → Shared → Prop} (F : Fr h₀ L s.heap m) (X₀ : K.In h₀) (I : InstAt s.heap x ox C od) (hc : selfFirst K C = true) (no : fillsNumberSlot (.type "str") nm = pure false) {g : Addr} (hs : findIn K (.ref C) (PySem.dunder nm) = some (some (.ref g))) (hr : findIn K (.ref C) (PySem.dunderR nm) = some (some (.ref f))) (hf : isFn K (.ref f) = true)
    (h : wpAny (model prog w) A (call (.ref f) [.ref x, .str z t]) (W.CmpBack fun v => Q (some v)) E s) : wpAny (model prog w) A (binaryOp1 nm (.str z t) (.ref x)) Q E s := by
  have X := X₀.keeps F.keep
  obtain ⟨cd, rest, e1, e2⟩ := head_self hc
  unfold binaryOp1
  refine wpAny_bind (wpAny_pure (wpAny_bind (I.type.here ?_)))
  rw [no]
  refine wpAny_bind (wpAny_pure ?_)
  rw [if_neg (by simp)]
  refine wpAny_bind ((fills_K X e1 e2 hs).here ?_)
  simp only [Bool.and_true, Bool.false_and, Bool.false_eq_true, if_false, if_true, Bool.not_false]
  refine wpAny_bind (wpAny_pure ?_)
  simp only [Bool.false_eq_true, if_false]
  refine wpAny_bind (m := tryMethod (.ref x) _ (.str z t)) ?_
  unfold tryMethod
  refine wpAny_bind (special_fn X I hr (beq_iff_eq.mp hf) (wpAny_mono h (fun v s' hv => ?_) fun _ _ e => e))
  cases v <;> first | exact hv.elim | exact wpAny_pure (wpAny_bind (wpAny_rule (wpAny_pure hv)))
theorem bin_of1 {a b : Value} {Q : Value → Shared → Prop} (h : wpAny (model prog w) A (binaryOp1 op.info.2 a b) (fun v s' => ∃ u, v = some u ∧ Q u s') E s) : wpAny (model prog w) A (binaryOp op a b) Q E s := by
  unfold binaryOp
  apply wpAny_holding
  refine wpAny_bind (m := binaryOp1 op.info.2 a b) (wpAny_mono h (fun v s' hv => ?_) fun _ _ e => e)
  obtain ⟨u, rfl, q⟩ := hv
  exact wpAny_pure q
end
end LR

namespace LR
open PySem PySem.Spec PyProof.Rows L2
section
variable {X : Cx} {CX : CXT} {n : Nat} {f C : Addr} {fd : FuncData} {ps : List Str} {sp : Sp} {E : XK} {op : Operator}
/-- an object of the class C stands at v -/
def AnIns (C : Addr) (H : Hp) (v : V) : Prop := ∃ b dx fs, v = .ref b ∧ H b = some (.ins C dx fs)
/-- x op y by an own method, y of the same class or a text -/
theorem op_binOwn (F : FnOk X.prog X.w X.K X.mg X.base CX n f fd ps sp) (hc : PySem.W.selfFirst X.K C = true) (no : fillsNumberSlot (.type "str") op.info.2 = pure false) (hs : PySem.W.findIn X.K (.ref C) (PySem.dunder op.info.2) = some (some (.ref f))) (hf : PySem.W.isFn X.K (.ref f) = true)
    (hb : Binds X.K fd ps []) (hx : Passes CX X E) (hr : Room n X.A) :
    OpR X (binaryOp op) (fun x y H Q => AnIns C H x ∧ ((∃ z, y = V.str z) ∨ AnIns C H y) ∧ sp [x, y] H (fun v H' => (∃ r, v = V.ref r) ∧ Q v H') E) := by
  intro pins s σ H x y v u Q I rx ry h
  obtain ⟨⟨a, dx, fs, rfl, ha⟩, hy, h⟩ := h
  cases rx
  obtain ⟨mA, J, _⟩ := ins_get I.hok ha
  obtain ⟨od, J, _⟩ := J.look
  obtain ⟨m, hF⟩ := I.fr
  have run : wpAny (model X.prog X.w) X.A (call (.ref f) [.ref a, u]) (fun w' s' => ∃ r, w' = Value.ref r ∧ EP X pins σ Q w' s') X.xe s := by
    refine wpAny_mono (call_run (A := X.A) ⟨hr, rfl⟩ F hb hx I (.cons (show RelV (V.ref a) (Value.ref a) from rfl) (.cons ry .nil)) h) (fun v s' q => ?_) fun _ _ z => z
    obtain ⟨y', H', I', ry', ⟨r, rfl⟩, q⟩ := q
    cases ry'
    exact ⟨r, rfl, .ref r, H', I', rfl, q⟩
  rcases hy with ⟨z, rfl⟩ | ⟨b, dx', fs', rfl, hb'⟩
  · obtain ⟨t, rfl⟩ := ry
    refine bin_of1 (bin1_text hF I.ok.mod.kin J hc no hs hf (wpAny_mono run (fun v s' q => ?_) fun _ _ z => z))
    obtain ⟨r, rfl, q⟩ := q
    exact ⟨_, rfl, q⟩
  · cases ry
    obtain ⟨mB, J2, _⟩ := ins_get I.hok hb'
    obtain ⟨od2, J2, _⟩ := J2.look
    refine PySem.W.binop_K hF I.ok.mod.kin J J2.type hc hs hf (wpAny_mono run (fun v s' q => ?_) fun _ _ z => z)
    obtain ⟨r, rfl, q⟩ := q
    exact q
/-- x op y by the reflected method of y's class, x a text -/
theorem op_binRef {g : Addr} (F : FnOk X.prog X.w X.K X.mg X.base CX n f fd ps sp) (hc : PySem.W.selfFirst X.K C = true) (no : fillsNumberSlot (.type "str") op.info.2 = pure false) (hs : PySem.W.findIn X.K (.ref C) (PySem.dunder op.info.2) = some (some (.ref g))) (hl : PySem.W.findIn X.K (.ref C) (PySem.dunderR op.info.2) = some (some (.ref f))) (hf : PySem.W.isFn X.K (.ref f) = true)
    (hb : Binds X.K fd ps []) (hx : Passes CX X E) (hr : Room n X.A) :
    OpR X (binaryOp op) (fun x y H Q => AnIns C H y ∧ (∃ z, x = V.str z) ∧ sp [y, x] H (fun v H' => (∃ r, v = V.ref r) ∧ Q v H') E) := by
  intro pins s σ H x y v u Q I rx ry h
  obtain ⟨⟨a, dx, fs, rfl, ha⟩, ⟨z, rfl⟩, h⟩ := h
  cases ry
  obtain ⟨t, rfl⟩ := rx
  obtain ⟨mA, J, _⟩ := ins_get I.hok ha
  obtain ⟨od, J, _⟩ := J.look
  obtain ⟨m, hF⟩ := I.fr
  refine bin_of1 (text_bin1 hF I.ok.mod.kin J hc no hs hl hf (wpAny_mono (call_run (A := X.A) ⟨hr, rfl⟩ F hb hx I (.cons (show RelV (V.ref a) (Value.ref a) from rfl) (.cons (show RelV (V.str z) (Value.str z t) from ⟨t, rfl⟩) .nil)) h) (fun v s' q => ?_) fun _ _ z => z))
  obtain ⟨y', H', I', ry', ⟨r, rfl⟩, q⟩ := q
  cases ry'
  exact ⟨_, rfl, .ref r, H', I', rfl, q⟩
end
end LR

namespace LK
open PySem PySem.Spec PyProof.Rows L2 LR
/-- an error object, of whatever class -/
structure ErrX (H : Hp) (a D : Addr) (d : Option Addr) : Prop where
  at_ : H a = some (exo a D d)
  dict : ∀ dx, d = some dx → ∃ fs, H dx = some (exd dx fs)
theorem ErrX.same {H H' : Hp} {a D : Addr} {d : Option Addr} (s : Same H H') (h : ErrX H a D d) : ErrX H' a D d :=
  ⟨s _ _ h.at_, fun dx e => by
    obtain ⟨fs, q⟩ := h.dict dx e
    exact ⟨fs, s _ _ q⟩⟩
section
variable {P : Program} {w : World} {K : PySem.W.Frag} {mg : Str → Option Value} {base : Heap}
def nRef : List Str := ["_law_e", "_law_found", "_law_at", "_law_one"]
theorem scRef : FnScope nRef ["_law_e"] (defScope sRefused) := ⟨rfl, rfl, rfl, by decide +kernel, rfl, by decide +kernel, by decide +kernel⟩
theorem ok_refused {C fE : Nat → Addr} {B f : Addr} {fdE : Nat → FuncData} {fd : FuncData} (S : Std mg) (G : Errs K mg C B fE fdE) (F : Fun K "_law_refused" "_law_refused" sRefused f fd) : FnOk P w K mg base CX0 1 f fd ["_law_e"] (spRef K C) := by
  have e0 := G.er 0 (by decide)
  have e1 := G.er 1 (by decide)
  have e2 := G.er 2 (by decide)
  have e3 := G.er 3 (by decide)
  have e4 := G.er 4 (by decide)
  have e5 := G.er 5 (by decide)
  have e6 := G.er 6 (by decide)
  have e7 := G.er 7 (by decide)
  have e8 := G.er 8 (by decide)
  have e9 := G.er 9 (by decide)
  have e10 := G.er 10 (by decide)
  refine F.ok scRef (fun vs H Q E h => ?_) (fun cdv A outer s H vs Q E hr h => ?_)
  · obtain ⟨a, D, d, b, rfl, _⟩ := h
    rfl
  · obtain ⟨a, D, d, b, rfl, ha, hd, ex, kk, q⟩ := h
    refine ⟨_, pss_cons (ps_set (i := 1) scRef.nd rfl (Or.inl rfl) (pe_lst (pa_cons (pe_callB call_isErr (by rfl) S.isi (by decide +kernel) (pa_cons (pv 0) (pa_cons (pe_glob (v := .ref (C 0)) rfl e0.g rfl) pa_nil))) (pa_cons (pe_callB call_isErr (by rfl) S.isi (by decide +kernel) (pa_cons (pv 0) (pa_cons (pe_glob (v := .ref (C 1)) rfl e1.g rfl) pa_nil))) (pa_cons (pe_callB call_isErr (by rfl) S.isi (by decide +kernel) (pa_cons (pv 0) (pa_cons (pe_glob (v := .ref (C 2)) rfl e2.g rfl) pa_nil))) pa_nil)))))
      (pss_cons (ps_set (i := 1) scRef.nd rfl (Or.inl rfl) (pe_op op_cat (pv 1) (pe_lst (pa_cons (pe_callB call_isErr (by rfl) S.isi (by decide +kernel) (pa_cons (pv 0) (pa_cons (pe_glob (v := .ref (C 3)) rfl e3.g rfl) pa_nil))) (pa_cons (pe_callB call_isErr (by rfl) S.isi (by decide +kernel) (pa_cons (pv 0) (pa_cons (pe_glob (v := .ref (C 4)) rfl e4.g rfl) pa_nil))) (pa_cons (pe_callB call_isErr (by rfl) S.isi (by decide +kernel) (pa_cons (pv 0) (pa_cons (pe_glob (v := .ref (C 5)) rfl e5.g rfl) pa_nil))) pa_nil))))))
      (pss_cons (ps_set (i := 1) scRef.nd rfl (Or.inl rfl) (pe_op op_cat (pv 1) (pe_lst (pa_cons (pe_callB call_isErr (by rfl) S.isi (by decide +kernel) (pa_cons (pv 0) (pa_cons (pe_glob (v := .ref (C 6)) rfl e6.g rfl) pa_nil))) (pa_cons (pe_callB call_isErr (by rfl) S.isi (by decide +kernel) (pa_cons (pv 0) (pa_cons (pe_glob (v := .ref (C 7)) rfl e7.g rfl) pa_nil))) (pa_cons (pe_callB call_isErr (by rfl) S.isi (by decide +kernel) (pa_cons (pv 0) (pa_cons (pe_glob (v := .ref (C 8)) rfl e8.g rfl) pa_nil))) pa_nil))))))
      (pss_cons (ps_set (i := 1) scRef.nd rfl (Or.inl rfl) (pe_op op_cat (pv 1) (pe_lst (pa_cons (pe_callB call_isErr (by rfl) S.isi (by decide +kernel) (pa_cons (pv 0) (pa_cons (pe_glob (v := .ref (C 9)) rfl e9.g rfl) pa_nil))) (pa_cons (pe_callB call_isErr (by rfl) S.isi (by decide +kernel) (pa_cons (pv 0) (pa_cons (pe_glob (v := .ref (C 10)) rfl e10.g rfl) pa_nil))) (pa_cons (pe_callB call_isErr (by rfl) S.isi (by decide +kernel) (pa_cons (pv 0) (pa_cons (pe_glob (v := .ref (C 11)) rfl G.imp.g rfl) pa_nil))) pa_nil))))))
      (pss_one (ps_ret (pe_lc (own := [("_law_at", 2), ("_law_one", 3)]) (g := gTup K 2 (gCons (gName 2) (gCons (gName 3) gNil))) (tt := tB (tVar 3)) rfl scRef.nd
          (pi_enum (by rfl) S.enumerate (pa_cons (pv 1) pa_nil)) (blkOk_by (N := nRef) (sc := defScope sRefused) (by decide +kernel))
          (fun _ _ _ _ _ => pg_tup rfl (pgs_cons (pg_name (i := 2) scRef.nd rfl (Or.inl rfl)) (pgs_cons (pg_name (i := 3) scRef.nd rfl (Or.inl rfl)) pgs_nil))) (fun _ _ _ _ _ => pts_one (pt_val (pv 3)))
          (fun _ _ _ _ _ => pv 2))))))), ?_⟩
    have x0 : ErrX H a D d := ⟨ha, hd⟩
    refine ⟨_, rfl, a, D, d, _, _, b 0, rfl, x0.at_, x0.dict, ex, .own (C 0), kk 0 (by decide), _, rfl, a, D, d, _, _, b 1, rfl, x0.at_, x0.dict, ex, .own (C 1), kk 1 (by decide), _, rfl, a, D, d, _, _, b 2, rfl, x0.at_, x0.dict, ex, .own (C 2), kk 2 (by decide), by show 3 ≤ sizeLine; decide, fun p1 hp1 => ?_⟩
    have s1 : Same H (upd H p1 (.lst [.bl (b 0), .bl (b 1), .bl (b 2)])) := same_new hp1
    have x1 := x0.same s1
    have h1 : (upd H p1 (.lst [.bl (b 0), .bl (b 1), .bl (b 2)])) p1 = some (.lst [.bl (b 0), .bl (b 1), .bl (b 2)]) := upd_same
    generalize upd H p1 (.lst [.bl (b 0), .bl (b 1), .bl (b 2)]) = H1 at s1 x1 h1 ⊢
    refine ⟨_, rfl, _, rfl, a, D, d, _, _, b 3, rfl, x1.at_, x1.dict, ex, .own (C 3), kk 3 (by decide), _, rfl, a, D, d, _, _, b 4, rfl, x1.at_, x1.dict, ex, .own (C 4), kk 4 (by decide), _, rfl, a, D, d, _, _, b 5, rfl, x1.at_, x1.dict, ex, .own (C 5), kk 5 (by decide), by show 3 ≤ sizeLine; decide, fun m1 hm1 => ⟨p1, m1, _, _, rfl, rfl, same_new hm1 _ _ h1, upd_same, by show 6 ≤ sizeLine; decide, fun p2 hp2 => ?_⟩⟩
    have s2 : Same H (upd (upd H1 m1 (.lst [.bl (b 3), .bl (b 4), .bl (b 5)])) p2 (.lst ([.bl (b 0), .bl (b 1), .bl (b 2)] ++ [.bl (b 3), .bl (b 4), .bl (b 5)]))) := (s1.trans (same_new hm1)).trans (same_new hp2)
    have x2 := x0.same s2
    have h2 : (upd (upd H1 m1 (.lst [.bl (b 3), .bl (b 4), .bl (b 5)])) p2 (.lst ([.bl (b 0), .bl (b 1), .bl (b 2)] ++ [.bl (b 3), .bl (b 4), .bl (b 5)]))) p2 = some (.lst ([.bl (b 0), .bl (b 1), .bl (b 2)] ++ [.bl (b 3), .bl (b 4), .bl (b 5)])) := upd_same
    generalize upd (upd H1 m1 (.lst [.bl (b 3), .bl (b 4), .bl (b 5)])) p2 (.lst ([.bl (b 0), .bl (b 1), .bl (b 2)] ++ [.bl (b 3), .bl (b 4), .bl (b 5)])) = H2 at s2 x2 h2 ⊢
    refine ⟨_, rfl, _, rfl, a, D, d, _, _, b 6, rfl, x2.at_, x2.dict, ex, .own (C 6), kk 6 (by decide), _, rfl, a, D, d, _, _, b 7, rfl, x2.at_, x2.dict, ex, .own (C 7), kk 7 (by decide), _, rfl, a, D, d, _, _, b 8, rfl, x2.at_, x2.dict, ex, .own (C 8), kk 8 (by decide), by show 3 ≤ sizeLine; decide, fun m2 hm2 => ⟨p2, m2, _, _, rfl, rfl, same_new hm2 _ _ h2, upd_same, by show 9 ≤ sizeLine; decide, fun p3 hp3 => ?_⟩⟩
    have s3 : Same H (upd (upd H2 m2 (.lst [.bl (b 6), .bl (b 7), .bl (b 8)])) p3 (.lst (([.bl (b 0), .bl (b 1), .bl (b 2)] ++ [.bl (b 3), .bl (b 4), .bl (b 5)]) ++ [.bl (b 6), .bl (b 7), .bl (b 8)]))) := (s2.trans (same_new hm2)).trans (same_new hp3)
    have x3 := x0.same s3
    have h3 : (upd (upd H2 m2 (.lst [.bl (b 6), .bl (b 7), .bl (b 8)])) p3 (.lst (([.bl (b 0), .bl (b 1), .bl (b 2)] ++ [.bl (b 3), .bl (b 4), .bl (b 5)]) ++ [.bl (b 6), .bl (b 7), .bl (b 8)]))) p3 = some (.lst (([.bl (b 0), .bl (b 1), .bl (b 2)] ++ [.bl (b 3), .bl (b 4), .bl (b 5)]) ++ [.bl (b 6), .bl (b 7), .bl (b 8)])) := upd_same
    generalize upd (upd H2 m2 (.lst [.bl (b 6), .bl (b 7), .bl (b 8)])) p3 (.lst (([.bl (b 0), .bl (b 1), .bl (b 2)] ++ [.bl (b 3), .bl (b 4), .bl (b 5)]) ++ [.bl (b 6), .bl (b 7), .bl (b 8)])) = H3 at s3 x3 h3 ⊢
    refine ⟨_, rfl, _, rfl, a, D, d, _, _, b 9, rfl, x3.at_, x3.dict, ex, .own (C 9), kk 9 (by decide), _, rfl, a, D, d, _, _, b 10, rfl, x3.at_, x3.dict, ex, .own (C 10), kk 10 (by decide), _, rfl, a, D, d, _, _, b 11, rfl, x3.at_, x3.dict, ex, .own (C 11), kk 11 (by decide), by show 3 ≤ sizeLine; decide, fun m3 hm3 => ⟨p3, m3, _, _, rfl, rfl, same_new hm3 _ _ h3, upd_same, by show 12 ≤ sizeLine; decide, fun p4 hp4 => ?_⟩⟩
    have s4 : Same H (upd (upd H3 m3 (.lst [.bl (b 9), .bl (b 10), .bl (b 11)])) p4 (.lst ((([.bl (b 0), .bl (b 1), .bl (b 2)] ++ [.bl (b 3), .bl (b 4), .bl (b 5)]) ++ [.bl (b 6), .bl (b 7), .bl (b 8)]) ++ [.bl (b 9), .bl (b 10), .bl (b 11)]))) := (s3.trans (same_new hm3)).trans (same_new hp4)
    have x4 := x0.same s4
    have h4 : (upd (upd H3 m3 (.lst [.bl (b 9), .bl (b 10), .bl (b 11)])) p4 (.lst ((([.bl (b 0), .bl (b 1), .bl (b 2)] ++ [.bl (b 3), .bl (b 4), .bl (b 5)]) ++ [.bl (b 6), .bl (b 7), .bl (b 8)]) ++ [.bl (b 9), .bl (b 10), .bl (b 11)]))) p4 = some (.lst ((([.bl (b 0), .bl (b 1), .bl (b 2)] ++ [.bl (b 3), .bl (b 4), .bl (b 5)]) ++ [.bl (b 6), .bl (b 7), .bl (b 8)]) ++ [.bl (b 9), .bl (b 10), .bl (b 11)])) := upd_same
    generalize upd (upd H3 m3 (.lst [.bl (b 9), .bl (b 10), .bl (b 11)])) p4 (.lst ((([.bl (b 0), .bl (b 1), .bl (b 2)] ++ [.bl (b 3), .bl (b 4), .bl (b 5)]) ++ [.bl (b 6), .bl (b 7), .bl (b 8)]) ++ [.bl (b 9), .bl (b 10), .bl (b 11)])) = H4 at s4 x4 h4 ⊢
    have hb : H4 p4 = some (.lst (((List.range 12).map b).map V.bl)) := h4
    clear h4
    generalize hB : (List.range 12).map b = bs at hb q
    have hlen : bs.length = 12 := by rw [← hB]; rfl
    refine ⟨_, rfl, p4, _, rfl, SqL.of hb, fun D' hD => lc_enum (xs := bs.map V.bl) (fun i H5 => Keep D' H H5 ∧ H5 p4 = some (.lst (bs.map V.bl)) ∧ H5 D' = some (.lst ((ix (bs.take i) 0).map V.int)))
      ⟨(Keep.same s4).trans (Keep.new hD), by rw [upd_ne (ne_of_none hb hD)]; exact hb, upd_same⟩ (fun i H5 h => SqL.of h.2.1) (fun i x T H5 hx h hT => ?_) (fun H5 h => ?_)⟩
    · obtain ⟨k5, b5, d5⟩ := h
      rw [List.getElem?_map] at hx
      obtain ⟨c, hc, rfl⟩ := Option.map_eq_some_iff.mp hx
      have lt : i < bs.length := (List.getElem?_eq_some_iff.mp hc).1
      have tk : bs.take (i + 1) = bs.take i ++ [c] := by
        rw [List.take_add_one, hc]
        rfl
      have ln : (bs.take i).length = i := by rw [List.length_take]; omega
      have u5 : Same H5 (upd H5 T (.tup [.int (i : Nat), .bl c])) := same_new hT
      refine ⟨T, _, rfl, SqT.of upd_same, rfl, _, _, rfl, _, _, rfl, rfl, rfl, _, rfl, c, rfl, ?_⟩
      have pD : p4 ≠ D' := ne_of_none hb hD
      cases c with
      | true =>
        refine iteT ⟨_, rfl, _, u5 _ _ d5, ?_, ?_, ?_, ?_⟩
        · rw [List.length_map]
          have := ix_len (bs.take i) 0
          exact small1000 (by omega)
        · intro b' o n e
          rw [upd_ne n]
          exact u5 _ _ (k5 b' o n e)
        · rw [upd_ne pD]
          exact u5 _ _ b5
        · rw [upd_same, tk, ix_add, List.map_append, ln, Nat.zero_add]
          rfl
      | false =>
        refine iteF ⟨?_, ?_, ?_⟩
        · exact fun b' o n e => u5 _ _ (k5 b' o n e)
        · exact u5 _ _ b5
        · rw [tk, ix_add, u5 _ _ d5]
          simp
    · obtain ⟨k5, b5, d5⟩ := h
      rw [List.length_map, List.take_length] at d5
      exact q D' H5 (fun b' o e => k5 b' o (ne_of_none e (s4.free hD)) e) d5
end
end LK

/-! a comprehension over an enumerated list while an exception is handled -/
namespace LR
open PySem PySem.Spec PyProof.Rows L2 HotX
section
variable {prog : Program} {w : World} {A : Around} {E : Value → Shared → Prop} {s : Shared} {it l x1 : Addr} {i : Nat} {items : Array Value}
/-- a list's iterator that is at its end, asked by enumerate -/
theorem listEnd_hot {Q : Value → Shared → Prop} (hot : HotAt A x1 s.heap) (ne : x1 ≠ it) (hit : s.heap.IsListIter it l i) (hl : s.heap.IsList l items) (hx : items[i]? = none)
    (stop : ∀ h' e, Heap.ExtBut it s.heap h' → (∃ o, h'.get? e = some o ∧ o.cls = .type "StopIteration") → E (.ref e) { s with heap := h' }) : wpAny (model prog w) A (Builtin.SmallTypes.nextOf (.ref it)) Q E s := by
  obtain ⟨oi, get_i, _, data_i⟩ := id hit
  obtain ⟨os, get_l, _, k, data_l⟩ := hl
  obtain ⟨hh, o1, f1, get_1, data_1, none_1⟩ := hot
  unfold Builtin.SmallTypes.nextOf
  refine wpAny_bind (wpAny_callSpecial?_slot (name := Str.ofString "__next__") hit.typeIs slot_listiter_next (wpAny_call_entry slot_listiter_next hit.typeIs entry_listiter_next ?_ (args_listiter_next _)))
  change wpAny _ _ (field (.ref it) 0 >>= _) _ _ _
  apply wpAny_bind
  apply wpAny_field get_i data_i (x := .ref l) rfl
  change wpAny _ _ (if (Value.ref l == Value.none) = true then _ else _) _ _ _
  have ll : ¬ ((Value.ref l == Value.none) = true) := Bool.false_ne_true
  rw [if_neg ll]
  change wpAny _ _ (field (.ref it) 1 >>= _) _ _ _
  apply wpAny_bind
  apply wpAny_field get_i data_i (x := .int i 0) rfl
  change wpAny _ _ (seqItems? (.ref l) >>= _) _ _ _
  apply wpAny_bind
  apply wpAny_seqItems get_l data_l
  simp only [Int.toNat_natCast, hx]
  refine wpAny_bind (wpAny_rule (wpAny_bind (wpAny_setField get_i data_i (by simp) ?_)))
  change wpAny _ _ (newExc (.type "StopIteration") [] >>= _) _ _ _
  apply wpAny_bind
  simp only [newExc, newTuple]
  apply wpAny_bind
  refine wpAny_newObj_type ?_ (by size_fits)
  refine wpAny_bind (m := firstArgMember _ _) (wpAny_of_eq (a := Value.none) (by simp only [firstArgMember]; rfl) ?_)
  refine wpAny_newObj_type ?_ (by size_fits)
  have old : ∀ {h : Heap} {u v : Obj}, h.get? x1 = some o1 → ((h.push u).push v).get? x1 = some o1 := fun q => Heap.get?_push_of_some _ (Heap.get?_push_of_some _ q)
  refine raiseNew_hot ⟨hh, o1, f1, old ((Heap.get?_update_other _ _ (Ne.symm ne)).trans get_1), data_1, none_1⟩ ?_ (Heap.get?_push_size _ rfl) rfl (by simp; omega) ?_
  · exact Nat.ne_of_lt (Heap.lt_size (Heap.get?_push_of_some _ ((Heap.get?_update_other _ _ (Ne.symm ne)).trans get_1)))
  · refine stop _ _ ?_ ⟨_, Heap.get?_update_self _ (Heap.get?_push_size _ rfl) rfl, rfl⟩
    intro b o nb e
    have e1 := (Heap.get?_update_other s.heap (Obj.mapFields (·.setIfInBounds 0 .none)) (Ne.symm nb)).trans e
    exact (Heap.get?_update_other _ _ (Nat.ne_of_gt (Heap.lt_size (Heap.get?_push_of_some _ e1)))).trans (Heap.get?_push_of_some _ (Heap.get?_push_of_some _ e1))
/-- enumerate at its end -/
theorem enumEnd_hot {e : Addr} {old : Value} {Q : Option Value → Shared → Prop} (hot : HotAt A x1 s.heap) (ne : x1 ≠ it) (he : IsEnum s.heap e it i old) (hit : s.heap.IsListIter it l i) (hl : s.heap.IsList l items) (hx : items[i]? = none)
    (hQ : ∀ h', Heap.ExtBut it s.heap h' → Q none { s with heap := h' }) : wpAny (model prog w) A (pyNext (.ref e)) Q E s := by
  have ty : s.TypeIs (.ref e) "enumerate" := ⟨_, he, rfl⟩
  unfold pyNext
  apply wpAny_bind
  apply wpAny_attempt
  refine wpAny_callSpecial?_slot (name := Str.ofString "__next__") ty F.slot_enumerate_next (wpAny_call_entry F.slot_enumerate_next ty F.entry_enumerate_next ?_ (F.args_enumerate_next_1 _))
  change wpAny _ _ (field (.ref e) 2 >>= _) _ _ _
  apply wpAny_bind
  apply wpAny_field he rfl (x := .ref it) rfl
  apply wpAny_bind
  refine listEnd_hot hot ne hit hl hx fun h' x ext end_ => ?_
  obtain ⟨o, at_o, cls_o⟩ := end_
  apply wpAny_bind
  exact wpAny_isInstance (T := "StopIteration") (b := true) ⟨o, at_o, cls_o⟩ isSubtype_stop (wpAny_pure (hQ _ ext))
/-- a tuple's iterator at its end -/
theorem tupEnd_hot {t : Addr} {Q : Option Value → Shared → Prop} (hot : HotAt A x1 s.heap) (ne : x1 ≠ it) (hit : IsTupIter s.heap it t i) (ht : IsTup s.heap t items) (hx : items[i]? = none)
    (stop : ∀ h', Heap.ExtBut it s.heap h' → Q none { s with heap := h' }) : wpAny (model prog w) A (pyNext (.ref it)) Q E s := by
  obtain ⟨oi, get_i, _, data_i⟩ := id hit
  obtain ⟨os, get_l, _, k, data_l⟩ := ht
  obtain ⟨hh, o1, f1, get_1, data_1, none_1⟩ := hot
  unfold pyNext
  apply wpAny_bind
  apply wpAny_attempt
  refine wpAny_callSpecial?_slot (name := Str.ofString "__next__") hit.typeIs slot_tupleiter_next (wpAny_call_entry slot_tupleiter_next hit.typeIs entry_tupleiter_next ?_ (args_tupleiter_next _))
  change wpAny _ _ (field (.ref it) 0 >>= _) _ _ _
  apply wpAny_bind
  apply wpAny_field get_i data_i (x := .ref t) rfl
  change wpAny _ _ (if (Value.ref t == Value.none) = true then _ else _) _ _ _
  have ll : ¬ ((Value.ref t == Value.none) = true) := Bool.false_ne_true
  rw [if_neg ll]
  change wpAny _ _ (field (.ref it) 1 >>= _) _ _ _
  apply wpAny_bind
  apply wpAny_field get_i data_i (x := .int i 0) rfl
  change wpAny _ _ (seqItems? (.ref t) >>= _) _ _ _
  apply wpAny_bind
  apply wpAny_seqItems get_l data_l
  simp only [Int.toNat_natCast, hx]
  refine wpAny_bind (wpAny_rule (wpAny_bind (wpAny_setField get_i data_i (by simp) ?_)))
  change wpAny _ _ (newExc (.type "StopIteration") [] >>= _) _ _ _
  apply wpAny_bind
  simp only [newExc, newTuple]
  apply wpAny_bind
  refine wpAny_newObj_type ?_ (by size_fits)
  refine wpAny_bind (m := firstArgMember _ _) (wpAny_of_eq (a := Value.none) (by simp only [firstArgMember]; rfl) ?_)
  refine wpAny_newObj_type ?_ (by size_fits)
  have old : ∀ {h : Heap} {u v : Obj}, h.get? x1 = some o1 → ((h.push u).push v).get? x1 = some o1 := fun q => Heap.get?_push_of_some _ (Heap.get?_push_of_some _ q)
  refine raiseNew_hot ⟨hh, o1, f1, old ((Heap.get?_update_other _ _ (Ne.symm ne)).trans get_1), data_1, none_1⟩ ?_ (Heap.get?_push_size _ rfl) rfl (by simp; omega) ?_
  · exact Nat.ne_of_lt (Heap.lt_size (Heap.get?_push_of_some _ ((Heap.get?_update_other _ _ (Ne.symm ne)).trans get_1)))
  · apply wpAny_bind
    refine wpAny_isInstance (T := "StopIteration") (b := true) ⟨_, Heap.get?_update_self _ (Heap.get?_push_size _ rfl) rfl, rfl⟩ isSubtype_stop (wpAny_pure (stop _ ?_))
    intro b o nb e
    have e1 := (Heap.get?_update_other s.heap (Obj.mapFields (·.setIfInBounds 0 .none)) (Ne.symm nb)).trans e
    exact (Heap.get?_update_other _ _ (Nat.ne_of_gt (Heap.lt_size (Heap.get?_push_of_some _ e1)))).trans (Heap.get?_push_of_some _ (Heap.get?_push_of_some _ e1))
/-- a tuple taken apart -/
theorem unpack_hot {t : Addr} {Q : List Value → Shared → Prop} (hot : HotAt A x1 s.heap) (ht : IsTup s.heap t items) (hQ : ∀ h', Heap.ExtBut s.heap.objs.size s.heap h' → Q items.toList { s with heap := h' }) : wpAny (model prog w) A (unpackItems (.ref t) items.size none) Q E s := by
  have tlt : t ≠ s.heap.objs.size := by
    obtain ⟨o, z, _⟩ := ht
    exact Nat.ne_of_lt (Heap.lt_size z)
  obtain ⟨hh, o1, f1, get_1, data_1, none_1⟩ := hot
  have xlt : x1 ≠ s.heap.objs.size := Nat.ne_of_lt (Heap.lt_size get_1)
  unfold unpackItems notIterableAtAll
  refine wpAny_bind (wpAny_bind (wpAny_specialOf ht.typeIs slot_tuple_iter.lookup (wpAny_pure ?_)))
  simp only [Bool.false_eq_true, if_false]
  refine wpAny_bind (wpAny_holding (iter_tuple ht (wpAny_bind (wpAny_holding (draw_tuple tlt items.size 0 _ _ ⟨_, Heap.get?_push_size _ rfl, rfl, rfl⟩ (ht.push _) (by omega) fun h1 it1 same1 => ?_)))))
  rw [show List.take items.size (List.drop 0 items.toList) = items.toList by rw [List.drop_zero]; exact List.take_of_length_le (by simp), if_neg (by simp)]
  have here : h1.get? x1 = some o1 := same1.extBut x1 o1 xlt (Heap.get?_push_of_some _ get_1)
  refine wpAny_bind (wpAny_holding (tupEnd_hot ⟨hh, o1, f1, here, data_1, none_1⟩ xlt it1 ((ht.push _).extBut same1.extBut tlt) (by simp) fun h2 ext2 => ?_))
  simp only [Option.isSome_none, Bool.false_eq_true, if_false]
  exact wpAny_pure (hQ h2 fun b o nb e => ext2 b o nb (same1.extBut b o nb (Heap.get?_push_of_some _ e)))
end
end LR
namespace LR
open PySem PySem.Spec PyProof.Rows L2 HotX
/-- an enumerate object over the list at a, with i behind it -/
structure EnumAt (a en it : Addr) (i : Nat) (h : Heap) : Prop where
  enum : ∃ old, IsEnum h en it ((i : Nat) : Int) old
  iter : h.IsListIter it a i
  ne : en ≠ it
theorem EnumAt.keep {a en it : Addr} {i : Nat} {h h' : Heap} (t : EnumAt a en it i h) (k : ∀ b, b ∈ [en, it] → ∀ o, h.get? b = some o → h'.get? b = some o) : EnumAt a en it i h' := by
  obtain ⟨old, e⟩ := t.enum
  exact ⟨⟨old, k en (by simp) _ e⟩, t.iter.at fun o q => k it (by simp) o q, t.ne⟩
theorem EnumAt.obj {a en it : Addr} {i : Nat} {h : Heap} (t : EnumAt a en it i h) : ∀ b, b ∈ [en, it] → ∃ o, h.get? b = some o ∧ ∀ v, o.data ≠ .cell v := fun b hb => by
  rcases List.mem_cons.mp hb with z | z
  · obtain ⟨old, e⟩ := t.enum
    subst z
    refine ⟨_, e, fun v q => ?_⟩
    cases q
  · obtain ⟨o, q1, _, q3⟩ := t.iter
    exact ⟨o, by rw [List.mem_singleton.mp z]; exact q1, fun v q => by rw [q3] at q; cases q⟩
/-- what `enumerate(e)` has left, ready to be walked -/
def Begun (X : Cx) (pins : List (Addr × Obj)) (σ : L2.St) (R : It → Hp → Prop) (itv : Value) (s : Shared) : Prop :=
  ∃ en it a xs H, itv = .ref en ∧ Inv X pins σ H s ∧ EnumAt a en it 0 s.heap ∧ (∀ b, b ∈ [en, it] → FpOk X pins H b) ∧ SqL X.K H a xs ∧ R (Ite X.K a) H
theorem enum_begun {X : Cx} {e : Expr} {ta : TA} {p pos : Pos} {pins : List (Addr × Obj)} {s : Shared} {σ : L2.St} {H : Hp} {R : It → Hp → Prop} (hg : Gl X "enumerate") (hm : X.mg "enumerate" = none) (ha : PA X [e] ta) (I : Inv X pins σ H s) (h : iEnum X.K ta σ H R)
    (hs : starEach [e] X.env = [(false, eval e X.env)] := by rfl) : wpAny (model X.prog X.w) X.A (eval (.Call (.Name "enumerate" p) [e] [] pos) X.env) (fun v s1 => wpAny (model X.prog X.w) X.A (pyIter v) (Begun X pins σ R) X.xe s1) X.xe s := by
  refine Call_ (ld_blt I hg hm boot_enumerate (PyProof.Rows.callWith_type1 (thn (ha.run pos pins s σ H _ I h) fun us s1 got => ?_) hs rfl))
  obtain ⟨vs, H1, I1, r1, a, xs, rfl, sq, q⟩ := got
  obtain rfl := Vals.ref1 r1
  obtain ⟨its, _, pl, _⟩ := I1.list sq
  refine call_enumerate_list pl.isList fun h' en it _ old => wpAny_pyIter_enum en ?_
  have I2 : Inv X pins σ H1 { s1 with heap := h' } := I1.kept (t' := s1.toks) old
  refine ⟨s1.heap.objs.size + 1, s1.heap.objs.size, a, xs, H1, rfl, I2, ⟨⟨.none, en⟩, it, Nat.succ_ne_self _⟩, fun b hb => ?_, sq, q⟩
  have big : s1.heap.objs.size ≤ b := by
    rcases List.mem_cons.mp hb with z | z
    · rw [z]
      exact Nat.le_succ _
    · rw [List.mem_singleton.mp z]
      exact Nat.le_refl _
  exact I1.fpOk big (I1.hok.fresh big)
/-- the context began with a handled exception that it can't reach -/
def HotB (B : Cx) : Prop := ∃ r : Addr × Obj, L2H.Hot1 B.A r ∧ B.s_0.heap.get? r.1 = some r.2 ∧ B.H_0 r.1 = none ∧ r.1 ∉ B.fs ∧ r.1 ∉ B.ex
theorem HotB.at {B : Cx} {pins : List (Addr × Obj)} {σ : L2.St} {H : Hp} {s : Shared} (c : HotB B) (J : Inv B pins σ H s) : ∃ x1, HotAt B.A x1 s.heap ∧ ∀ b, b ∈ B.ex → x1 ≠ b := by
  obtain ⟨r, ⟨hh, v1, e1, c1⟩, get, free, nf, nx⟩ := c
  exact ⟨r.1, ⟨hh, r.2, v1, J.base.keep r.1 r.2 get free nf nx, e1, c1⟩, fun b hb z => nx (by rw [z]; exact hb)⟩
/-- so does a block of a context that bears one -/
theorem hotB_blk {X : Cx} {pins : List (Addr × Obj)} {σ : L2.St} {H : Hp} {s : Shared} {scope : Scope} {ce : Env} {fp : List Addr} (c : L2H.HotC X) (I : Inv X pins σ H s) (off : ∀ b, b ∈ fp → FpOk X pins H b) : HotB (X.blk s H scope ce fp) := by
  obtain ⟨r, hot, hr⟩ := c
  obtain ⟨get, free, nl, nf, _⟩ := I.pin r (List.mem_append_left _ hr)
  refine ⟨r, hot, get, free, fun m => ?_, fun m => (off _ m).2.2.2.2.2 r (List.mem_append_left _ hr) rfl⟩
  exact (List.mem_cons.mp (I.stkSub r.1 m)).elim nl nf
/-- a, b = t where an exception is handled -/
theorem pg_tupH {B : Cx} {es : List Expr} {k n : Nat} {t : TGs} {pos : Pos} (c : HotB B) (h : PGs B es t) (many : (assignEach es B.env).length = n := by rfl) (plain : (assignEach es B.env).findIdx? (·.1) = none := by rfl) : PG B (.Tuple es k pos) (gTup B.K n t) := by
  refine ⟨fun pins s σ H v u Q I r asked => ?_⟩
  obtain ⟨a, xs, rfl, sq, len, asked⟩ := asked
  obtain rfl : u = Value.ref a := r
  obtain ⟨its, rv, ht, _⟩ := I.tuple sq
  obtain ⟨x1, hot, _⟩ := c.at I
  have size : (assignEach es B.env).length = its.toArray.size := by rw [many, ← len, rv.length, List.size_toArray]
  rw [assign_Tuple]
  refine wpAny_bind (wpAny_standAt ?_)
  unfold unpack
  rw [size, plain]
  refine wpAny_bind (wpAny_holding (unpack_hot hot ht fun h' ext => ?_))
  have J : Inv B pins σ H { s with heap := h' } := I.kept (t' := s.toks) fun b o z => ext b o (Nat.ne_of_lt (Heap.lt_size z)) z
  exact h.run pins _ σ H xs _ Q J (by simpa using rv) asked
end LR
namespace LR
open PySem PySem.Spec PyProof.Rows L2 HotX
section
variable {X : Cx} {elt e : Expr} {elts ifs : List Expr} {kk : Nat} {scope : Scope} {own : List (Str × Nat)} {pos p ipos tpos : Pos} {ta : TA} {g : TG} {tt : TT} {te : TE}
/-- one turn's item: a new pair, in the block B -/
theorem enum_item {B : Cx} {σ : L2.St} {H : Hp} {s : Shared} {a en it : Addr} {i : Nat} {xs : List V} {x : V} {E : Value → Shared → Prop} {Q : Option Value → Shared → Prop} (I : Inv B [] σ H s) (t : EnumAt a en it i s.heap) (off : ∀ b, b ∈ [en, it] → FpOk B [] H b)
    (sq : SqL B.K H a xs) (hx : xs[i]? = some x)
    (q : ∀ u s1, (∀ E' Q', (∀ T s2, H T = none → Inv B [] σ (upd H T (.tup [.int (i : Nat), x])) s2 → u = .ref T → EnumAt a en it (i + 1) s2.heap → T ≠ en → T ≠ it → Q' () s2) → wpAny (model B.prog B.w) B.A (letOwnedTupleGo (.Tuple elts kk tpos) (.ref en) u) Q' E' s1) → Q (some u) s1) :
    wpAny (model B.prog B.w) B.A (pyNext (.ref en)) Q E s := by
  obtain ⟨old, he⟩ := t.enum
  obtain ⟨its, rv, pl, _⟩ := I.list sq
  obtain ⟨u, hu, ru⟩ := rv.get hx
  have le : en < s.heap.objs.size := Heap.lt_size he
  have li : it < s.heap.objs.size := by
    obtain ⟨_, z, _⟩ := t.iter
    exact Heap.lt_size z
  refine wpAny_pyNext_enum_item he t.iter pl.isList (x := u) (by simpa using hu) t.ne fun h1 ho hi hT _ old1 => q _ _ fun E' Q' k => ?_
  refine wpAny_letOwnedTupleGo_enum (s := { s with heap := h1, toks := s.toks + 1 }) ho fun h2 en2 but => ?_
  have pair : h2.get? s.heap.objs.size = some { cls := .type "tuple", data := .seq #[.int i s.toks, u] } := (but.2 _ (Nat.ne_of_gt le)).trans hT
  have fresh : H s.heap.objs.size = none := I.hok.fresh (Nat.le_refl _)
  have stay : ∀ b o, b ∉ [en, it] → s.heap.get? b = some o → h2.get? b = some o := fun b o nb z => by
    have n1 : b ≠ en := fun y => nb (by simp [y])
    have n2 : b ≠ it := fun y => nb (by simp [y])
    exact (but.2 b n1).trans (old1 b o n1 n2 z)
  have laid : ObjOk B.prog B.w (upd H s.heap.objs.size (.tup [.int (i : Nat), x])) h2 s.heap.objs.size (.tup [.int (i : Nat), x]) := ⟨by show 2 ≤ sizeLine; decide, [.int i s.toks, u], .cons ⟨_, rfl⟩ (.cons ru .nil), ⟨_, pair, rfl, _, rfl⟩⟩
  have J := I.turnedNew (ch := [en, it]) (t' := s.toks + 1) stay off (Nat.le_refl _) laid
  refine k s.heap.objs.size _ fresh J rfl ⟨⟨u, ?_⟩, hi.at fun o z => (but.2 it t.ne.symm).trans z, t.ne⟩ (Nat.ne_of_gt le) (Nat.ne_of_gt li)
  rw [show ((i + 1 : Nat) : Int) = (i : Int) + 1 by omega]
  exact en2
end
end LR
namespace LR
open PySem PySem.Spec PyProof.Rows L2 HotX
section
variable {X : Cx} {elt e : Expr} {elts ifs : List Expr} {kk : Nat} {scope : Scope} {own : List (Str × Nat)} {pos p ipos tpos : Pos} {ta : TA} {g : TG} {tt : TT} {te : TE}
/-- [elt for a, b in enumerate(e) if ..] where an exception is handled -/
theorem pe_lcEH (hot : L2H.HotC X) (nd : X.N.Nodup) (hg : Gl X "enumerate") (hm : X.mg "enumerate" = none) (ha : PA X [e] ta) (ok : BlkOk X.N X.env.scope scope own)
    (pg : ∀ (s : Shared) (H : Hp) (C : Addr) (cl : List (Str × Addr)) (fp : List Addr), HotB (X.blk s H scope (compEnvC scope cl C X.env) fp) → PG (X.blk s H scope (compEnvC scope cl C X.env) fp) (.Tuple elts kk tpos) g)
    (pt : ∀ (s : Shared) (H : Hp) (C : Addr) (cl : List (Str × Addr)) (fp : List Addr), PTs (X.blk s H scope (compEnvC scope cl C X.env) fp) ifs tt)
    (pe : ∀ (s : Shared) (H : Hp) (C : Addr) (cl : List (Str × Addr)) (fp : List Addr), PE (X.blk s H scope (compEnvC scope cl C X.env) fp) elt te)
    (st : starEach [e] X.env = [(false, eval e X.env)] := by rfl) (fold : ∀ x, foldedSetIterable (.Call (.Name "enumerate" p) [e] [] ipos) X.env x = pure x := by intro _; rfl) :
    PE X (.ListComp elt [⟨.Tuple elts kk tpos, .Call (.Name "enumerate" p) [e] [] ipos, ifs, 0⟩] scope pos) (tLc (iEnum X.K ta) g tt te (own.map (·.2))) := by
  refine ⟨fun pins s σ H Q I h => ?_⟩
  rw [eval_ListComp]
  have cells : ∀ y ∈ scope.names, y.2 = .free → ∃ c, X.env.cells.lookup y.1 = some c := fun y hy z => (ok.free y hy z).elim (fun k => I.ok.has _ (.inl k)) fun k => I.ok.has _ (.inr k)
  refine wpAny_comprehension_free (use := none) rfl fold (closure_ok cells) ok.kind (fun y hy z => by rw [ok.uniq y hy, z]) (thn (enum_begun hg hm ha I h st) fun v1 s1 b1 => thn b1 fun v2 s2 b2 => ?_)
  obtain ⟨en, it, a, xs0, H2, rfl, I2, at0, off, _, q⟩ := b2
  refine wpAny_newObj_type (newEnv_comp ?_) (by show 0 ≤ sizeLine; decide)
  have freshD : H2 s2.heap.objs.size = none := I2.hok.fresh (Nat.le_refl _)
  obtain ⟨W, ⟨m0, w0⟩, turn⟩ := q s2.heap.objs.size freshD
  generalize eD : s2.heap.objs.size = D at freshD w0 turn ⊢
  have offD : ∀ b, b ∈ [en, it] → b ≠ D := fun b hb => by
    obtain ⟨o, z, _⟩ := at0.obj b hb
    rw [← eD]
    exact Nat.ne_of_lt (Heap.lt_size z)
  generalize e3 : ({ s2 with heap := s2.heap.push { cls := .type "list", data := .seq ([] : List Value).toArray } } : Shared) = s3
  have push3 : ∀ {b : Addr} {o : Obj}, s2.heap.get? b = some o → s3.heap.get? b = some o := fun {b o} z => by
    rw [← e3]
    exact Heap.get?_push_of_some _ z
  have size3 : s3.heap.objs.size = s2.heap.objs.size + 1 := by
    rw [← e3]
    exact Heap.size_push _ _
  have I3 : Inv X pins σ (upd H2 D (.lst [])) s3 := by
    subst e3
    refine I2.laid (t' := s2.toks) (fun b o z => Heap.get?_push_of_some _ z) (Nat.le_of_eq eD) ⟨Nat.zero_le _, [], 0, .nil, ?_⟩
    subst eD
    exact Heap.get?_push_size _ rfl
  have off3 : ∀ b, b ∈ [en, it] → FpOk X pins (upd H2 D (.lst [])) b ∧ b < s3.heap.objs.size := fun b hb => by
    obtain ⟨f0, f1⟩ := off b hb
    obtain ⟨o, z, _⟩ := at0.obj b hb
    exact ⟨⟨by rw [upd_ne (offD b hb)]; exact f0, f1⟩, Heap.lt_size (push3 z)⟩
  have J0 := block_start I3 ok nd off3
  have hotB := hotB_blk (scope := scope) (ce := compEnvC scope (cellsFrom (s3.heap.objs.size + 1) scope.names (cloFrom X.env.cells scope.names [])) s3.heap.objs.size X.env) hot I3 fun b hb => (off3 b hb).1
  have pg' := pg s3 (upd H2 D (.lst [])) s3.heap.objs.size (cellsFrom (s3.heap.objs.size + 1) scope.names (cloFrom X.env.cells scope.names [])) [en, it] (hotB_blk hot I3 fun b hb => (off3 b hb).1)
  have pt' := pt s3 (upd H2 D (.lst [])) s3.heap.objs.size (cellsFrom (s3.heap.objs.size + 1) scope.names (cloFrom X.env.cells scope.names [])) [en, it]
  have pe' := pe s3 (upd H2 D (.lst [])) s3.heap.objs.size (cellsFrom (s3.heap.objs.size + 1) scope.names (cloFrom X.env.cells scope.names [])) [en, it]
  change codeAny _ _ (.compStart (.ListComp elt [⟨.Tuple elts kk tpos, .Call (.Name "enumerate" p) [e] [] ipos, ifs, 0⟩] scope pos) 0 (.ref en) (.ref D)
    (compEnvC scope (cellsFrom (s3.heap.objs.size + 1) scope.names (cloFrom X.env.cells scope.names [])) s3.heap.objs.size X.env))
    (compPost (model X.prog X.w) X.A X.xe none (EP X pins σ Q) (.ref D) s3.heap.objs.size)
    { s3 with heap := pushCells (s3.heap.push { cls := .type "dict", data := .dict #[] }) scope.names }
  have locs : (compEnvC scope (cellsFrom (s3.heap.objs.size + 1) scope.names (cloFrom X.env.cells scope.names [])) s3.heap.objs.size X.env).locals = s3.heap.objs.size := rfl
  generalize compEnvC scope (cellsFrom (s3.heap.objs.size + 1) scope.names (cloFrom X.env.cells scope.names [])) s3.heap.objs.size X.env = ce at J0 hotB pg' pt' pe' locs ⊢
  generalize e4 : ({ s3 with heap := pushCells (s3.heap.push { cls := .type "dict", data := .dict #[] }) scope.names } : Shared) = s4 at J0 ⊢
  have at4 : EnumAt a en it 0 s4.heap := at0.keep fun b _ o z => by
    rw [← e4]
    exact pushCells_keeps _ _ _ _ (Heap.get?_push_of_some _ (push3 z))
  generalize upd H2 D (.lst []) = H3 at I3 off3 J0 hotB pg' pt' pe' w0 ⊢
  -- seen from the block the walker's two objects are no one's
  have offB : ∀ {σ' : L2.St} {H' : Hp} {s' : Shared}, Inv (X.blk s3 H3 scope ce [en, it]) [] σ' H' s' → (∀ b, b ∈ [en, it] → H' b = none) → ∀ b, b ∈ [en, it] → FpOk (X.blk s3 H3 scope ce [en, it]) [] H' b := fun J free b hb => by
    obtain ⟨z1, z2⟩ := J.ok.exf b hb
    refine ⟨free b hb, z1, J.ok.exfs b hb, .inl hb, z2, fun r hr => ?_⟩
    simp at hr
  have loop : codeAny (model X.prog X.w) X.A (.compLoop (.ListComp elt [⟨.Tuple elts kk tpos, .Call (.Name "enumerate" p) [e] [] ipos, ifs, 0⟩] scope pos) 0 (.ref en) (.ref D) ce) (compPost (model X.prog X.w) X.A X.xe none (EP X pins σ Q) (.ref D) s3.heap.objs.size) s4 := by
    refine compLoop_any (fun n s' => ∃ i H', Inv (X.blk s3 H3 scope ce [en, it]) [] (wipe σ (own.map (·.2))) H' s' ∧ EnumAt a en it i s'.heap ∧ (∀ b, b ∈ [en, it] → H' b = none) ∧ W i n H') (fun n s5 inv => ?_) m0 ⟨0, H3, J0, at4, fun b hb => (off3 b hb).1.1, w0⟩
    obtain ⟨i, H5, J5, at5, free5, w5⟩ := inv
    rcases turn i n H5 w5 with ⟨stop, done⟩ | ⟨go, Nx, again, step⟩
    · obtain ⟨xs, sq, len⟩ := stop
      obtain ⟨its, rv, pl, _⟩ := J5.list sq
      obtain ⟨x1, hx1, ne1⟩ := hotB.at J5
      obtain ⟨old, he⟩ := at5.enum
      have few := rv.length
      refine enumEnd_hot hx1 (ne1 it (by simp)) he at5.iter pl.isList (by simp; omega) fun h' ext => ?_
      obtain ⟨f0, f1, f2, f3, f4, f5⟩ := offB J5 free5 it (by simp)
      have J6 := J5.turned (t' := s5.toks) (fun b o nb z => ext b o nb z) f0 f1 f3 f4 f5
      have I7 : Inv X pins σ H5 { s5 with heap := h' } := I3.call' (ch := [en, it]) J6.os J6.base J6.hok J6.bare fun b hb => by
        obtain ⟨_, o1, _, o3, o4, o5⟩ := (off3 b hb).1
        exact ⟨o3, o1, o4, o5⟩
      have noC : H5 s3.heap.objs.size = none := by
        have z : H5 ce.locals = none := J6.free
        rwa [locs] at z
      obtain ⟨m, ns, _⟩ := J6.loc
      have ns' : h'.Ns ce.locals m := ns
      rw [locs] at ns'
      obtain ⟨c0, c1, _, c3, c4, c5⟩ := I3.fpOk (Nat.le_refl _) noC
      exact ⟨m, ns', fun h2 but => ⟨.ref D, H5, I7.turned (t' := s5.toks) (fun b o nb z => (but.2 b nb).trans z) c0 c1 c3 c4 c5, rfl, done⟩⟩
    · obtain ⟨xs, x, sq, hx⟩ := go
      refine enum_item (elts := elts) (kk := kk) (tpos := tpos) (B := X.blk s3 H3 scope ce [en, it]) J5 at5 (offB J5 free5) sq hx fun u s6 own6 => ?_
      refine own6 _ _ fun T s7 fT J7 eu at7 nT1 nT2 => ?_
      subst eu
      have free7 : ∀ b, b ∈ [en, it] → upd H5 T (.tup [.int (i : Nat), x]) b = none := fun b hb => by
        have nb : b ≠ T := by
          rcases List.mem_cons.mp hb with z | z
          · rw [z]
            exact nT1.symm
          · rw [List.mem_singleton.mp z]
            exact nT2.symm
        rw [upd_ne nb]
        exact free5 b hb
      have now := step (.ref T) _ ⟨T, x, rfl, fT, rfl, fun ys hy => by rw [J5.list_inj hy sq]; exact hx⟩
      have P7 := J7.pinned (offB J7 free7) at7.obj
      refine thnF (pg'.run _ s7 _ _ (.ref T) (.ref T) _ P7 rfl now) fun _ s8 r8 => ?_
      obtain ⟨σ8, H8, J8, w8, q8⟩ := r8
      refine thnF (pt'.run _ s8 σ8 H8 _ J8 q8) fun b s9 r9 => ?_
      obtain ⟨H9, J9, q9⟩ := r9
      have close : ∀ {s' : Shared} {H' : Hp}, Inv (X.blk s3 H3 scope ce [en, it]) ([] ++ pinsAt [en, it] s7.heap) σ8 H' s' → Nx H' → ∃ m, m < n ∧ ∃ i H', Inv (X.blk s3 H3 scope ce [en, it]) [] (wipe σ (own.map (·.2))) H' s' ∧ EnumAt a en it i s'.heap ∧ (∀ b, b ∈ [en, it] → H' b = none) ∧ W i m H' := fun {s' H'} J' nx => by
        obtain ⟨m', lt, w'⟩ := again H' nx
        have kept : ∀ b, b ∈ [en, it] → ∀ o, s7.heap.get? b = some o → s'.heap.get? b = some o ∧ H' b = none := fun b hb o z => by
          have r := J'.pin (b, o) (List.mem_append_right _ (List.mem_append_right _ (mem_pinsAt hb z)))
          exact ⟨r.1, r.2.1⟩
        refine ⟨m', lt, i + 1, H', (J'.unpinned (pins := [])).weak (by rw [← w8, wipe_length]) (fun j v z => (wipe_some (by rwa [← w8] at z)).1), at7.keep fun b hb o z => (kept b hb o z).1, fun b hb => ?_, w'⟩
        obtain ⟨o, z, _⟩ := at7.obj b hb
        exact (kept b hb o z).2
      cases b with
      | false => exact close J9 (by simpa using q9)
      | true =>
        rw [if_pos rfl] at q9 ⊢
        refine thnF (pe'.run _ s9 σ8 H9 _ J9 q9) fun z s10 r10 => ?_
        obtain ⟨yv, H10, J10, ry, acc, hD, few, nx⟩ := r10
        exact app_ok (X := X.blk s3 H3 scope ce [en, it]) J10 hD few ry fun s11 J11 => close J11 nx
  exact codeAny_compStart_list loop (by
    obtain ⟨old, z⟩ := at4.enum
    exact wpAny_pyIter_enum z loop)
end
end LR

/-! a def that is handed the exception that is handled -/
namespace LR
open PySem PySem.Spec PyProof.Rows L2 HotX
/-- a promise that speaks of the handled exception: where it stands, how -/
structure FnE (P : Program) (w : World) (K : PySem.W.Frag) (mg : Str → Option Value) (base : Heap) (k : Nat) (f : Addr) (fd : FuncData) (ps : List Str) (sp : Addr → Obj → Sp) : Prop where
  len : ∀ a oe vs H Q E, sp a oe vs H Q E → vs.length = ps.length
  run : ∀ (A : Around) (outer : List Env) (s : Shared) (H : Hp) (args : Args) (us : List Value) (vs : List V) (Q : VK) (p : Addr × Obj), L2H.RoomH k A → L2H.Hot1 A p → L2H.PinOk outer H s p → Env0 P w K mg base A outer s H → BindsTo s fd args (ps.zip us) → Vals vs us → sp p.1 p.2 vs H Q E0 →
    codeAny (model P w) A (.call (.ref f) args) (CR CX0 outer P w H s Q E0) s
section
variable {P : Program} {w : World} {K : PySem.W.Frag} {mg : Str → Option Value} {base : Heap} {k : Nat} {f : Addr} {fd : FuncData} {x qual : Str} {st : Stmt} {N ps : List Str} {sp : Addr → Obj → Sp}
theorem okE (F : Fun K x qual st f fd) (S : FnScope N ps (defScope st)) (len : ∀ a oe vs H Q E, sp a oe vs H Q E → vs.length = ps.length)
    (walk : ∀ (cdv : Value) (A : Around) (outer : List Env) (s : Shared) (H : Hp) (vs : List V) (Q : VK) (p : Addr × Obj), L2H.Hot1 A p → L2H.RoomH k (A.deeper (envOfC qual (defScope st) s.heap.objs.size f cdv)) → sp p.1 p.2 vs H Q E0 →
      ∃ t, PSs (L2H.cxH CX0 P w K mg base N qual (defScope st) f cdv A outer s H E0 p) (defBody st) t ∧ t { nx := fun _ H' => Q .non H', rt := Q } (L2.start N vs) H) : FnE P w K mg base (k + 1) f fd ps sp := by
  obtain ⟨oc, od, kV, doc, pm, an, cdv, ct, osl, rfl, lk, code⟩ := F.ex
  refine ⟨len, fun A outer s H args us vs Q p room hot pin e0 bind rel asked => ?_⟩
  have inK : K.In s.heap := e0.mod.kin.keeps fun b o z => (e0.bs b o z).1
  have free : s.heap.NoLimit := e0.mod.nolimit.keeps fun b o z => (e0.bs b o z).1
  refine codeAny_call_function room.depth (inK _ _ lk) rfl S.co S.gen rfl (PySem.W.codeRec_of inK code) (bind _ _ _ _ ?_)
  refine wpAny_newFunctionEnv_cells S.kind (fun y hy => ?_) fun env he s1 made => ?_
  · rcases S.par y.1 (List.of_mem_zip hy).1 with z | z
    · exact .inl z
    · exact .inr ⟨z, PySem.W.cellsFrom_some _ _ _ (.inl z)⟩
  · subst he
    refine ⟨free.keeps made.toInCall.keep, codeAny_func ?_⟩
    obtain ⟨t, body, read⟩ := walk cdv A outer s H vs Q p hot (room.deeper _) asked
    have I := L2H.inv_startH (CX := CX0) (E := E0) (P := P) (w := w) S pin e0 (len _ _ _ _ _ _ asked) rel made
    refine wpAny_mono (body.run [] s1 _ H _ I read) (fun fl s' out => ?_) fun _ _ z => z
    cases fl with
    | ret u =>
      obtain ⟨v, σ', H', J, rv, q⟩ := out
      exact ⟨v, H', J.os, J.bare, J.base, J.hok, rv, q⟩
    | next =>
      obtain ⟨σ', H', J, q⟩ := out
      exact ⟨V.non, H', J.os, J.bare, J.base, J.hok, rfl, q⟩
    | brk =>
      obtain ⟨_, _, _, q⟩ := out
      exact q.elim
    | cont =>
      obtain ⟨_, _, _, q⟩ := out
      exact q.elim
end
section
variable {X : Cx} {k : Nat} {f a : Addr} {oe : Obj} {fd : FuncData} {ps : List Str} {sp : Addr → Obj → Sp} {x : Str} {q pos : Pos} {e : Expr} {es : List Expr} {t : TA}
/-- such a def called where p is handled -/
theorem pe_callE (F : FnE X.prog X.w X.K X.mg X.base k f fd ps sp) (room : L2H.RoomH k X.A) (hot : L2H.Hot1 X.A (a, oe)) (mem : (a, oe) ∈ X.pn) (hg : Gl X x) (hm : X.mg x = some (.ref f)) (kp : PySem.W.keepIn X.K (.ref f) = true) (bind : Binds X.K fd ps [])
    (ha : PA X (e :: es) t) (dbg : (x == ("__debug__" : Str)) = false := by decide) (he : starEach (e :: es) X.env = (false, eval e X.env) :: starEach es X.env := by rfl) (plain : (backTo pos (starEach es X.env)).any (·.1) = false := by rfl) :
    PE X (.Call (.Name x q) (e :: es) [] pos) (fun σ H Q => t σ H fun vs H1 => sp a oe vs H1 Q E0) := by
  refine ⟨fun pins s σ H Q I h => wpAny_Call_Name_kw (ld_glob I hg hm (PySem.W.callWith_K (h₀ := X.base) I.ok.mod.kin kp (thn (ha.run pos pins s σ H _ I h) fun us s1 got => ?_) he plain) dbg)⟩
  obtain ⟨vs, H1, I1, rel, asked⟩ := got
  refine ⟨I1.kIn, ?_⟩
  obtain ⟨g, fr, nl, nf, nc⟩ := I1.pin (a, oe) (List.mem_append_left _ mem)
  have pin : L2H.PinOk X.stack H1 s1 (a, oe) := ⟨g, fr, fun m => (List.mem_cons.mp (I1.stkSub a m)).elim nl nf, nc⟩
  have many : us.length = ps.length := by rw [← rel.length, F.len _ _ _ _ _ _ asked]
  have b := bind s1 us I1.kIn (by rw [List.append_nil]; exact many)
  rw [List.append_nil] at b
  refine wpAny_call (codeAny_mono (F.run X.A X.stack s1 H1 ⟨us, []⟩ us vs Q (a, oe) room hot pin I1.env0 b rel asked) fun r s' out => ?_)
  cases r with
  | error er => exact out.elim
  | ok fl =>
    cases fl with
    | ret u => exact I1.after out
    | next => exact False.elim out
    | brk => exact False.elim out
    | cont => exact False.elim out
/-- isinstance of a pinned exception -/
def rIsPin (K : PySem.W.Frag) (a D : Addr) (d : Option Addr) : List V → Hp → VK → Prop := fun xs H Q => ∃ (c : V) (cv : Value) (b : Bool), xs = [.ref a, c] ∧ (∀ dx, d = some dx → ∃ fs, H dx = some (.xd fs)) ∧ ClsV c cv ∧ PySem.W.kitOne K (.ref D) cv = some b ∧ Q (.bl b) H
theorem call_isPin {D : Addr} {d : Option Addr} (mem : (a, oe) ∈ X.pn) (z : Zc (.ref D) d oe) (fl : ∃ vs, oe.data = .fields vs) (T : ExcC X.K D) : CallR X (.builtin "isinstance") (rIsPin X.K a D d) := by
  intro pins s σ H xs us Q I r h
  obtain ⟨c, cv, b, rfl, hd, kc, ans, q⟩ := h
  obtain ⟨u1, u2, rfl, r1, r2⟩ := vals2 r
  obtain rfl := kc.eq r2
  obtain rfl : u1 = Value.ref a := r1
  obtain ⟨get, _⟩ := I.pin (a, oe) (List.mem_append_left _ mem)
  obtain ⟨vs, dv⟩ := fl
  have known : (PySem.W.clsIn X.K D).isSome = true := by
    obtain ⟨cd, hc, _⟩ := PySem.W.any_some T.hd
    rw [hc]
    rfl
  have J : ∃ od, PySem.W.InstAt s.heap a oe D od := by
    cases d with
    | none => exact ⟨none, get, z.1, by unfold PySem.W.notCls; rw [dv] <;> rfl, by rw [z.2]; trivial⟩
    | some dx =>
      obtain ⟨fs, hx⟩ := hd dx rfl
      obtain ⟨mA, hns, _⟩ := (show ObjOk X.prog X.w H s.heap dx (.xd fs) from I.hok dx _ hx)
      obtain ⟨o, ho, _⟩ := lookIn_ns hns
      exact ⟨some o, get, z.1, by unfold PySem.W.notCls; rw [dv] <;> rfl, by rw [z.2]; exact ho⟩
  obtain ⟨od, J⟩ := J
  exact PySem.W.kia_one (PySem.W.kitx_exc known T.hg T.hk T.hs T.ha T.hn T.ht T.hm) I.kIn J ans (fun z => nomatch z) fun tk => ⟨.bl b, H, I.tok tk, rfl, q⟩
end
end LR

namespace LK
open PySem PySem.Spec PyProof.Rows L2 LR
/-- the handled exception's own dict, where it has one -/
structure DictX (H : Hp) (d : Option Addr) : Prop where
  dict : ∀ dx, d = some dx → ∃ fs, H dx = some (.xd fs)
theorem DictX.same {H H' : Hp} {d : Option Addr} (s : Same H H') (h : DictX H d) : DictX H' d :=
  ⟨fun dx e => by
    obtain ⟨fs, q⟩ := h.dict dx e
    exact ⟨fs, s _ _ q⟩⟩
def spRefE (K : PySem.W.Frag) (C : Nat → Addr) (a : Addr) (oe : Obj) : Sp := fun vs H Q _ => ∃ (D : Addr) (d : Option Addr) (b : Nat → Bool), vs = [.ref a] ∧ Zc (.ref D) d oe ∧ (∃ fs, oe.data = .fields fs) ∧ DictX H d ∧ ExcC K D ∧ (∀ j, j < 12 → PySem.W.kitOne K (.ref D) (.ref (C j)) = some (b j)) ∧
  ∀ p H', Same H H' → H' p = some (.lst ((ix ((List.range 12).map b) 0).map V.int)) → Q (.ref p) H'
section
variable {P : Program} {w : World} {K : PySem.W.Frag} {mg : Str → Option Value} {base : Heap}
theorem ok_refusedE {C fE : Nat → Addr} {B f : Addr} {fdE : Nat → FuncData} {fd : FuncData} (S : Std mg) (G : Errs K mg C B fE fdE) (F : Fun K "_law_refused" "_law_refused" sRefused f fd) : FnE P w K mg base 1 f fd ["_law_e"] (spRefE K C) := by
  have e0 := G.er 0 (by decide)
  have e1 := G.er 1 (by decide)
  have e2 := G.er 2 (by decide)
  have e3 := G.er 3 (by decide)
  have e4 := G.er 4 (by decide)
  have e5 := G.er 5 (by decide)
  have e6 := G.er 6 (by decide)
  have e7 := G.er 7 (by decide)
  have e8 := G.er 8 (by decide)
  have e9 := G.er 9 (by decide)
  have e10 := G.er 10 (by decide)
  refine okE F scRef (fun a oe vs H Q E h => ?_) (fun cdv A outer s H vs Q pe0 hot hr h => ?_)
  · obtain ⟨D, d, b, rfl, _⟩ := h
    rfl
  · obtain ⟨D, d, b, rfl, zc, fl, x0, ex, kk, q⟩ := h
    obtain ⟨a, oe⟩ := pe0
    have hc : L2H.HotC (L2H.cxH CX0 P w K mg base nRef "_law_refused" (defScope sRefused) f cdv A outer s H E0 (a, oe)) := ⟨(a, oe), hot, List.mem_singleton.mpr rfl⟩
    have mem : (a, oe) ∈ (L2H.cxH CX0 P w K mg base nRef "_law_refused" (defScope sRefused) f cdv A outer s H E0 (a, oe)).pn := List.mem_singleton.mpr rfl
    refine ⟨_, pss_cons (ps_set (i := 1) scRef.nd rfl (Or.inl rfl) (pe_lst (pa_cons (pe_callB (call_isPin mem zc fl ex) (by rfl) S.isi (by decide +kernel) (pa_cons (pv 0) (pa_cons (pe_glob (v := .ref (C 0)) rfl e0.g rfl) pa_nil))) (pa_cons (pe_callB (call_isPin mem zc fl ex) (by rfl) S.isi (by decide +kernel) (pa_cons (pv 0) (pa_cons (pe_glob (v := .ref (C 1)) rfl e1.g rfl) pa_nil))) (pa_cons (pe_callB (call_isPin mem zc fl ex) (by rfl) S.isi (by decide +kernel) (pa_cons (pv 0) (pa_cons (pe_glob (v := .ref (C 2)) rfl e2.g rfl) pa_nil))) pa_nil)))))
      (pss_cons (ps_set (i := 1) scRef.nd rfl (Or.inl rfl) (pe_op op_cat (pv 1) (pe_lst (pa_cons (pe_callB (call_isPin mem zc fl ex) (by rfl) S.isi (by decide +kernel) (pa_cons (pv 0) (pa_cons (pe_glob (v := .ref (C 3)) rfl e3.g rfl) pa_nil))) (pa_cons (pe_callB (call_isPin mem zc fl ex) (by rfl) S.isi (by decide +kernel) (pa_cons (pv 0) (pa_cons (pe_glob (v := .ref (C 4)) rfl e4.g rfl) pa_nil))) (pa_cons (pe_callB (call_isPin mem zc fl ex) (by rfl) S.isi (by decide +kernel) (pa_cons (pv 0) (pa_cons (pe_glob (v := .ref (C 5)) rfl e5.g rfl) pa_nil))) pa_nil))))))
      (pss_cons (ps_set (i := 1) scRef.nd rfl (Or.inl rfl) (pe_op op_cat (pv 1) (pe_lst (pa_cons (pe_callB (call_isPin mem zc fl ex) (by rfl) S.isi (by decide +kernel) (pa_cons (pv 0) (pa_cons (pe_glob (v := .ref (C 6)) rfl e6.g rfl) pa_nil))) (pa_cons (pe_callB (call_isPin mem zc fl ex) (by rfl) S.isi (by decide +kernel) (pa_cons (pv 0) (pa_cons (pe_glob (v := .ref (C 7)) rfl e7.g rfl) pa_nil))) (pa_cons (pe_callB (call_isPin mem zc fl ex) (by rfl) S.isi (by decide +kernel) (pa_cons (pv 0) (pa_cons (pe_glob (v := .ref (C 8)) rfl e8.g rfl) pa_nil))) pa_nil))))))
      (pss_cons (ps_set (i := 1) scRef.nd rfl (Or.inl rfl) (pe_op op_cat (pv 1) (pe_lst (pa_cons (pe_callB (call_isPin mem zc fl ex) (by rfl) S.isi (by decide +kernel) (pa_cons (pv 0) (pa_cons (pe_glob (v := .ref (C 9)) rfl e9.g rfl) pa_nil))) (pa_cons (pe_callB (call_isPin mem zc fl ex) (by rfl) S.isi (by decide +kernel) (pa_cons (pv 0) (pa_cons (pe_glob (v := .ref (C 10)) rfl e10.g rfl) pa_nil))) (pa_cons (pe_callB (call_isPin mem zc fl ex) (by rfl) S.isi (by decide +kernel) (pa_cons (pv 0) (pa_cons (pe_glob (v := .ref (C 11)) rfl G.imp.g rfl) pa_nil))) pa_nil))))))
      (pss_one (ps_ret (pe_lcEH (own := [("_law_at", 2), ("_law_one", 3)]) (g := gTup K 2 (gCons (gName 2) (gCons (gName 3) gNil))) (tt := tB (tVar 3)) hc scRef.nd (by rfl) S.enumerate (pa_cons (pv 1) pa_nil) (blkOk_by (N := nRef) (sc := defScope sRefused) (by decide +kernel))
          (fun _ _ _ _ _ hb => pg_tupH hb (pgs_cons (pg_name (i := 2) scRef.nd rfl (Or.inl rfl)) (pgs_cons (pg_name (i := 3) scRef.nd rfl (Or.inl rfl)) pgs_nil))) (fun _ _ _ _ _ => pts_one (pt_val (pv 3)))
          (fun _ _ _ _ _ => pv 2))))))), ?_⟩
    refine ⟨_, rfl, _, _, b 0, rfl, x0.dict, .own (C 0), kk 0 (by decide), _, rfl, _, _, b 1, rfl, x0.dict, .own (C 1), kk 1 (by decide), _, rfl, _, _, b 2, rfl, x0.dict, .own (C 2), kk 2 (by decide), by show 3 ≤ sizeLine; decide, fun p1 hp1 => ?_⟩
    have s1 : Same H (upd H p1 (.lst [.bl (b 0), .bl (b 1), .bl (b 2)])) := same_new hp1
    have x1 := x0.same s1
    have h1 : (upd H p1 (.lst [.bl (b 0), .bl (b 1), .bl (b 2)])) p1 = some (.lst [.bl (b 0), .bl (b 1), .bl (b 2)]) := upd_same
    generalize upd H p1 (.lst [.bl (b 0), .bl (b 1), .bl (b 2)]) = H1 at s1 x1 h1 ⊢
    refine ⟨_, rfl, _, rfl, _, _, b 3, rfl, x1.dict, .own (C 3), kk 3 (by decide), _, rfl, _, _, b 4, rfl, x1.dict, .own (C 4), kk 4 (by decide), _, rfl, _, _, b 5, rfl, x1.dict, .own (C 5), kk 5 (by decide), by show 3 ≤ sizeLine; decide, fun m1 hm1 => ⟨p1, m1, _, _, rfl, rfl, same_new hm1 _ _ h1, upd_same, by show 6 ≤ sizeLine; decide, fun p2 hp2 => ?_⟩⟩
    have s2 : Same H (upd (upd H1 m1 (.lst [.bl (b 3), .bl (b 4), .bl (b 5)])) p2 (.lst ([.bl (b 0), .bl (b 1), .bl (b 2)] ++ [.bl (b 3), .bl (b 4), .bl (b 5)]))) := (s1.trans (same_new hm1)).trans (same_new hp2)
    have x2 := x0.same s2
    have h2 : (upd (upd H1 m1 (.lst [.bl (b 3), .bl (b 4), .bl (b 5)])) p2 (.lst ([.bl (b 0), .bl (b 1), .bl (b 2)] ++ [.bl (b 3), .bl (b 4), .bl (b 5)]))) p2 = some (.lst ([.bl (b 0), .bl (b 1), .bl (b 2)] ++ [.bl (b 3), .bl (b 4), .bl (b 5)])) := upd_same
    generalize upd (upd H1 m1 (.lst [.bl (b 3), .bl (b 4), .bl (b 5)])) p2 (.lst ([.bl (b 0), .bl (b 1), .bl (b 2)] ++ [.bl (b 3), .bl (b 4), .bl (b 5)])) = H2 at s2 x2 h2 ⊢
    refine ⟨_, rfl, _, rfl, _, _, b 6, rfl, x2.dict, .own (C 6), kk 6 (by decide), _, rfl, _, _, b 7, rfl, x2.dict, .own (C 7), kk 7 (by decide), _, rfl, _, _, b 8, rfl, x2.dict, .own (C 8), kk 8 (by decide), by show 3 ≤ sizeLine; decide, fun m2 hm2 => ⟨p2, m2, _, _, rfl, rfl, same_new hm2 _ _ h2, upd_same, by show 9 ≤ sizeLine; decide, fun p3 hp3 => ?_⟩⟩
    have s3 : Same H (upd (upd H2 m2 (.lst [.bl (b 6), .bl (b 7), .bl (b 8)])) p3 (.lst (([.bl (b 0), .bl (b 1), .bl (b 2)] ++ [.bl (b 3), .bl (b 4), .bl (b 5)]) ++ [.bl (b 6), .bl (b 7), .bl (b 8)]))) := (s2.trans (same_new hm2)).trans (same_new hp3)
    have x3 := x0.same s3
    have h3 : (upd (upd H2 m2 (.lst [.bl (b 6), .bl (b 7), .bl (b 8)])) p3 (.lst (([.bl (b 0), .bl (b 1), .bl (b 2)] ++ [.bl (b 3), .bl (b 4), .bl (b 5)]) ++ [.bl (b 6), .bl (b 7), .bl (b 8)]))) p3 = some (.lst (([.bl (b 0), .bl (b 1), .bl (b 2)] ++ [.bl (b 3), .bl (b 4), .bl (b 5)]) ++ [.bl (b 6), .bl (b 7), .bl (b 8)])) := upd_same
    generalize upd (upd H2 m2 (.lst [.bl (b 6), .bl (b 7), .bl (b 8)])) p3 (.lst (([.bl (b 0), .bl (b 1), .bl (b 2)] ++ [.bl (b 3), .bl (b 4), .bl (b 5)]) ++ [.bl (b 6), .bl (b 7), .bl (b 8)])) = H3 at s3 x3 h3 ⊢
    refine ⟨_, rfl, _, rfl, _, _, b 9, rfl, x3.dict, .own (C 9), kk 9 (by decide), _, rfl, _, _, b 10, rfl, x3.dict, .own (C 10), kk 10 (by decide), _, rfl, _, _, b 11, rfl, x3.dict, .own (C 11), kk 11 (by decide), by show 3 ≤ sizeLine; decide, fun m3 hm3 => ⟨p3, m3, _, _, rfl, rfl, same_new hm3 _ _ h3, upd_same, by show 12 ≤ sizeLine; decide, fun p4 hp4 => ?_⟩⟩
    have s4 : Same H (upd (upd H3 m3 (.lst [.bl (b 9), .bl (b 10), .bl (b 11)])) p4 (.lst ((([.bl (b 0), .bl (b 1), .bl (b 2)] ++ [.bl (b 3), .bl (b 4), .bl (b 5)]) ++ [.bl (b 6), .bl (b 7), .bl (b 8)]) ++ [.bl (b 9), .bl (b 10), .bl (b 11)]))) := (s3.trans (same_new hm3)).trans (same_new hp4)
    have x4 := x0.same s4
    have h4 : (upd (upd H3 m3 (.lst [.bl (b 9), .bl (b 10), .bl (b 11)])) p4 (.lst ((([.bl (b 0), .bl (b 1), .bl (b 2)] ++ [.bl (b 3), .bl (b 4), .bl (b 5)]) ++ [.bl (b 6), .bl (b 7), .bl (b 8)]) ++ [.bl (b 9), .bl (b 10), .bl (b 11)]))) p4 = some (.lst ((([.bl (b 0), .bl (b 1), .bl (b 2)] ++ [.bl (b 3), .bl (b 4), .bl (b 5)]) ++ [.bl (b 6), .bl (b 7), .bl (b 8)]) ++ [.bl (b 9), .bl (b 10), .bl (b 11)])) := upd_same
    generalize upd (upd H3 m3 (.lst [.bl (b 9), .bl (b 10), .bl (b 11)])) p4 (.lst ((([.bl (b 0), .bl (b 1), .bl (b 2)] ++ [.bl (b 3), .bl (b 4), .bl (b 5)]) ++ [.bl (b 6), .bl (b 7), .bl (b 8)]) ++ [.bl (b 9), .bl (b 10), .bl (b 11)])) = H4 at s4 x4 h4 ⊢
    have hb : H4 p4 = some (.lst (((List.range 12).map b).map V.bl)) := h4
    clear h4
    generalize hB : (List.range 12).map b = bs at hb q
    have hlen : bs.length = 12 := by rw [← hB]; rfl
    refine ⟨_, rfl, p4, _, rfl, SqL.of hb, fun D' hD => lc_enum (xs := bs.map V.bl) (fun i H5 => Keep D' H H5 ∧ H5 p4 = some (.lst (bs.map V.bl)) ∧ H5 D' = some (.lst ((ix (bs.take i) 0).map V.int)))
      ⟨(Keep.same s4).trans (Keep.new hD), by rw [upd_ne (ne_of_none hb hD)]; exact hb, upd_same⟩ (fun i H5 h => SqL.of h.2.1) (fun i x T H5 hx h hT => ?_) (fun H5 h => ?_)⟩
    · obtain ⟨k5, b5, d5⟩ := h
      rw [List.getElem?_map] at hx
      obtain ⟨c, hc, rfl⟩ := Option.map_eq_some_iff.mp hx
      have lt : i < bs.length := (List.getElem?_eq_some_iff.mp hc).1
      have tk : bs.take (i + 1) = bs.take i ++ [c] := by
        rw [List.take_add_one, hc]
        rfl
      have ln : (bs.take i).length = i := by rw [List.length_take]; omega
      have u5 : Same H5 (upd H5 T (.tup [.int (i : Nat), .bl c])) := same_new hT
      refine ⟨T, _, rfl, SqT.of upd_same, rfl, _, _, rfl, _, _, rfl, rfl, rfl, _, rfl, c, rfl, ?_⟩
      have pD : p4 ≠ D' := ne_of_none hb hD
      cases c with
      | true =>
        refine iteT ⟨_, rfl, _, u5 _ _ d5, ?_, ?_, ?_, ?_⟩
        · rw [List.length_map]
          have := ix_len (bs.take i) 0
          exact small1000 (by omega)
        · intro b' o n e
          rw [upd_ne n]
          exact u5 _ _ (k5 b' o n e)
        · rw [upd_ne pD]
          exact u5 _ _ b5
        · rw [upd_same, tk, ix_add, List.map_append, ln, Nat.zero_add]
          rfl
      | false =>
        refine iteF ⟨?_, ?_, ?_⟩
        · exact fun b' o n e => u5 _ _ (k5 b' o n e)
        · exact u5 _ _ b5
        · rw [tk, ix_add, u5 _ _ d5]
          simp
    · obtain ⟨k5, b5, d5⟩ := h
      rw [List.length_map, List.take_length] at d5
      exact q D' H5 (fun b' o e => k5 b' o (ne_of_none e (s4.free hD)) e) d5
end
end LK

/-! own errors with an __init__, raised and let out; instances whose __init__ may raise -/
namespace LR
open PySem PySem.Spec PyProof.Rows L2
/-- a def that may let an error out -/
theorem okN {P : Program} {w : World} {K : PySem.W.Frag} {mg : Str → Option Value} {base : Heap} {x qual : Str} {st : Stmt} {f : Addr} {fd : FuncData} {N ps : List Str} {k : Nat} {sp : Sp} (F : Fun K x qual st f fd) (S : FnScope N ps (defScope st)) (len : ∀ vs H Q E, sp vs H Q E → vs.length = ps.length)
    (walk : ∀ (cdv : Value) (A : Around) (outer : List Env) (s : Shared) (H : Hp) (vs : List V) (Q : VK) (E : XK), Room k (A.deeper (envOfC qual (defScope st) s.heap.objs.size f cdv)) → sp vs H Q E →
      ∃ t, PSs (cxOf (L2N.CX P w) P w K mg base N qual (defScope st) f cdv A outer s H E) (defBody st) t ∧ t { nx := fun _ H' => Q .non H', rt := Q } (start N vs) H) : FnOk P w K mg base (L2N.CX P w) (k + 1) f fd ps sp := by
  obtain ⟨oc, od, kV, doc, pm, an, cdv, ct, osl, rfl, lk, code⟩ := F.ex
  exact fn_of lk code S len fun A outer s H vs Q E room asked => walk cdv A outer s H vs Q E room asked
section
variable {X : Cx} {e : Expr} {es : List Expr} {ta : TA} {p pos : Pos} {x : Str} {C fI : Addr} {k : Nat} {fd : FuncData} {ps : List Str} {sp : Sp}
/-- raise Err(e, ..): the object is let go -/
theorem pmk_errN (T : OexC X.K C) (iC : PySem.W.findIn X.K (.ref C) "__init__" = some (some (.ref fI))) (tI : PySem.W.typeIn X.K (.ref fI) = some (.type "function")) (F1 : FnOk X.prog X.w X.K X.mg X.base CX0 k fI fd ps sp) (room : Room (k + 1) X.A) (bind : Binds X.K fd ps [])
    (hg : Gl X x) (hm : X.mg x = some (.ref C)) (ha : PA X (e :: es) ta) (dbg : (x == ("__debug__" : Str)) = false := by decide) (he : starEach (e :: es) X.env = (false, eval e X.env) :: starEach es X.env := by rfl) (plain : (backTo pos (starEach es X.env)).any (·.1) = false := by rfl) :
    L2N.PMk X (.Call (.Name x p) (e :: es) [] pos) (tMkO C sp [] ta) := by
  intro pins s σ H Q I h
  obtain ⟨nm, q, N, bs, bm, sn, sub, ab, col, dd, k0, k1, k2, k3, k5, hC, hbm⟩ := T.cls
  refine wpAny_Call_Name_kw (ld_glob I hg hm (PySem.W.callWith_K (h₀ := X.base) I.ok.mod.kin T.kC (thn (ha.run pos pins s σ H _ I h) fun us s1 got => ?_) he plain) dbg)
  obtain ⟨vs, H1, I1, r1, few1, q1⟩ := got
  refine ⟨I1.kIn, ?_⟩
  obtain ⟨hp, g, dr, tk, os⟩ := s1
  have new := q1 (hp.objs.size + 1) (I1.hok.fresh (Nat.le_succ _))
  rw [List.append_nil] at new
  have keep : ∀ b o, hp.get? b = some o → ((hp.push (PySem.W.kdv_tup us)).push (PySem.HandSPX.excO C hp.objs.size)).get? b = some o := fun b o z => Heap.get?_push_of_some _ (Heap.get?_push_of_some _ z)
  have J := I1.laid (t' := tk) keep (Nat.le_succ hp.objs.size) (exo_ok (C := C) (d := none) (t1 := hp.objs.size) (by heap_get))
  have rels : Vals (V.ref (hp.objs.size + 1) :: vs) (Value.ref (hp.objs.size + 1) :: us) := .cons rfl r1
  have many : (Value.ref (hp.objs.size + 1) :: us).length = ps.length := by rw [← rels.length, F1.len _ _ _ _ new]
  have few : us.length ≤ sizeLine := by rw [← Paired.length r1, sizeLine_eq]; omega
  have bound := bind _ (Value.ref (hp.objs.size + 1) :: us) J.kIn (by simpa using many)
  rw [List.append_nil] at bound
  refine wpAny_call (PySem.HandSPX.call_own F.excBase_ValueError (fun Y => PySem.HandSPX.refsVE_contains Y bm hbm) (I1.kIn _ _ hC) (PySem.W.looks_findIn I1.kIn iC) (fun self => PySem.W.bind_fn I1.kIn self tI) few
    (codeAny_mono (F1.run _ X.stack _ _ _ _ _ _ E0 (room.make C us []) (J.env0.make C us []) bound rels new) fun r s' out => ?_))
  cases r with
  | error er => exact out.elim
  | ok fl =>
    cases fl with
    | ret u =>
      obtain ⟨v, H2, os2, bare2, un2, hok2, rv, ev, d, fs, ea, ed, hd1, q2⟩ := out
      subst ev
      obtain ⟨h2, g2, d2, t2, os'⟩ := s'
      obtain ⟨t0, G, J2, kG, ge, hoe, na⟩ := mk_end0 (d2 := d2) (t2 := t2) I1 (Nat.le_succ hp.objs.size) keep un2 hok2 os2 bare2 ea ed hd1
      refine ⟨rv, hp.objs.size + 1, _, _, ⟨G, g2, d2, t2, os'⟩, _, .ref C, some d, rfl, J2, kG, ge, hoe, ⟨rfl, rfl, fun vs hv => ?_⟩, rfl, rfl, na, rfl, bare2, raises_own T.exC T.tyC, q2⟩
      cases hv
      rfl
    | next => exact False.elim out
    | brk => exact False.elim out
    | cont => exact False.elim out
end
/-- C(e, ..), whose __init__ may let an error out at the slots that stand -/
def tMakeS (C : Addr) (sp : Sp) (E : L2.St → XK) (t : TA) : TE := fun σ H Q => t σ H fun vs H1 => ∀ x dx, H1 x = none → H1 dx = none → dx ≠ x → sp (.ref x :: vs) (upd (upd H1 dx (.own x)) x (.ins C dx [])) (fun v H2 => v = .non ∧ Q (.ref x) H2) (E σ)
section
variable {X : Cx} {CX : CXT} {e : Expr} {es : List Expr} {t : TA} {p pos : Pos} {x : Str} {C f : Addr} {k : Nat} {fd : FuncData} {ps : List Str} {sp : Sp} {E : L2.St → XK}
theorem pe_makeS (M : Mk X.K C f) (F : FnOk X.prog X.w X.K X.mg X.base CX k f fd ps sp) (room : Room (k + 1) X.A) (hg : Gl X x) (hm : X.mg x = some (.ref C)) (bind : Binds X.K fd ps []) (out : ∀ σ, PassesAt CX X σ (E σ))
    (ha : PA X (e :: es) t) (dbg : (x == ("__debug__" : Str)) = false := by decide) (he : starEach (e :: es) X.env = (false, eval e X.env) :: starEach es X.env := by rfl) (plain : (backTo pos (starEach es X.env)).any (·.1) = false := by rfl) :
    PE X (.Call (.Name x p) (e :: es) [] pos) (tMakeS C sp E t) := by
  refine ⟨fun pins s σ H Q I h => wpAny_Call_Name_kw (ld_glob I hg hm (PySem.W.callWith_K (h₀ := X.base) I.ok.mod.kin M.kp (thn (ha.run pos pins s σ H _ I h) fun us s1 got => ?_) he plain) dbg)⟩
  obtain ⟨vs, H1, I1, r1, q1⟩ := got
  refine ⟨I1.kIn, ?_⟩
  have asked := q1 (s1.heap.objs.size + 1) s1.heap.objs.size (I1.hok.fresh (Nat.le_succ _)) (I1.hok.fresh (Nat.le_refl _)) (Nat.ne_of_lt (Nat.lt_succ_self _))
  have J := Inv.made (C := C) I1
  have rels : Vals (V.ref (s1.heap.objs.size + 1) :: vs) (Value.ref (s1.heap.objs.size + 1) :: us) := .cons rfl r1
  have many : (Value.ref (s1.heap.objs.size + 1) :: us).length = ps.length := by rw [← rels.length, F.len _ _ _ _ asked]
  have bound := bind _ (Value.ref (s1.heap.objs.size + 1) :: us) J.kIn (by simpa using many)
  rw [List.append_nil] at bound
  refine wpAny_call (make_map (f := f) I1.kIn M.makes M.init (beq_iff_eq.mp M.fn) (codeAny_mono (F.run _ X.stack _ _ ⟨Value.ref (s1.heap.objs.size + 1) :: us, []⟩ _ _ _ (E σ) (room.make C us []) (J.env0.make C us []) bound rels asked) fun r s' res => ?_))
  cases r with
  | error er => exact out σ pins _ _ er s' J res
  | ok fl =>
    cases fl with
    | ret u =>
      obtain ⟨v, H2, J2, rv, ev, q3⟩ := J.after res
      subst ev
      exact ⟨rv, ⟨V.ref (s1.heap.objs.size + 1), H2, J2, rfl, q3⟩⟩
    | next => exact False.elim res
    | brk => exact False.elim res
    | cont => exact False.elim res
end
end LR

/-! str(x) by an own __str__ -/
namespace LR
open PySem PySem.Spec PyProof.Rows L2
section
variable {X : Cx} {CX : CXT} {n : Nat} {f C : Addr} {fd : FuncData} {ps : List Str} {sp : Sp} {E : XK}
theorem call_strOwn (F : FnOk X.prog X.w X.K X.mg X.base CX n f fd ps sp) (hs : PySem.W.findIn X.K (.ref C) "__str__" = some (some (.ref f))) (hf : PySem.W.isFn X.K (.ref f) = true) (hb : Binds X.K fd ps []) (hx : Passes CX X E) (hr : Room (n + 2) X.A) :
    CallR X (.type "str") (fun xs H Q => ∃ a dx fs, xs = [V.ref a] ∧ H a = some (.ins C dx fs) ∧ sp [V.ref a] H (fun v H' => ∃ z : Str, v = .str z ∧ Q (.str z) H') E) := by
  intro pins s σ H xs us Q I r h
  obtain ⟨a, dx, fs, rfl, ha, h⟩ := h
  have e := vals1r r
  subst e
  obtain ⟨mA, J, _⟩ := ins_get I.hok ha
  obtain ⟨od, J, _⟩ := J.look
  refine PySem.W.kso_call hr.in1.in1.units0 I.kIn J hs hf ?_
  refine wpAny_mono (call_run (A := X.A.in1.in1) ⟨hr.in1.in1, rfl⟩ F hb hx I (.cons (show RelV (V.ref a) (Value.ref a) from rfl) .nil) h) (fun v s' q => ?_) fun _ _ z => z
  obtain ⟨y, H', I', ry, z, rfl, q⟩ := q
  obtain ⟨t, rfl⟩ := ry
  exact ⟨.str z, H', I', ⟨_, rfl⟩, q⟩
end
end LR

/-! x != y where x's class has an own __eq__ and no own __ne__ -/
namespace LR
open PySem PySem.Spec PyProof.Rows L2
theorem slotNe : Slot "object" "__ne__" "object.__ne__" :=
  Slot.of (owner := "object") (n := "__ne__") (by rw [typeLookup_type, builtinLookup_eq_fast]; kernel_rfl) F.cmpSplit_ne (by decide +kernel) (by decide +kernel) (.inl (by decide +kernel)) (by rw [isSubtype_type]; kernel_rfl)
section
variable {prog : Program} {w : World} {A : Around} {E : Value → Shared → Prop} {s : Shared} {K : PySem.W.Frag} {x C f : Addr} {ox : Obj} {od : Option Obj} {b : Value}
/-- the inherited __ne__ is asked -/
theorem ask_ne {M : Model} {Q : Option Value → Shared → Prop} (X : K.In s.heap) (I : PySem.W.InstAt s.heap x ox C od) (hn : PySem.W.findIn K (.ref C) "__ne__" = some (some (.builtin "object.__ne__")))
    (h : wpAny M A (call (.builtin "object.__ne__") [.ref x, b]) (fun v => Q (some v)) E s) : wpAny M A (callSpecialIfBound? (.ref x) "__ne__" [b]) Q E s := by
  simp only [callSpecialIfBound?, bindSpecialIfBound?]
  apply wpAny_holding
  apply wpAny_bind
  apply wpAny_bind
  apply wpAny_bind
  refine I.type.here ((PySem.W.looks_findIn X hn).here ?_)
  refine wpAny_bind (wpAny_askSetting (wpAny_ite ?_))
  have last : wpAny M A (call (.builtin "object.__ne__") ([.ref x] ++ [b]) >>= fun v => pure (some v)) Q E s := wpAny_bind (wpAny_mono h (fun v s' z => wpAny_pure z) fun _ _ z => z)
  have bound : wpAny M A (bindSpecial (.builtin "object.__ne__") (.ref x)) (fun r s' => r = (.builtin "object.__ne__", [.ref x]) ∧ s' = s) E s := wpAny_of_eq (slotNe.bind _) ⟨rfl, rfl⟩
  split
  · refine wpAny_bind (wpAny_mono bound (fun r s' z => ?_) fun _ _ z => z)
    obtain ⟨rfl, rfl⟩ := z
    exact wpAny_pure (by exact last)
  · refine wpAny_tryCatch (wpAny_bind (wpAny_of_eq (slotNe.bind _) (wpAny_pure (by exact last))))
/-- object.__ne__: the own __eq__, turned -/
theorem run_ne {Q : Value → Shared → Prop} (hu : A.units + 1 < cLine) (X : K.In s.heap) (I : PySem.W.InstAt s.heap x ox C od) (ob : PySem.W.mroIn K C (.type "object") = some true) (hs : PySem.W.findIn K (.ref C) "__eq__" = some (some (.ref f))) (hf : PySem.W.isFn K (.ref f) = true)
    (h : wpAny (model prog w) A.in1 (call (.ref f) [.ref x, b]) (fun v s' => ∃ r, v = .bool r ∧ Q (.bool (!r)) s') E s) : wpAny (model prog w) A (call (.builtin "object.__ne__") [.ref x, b]) Q E s := by
  have isObj : PySem.W.Looks (model prog w) s.heap (isInstance (.ref x) (.type "object")) true := I.type.andThen (PySem.W.looks_mroIn X ob)
  refine wpAny_call (codeAny_call_builtin slotNe.plain F.cmpEntry_ne (PySem.W.check_slot F.cmpKind_ne F.cmpSplit_ne isObj (F.cmpArgs_ne _ _) ?_))
  unfold Builtin.«object.__ne__»
  refine wpAny_bind (wpAny_of_eq (a := ((Value.ref x : Value), [b])) (by simp only [slotArgs]; rfl) ?_)
  refine wpAny_bind (wpAny_cRoomFor hu ?_)
  refine wpAny_bind (PySem.W.ifBound_K X I hs hf (wpAny_mono h (fun v s' z => ?_) fun _ _ z => z))
  obtain ⟨r, rfl, q⟩ := z
  refine wpAny_bind (wpAny_truthy_bool ?_)
  exact wpAny_pure q
theorem cmp_ne {Q : Value → Shared → Prop} {tb : Value} (hu : A.units + 2 < cLine) (X : K.In s.heap) (I : PySem.W.InstAt s.heap x ox C od) (hb : PySem.W.Looks (model prog w) s.heap (typeOf b) tb) (hn : PySem.W.notFirst K C tb = true) (ob : PySem.W.mroIn K C (.type "object") = some true)
    (hne : PySem.W.findIn K (.ref C) "__ne__" = some (some (.builtin "object.__ne__"))) (hs : PySem.W.findIn K (.ref C) "__eq__" = some (some (.ref f))) (hf : PySem.W.isFn K (.ref f) = true)
    (h : wpAny (model prog w) A.in1 (call (.ref f) [.ref x, b]) (fun v s' => ∃ r, v = .bool r ∧ Q (.bool (!r)) s') E s) : wpAny (model prog w) A (richCompare .NotEq (.ref x) b) Q E s := by
  have one : wpAny (model prog w) A (tryCompare (.ref x) "__ne__" b) (fun r s' => ∃ v, r = some v ∧ Q v s') E s := by
    unfold tryCompare
    refine wpAny_bind (ask_ne X I hne (run_ne (by omega) X I ob hs hf (wpAny_mono h (fun v s' z => ?_) fun _ _ z => z)))
    obtain ⟨r, rfl, q⟩ := z
    exact ⟨r, rfl, wpAny_pure ⟨_, rfl, q⟩⟩
  unfold richCompare
  simp only [oneThing_ref]
  apply wpAny_holding
  refine wpAny_bind (wpAny_cRoomFor (by omega) (wpAny_bind (I.type.here (wpAny_bind (hb.here ?_)))))
  have fin : ∀ {r : Option Value} {s' : Shared}, (∃ v, r = some v ∧ Q v s') → wpAny (model prog w) A (pure r) (fun r s' => ∃ v, r = some v ∧ Q v s') E s' := fun z => wpAny_pure z
  split
  · rename_i other
    have below : PySem.W.subIn K tb (.ref C) = some false := by
      rcases Bool.or_eq_true_iff.mp hn with z | z
      · rw [beq_iff_eq.mp z] at other
        simp at other
      · exact beq_iff_eq.mp z
    refine wpAny_bind ((PySem.W.looks_subIn X below).here ?_)
    simp only [Bool.false_eq_true, if_false]
    refine wpAny_bind (wpAny_mono one (fun r s' z => ?_) fun _ _ z => z)
    obtain ⟨v, rfl, q⟩ := z
    exact wpAny_pure q
  · refine wpAny_bind (wpAny_pure ?_)
    simp only [Bool.false_eq_true, if_false]
    refine wpAny_bind (wpAny_mono one (fun r s' z => ?_) fun _ _ z => z)
    obtain ⟨v, rfl, q⟩ := z
    exact wpAny_pure q
end
section
variable {X : Cx} {CX : CXT} {n : Nat} {f C : Addr} {fd : FuncData} {ps : List Str} {sp : Sp} {E : XK}
theorem op_neOwn (F : FnOk X.prog X.w X.K X.mg X.base CX n f fd ps sp) (hs : PySem.W.findIn X.K (.ref C) "__eq__" = some (some (.ref f))) (hf : PySem.W.isFn X.K (.ref f) = true) (hne : PySem.W.findIn X.K (.ref C) "__ne__" = some (some (.builtin "object.__ne__"))) (ob : PySem.W.mroIn X.K C (.type "object") = some true) (hb : Binds X.K fd ps []) (hx : Passes CX X E) (hr : Room (n + 1) X.A) :
    OpR X (compareOp .NotEq) (fun x y H Q => ∃ a dx fs t, x = V.ref a ∧ H a = some (.ins C dx fs) ∧ TyX X.K H y t ∧ PySem.W.notFirst X.K C t = true ∧ sp [V.ref a, y] H (fun v H' => ∃ b, v = .bl b ∧ Q (.bl (!b)) H') E) := by
  intro pins s σ H x y v u Q I rx ry h
  obtain ⟨a, dx, fs, t, rfl, ha, ty, nf, h⟩ := h
  cases rx
  obtain ⟨mA, J, _⟩ := ins_get I.hok ha
  obtain ⟨od, J, _⟩ := J.look
  obtain ⟨Pk, Z, pk, _⟩ := kit_of I ry ty
  refine cmp_ne (by have := hr.un; omega) I.kIn J (Z.ty _ _ I.kIn pk) nf ob hne hs hf ?_
  refine wpAny_mono (call_run (A := X.A.in1) ⟨hr.in1, rfl⟩ F hb hx I (.cons (show RelV (V.ref a) (Value.ref a) from rfl) (.cons ry .nil)) h) (fun v s' q => ?_) fun _ _ z => z
  obtain ⟨y', H', I', ry', b, rfl, q⟩ := q
  cases ry'
  exact ⟨b, rfl, .bl (!b), H', I', rfl, q⟩
end
end LR

/-! == of tuples and lists of things with an own __eq__: either answer -/
namespace LR
open PySem PySem.SeqAt
open AutoSeq1 (wpAny_loadPart')
open MeetsSeq MeetsSeq2 MeetsSeq3 SeqRoads2
section
variable {prog : Program} {w : World} {A : Around} {R : Result → Shared → Prop}
theorem tuple_eqB (l b : Addr) (items items2 : Array Value) (n n2 : Nat) (dd dd2 : Option Addr) (sl sl2 : Array (Option Value)) (f : Nat → Bool) (I : Shared → Prop)
    (turn : ∀ i (h1 : i < items.size) (h2 : i < items2.size) s, I s → wpAny (model prog w) A.in1 (eqBool items[i] items2[i]) (fun r s' => r = f i ∧ I s') (fun e s' => R (.error e) s') s)
    (res : Bool) (no : ∀ i, i < items.size → i < items2.size → f i = false → res = false) (yes : (∀ i, i < items.size → i < items2.size → f i = true) → res = (items.size == items2.size))
    (fin : ∀ s, I s → R (.ok (.ret (.bool res))) s) {s : Shared} (hl1 : s.heap.get? l = some { cls := .type "tuple", dict := dd, data := .seq items n, slots := sl }) (hb1 : s.heap.get? b = some { cls := .type "tuple", dict := dd2, data := .seq items2 n2, slots := sl2 }) (h : I s) :
    wpAny (model prog w) A.in1 (Builtin.«tuple.__eq__» ⟨[.ref l, .ref b], []⟩) (GQ.FinOf prog w A R) (fun e s' => R (.error e) s') s := by
  have f2 := AutoSeq1.sub_tuple_tuple
  have h0 := h
  have hZ : (items.toList.zip items2.toList).length = min items.size items2.size := by simp
  obtain ⟨hp, g, d, tk, os⟩ := s
  wp_walk using wpAny_loadPart' hl1, wpAny_loadPart' hb1, wpAny_forIn_list _ (fun rest b s' => b.1 = none ∧ ∃ i, rest = (items.toList.zip items2.toList).drop i ∧ (∀ j, j < i → f j = true) ∧ I s') _
  case turn =>
    rintro ⟨y, x⟩ rest b s' ⟨hb', i, hz, hi, hI⟩
    have hlt : i < (items.toList.zip items2.toList).length := by
      rcases Nat.lt_or_ge i (items.toList.zip items2.toList).length with h' | h'
      · exact h'
      · rw [List.drop_of_length_le h'] at hz; cases hz
    have h1 : i < items.size := by rw [hZ] at hlt; omega
    have h2 : i < items2.size := by rw [hZ] at hlt; omega
    rw [List.drop_eq_getElem_cons hlt] at hz
    injection hz with hyx hrest
    have hy : y = items[i] := by have := congrArg Prod.fst hyx; simpa using this
    have hx : x = items2[i] := by have := congrArg Prod.snd hyx; simpa using this
    subst hy hx
    refine wpAny_bind (wpAny_mono (turn i h1 h2 s' hI) (fun r s2 q2 => ?_) fun _ _ x => x)
    obtain ⟨hr, q2⟩ := q2
    subst hr
    cases hf : f i with
    | true =>
      wp_walk
      exact ⟨rfl, i + 1, hrest, fun j hj => by
        rcases Nat.lt_or_ge j i with q | q
        · exact hi j q
        · rw [show j = i by omega]; exact hf, q2⟩
    | false =>
      have hR : R (.ok (.ret (.bool res))) s2 := fin s2 q2
      rw [no i h1 h2 hf] at hR
      wp_walk
      exact hR
  case fin =>
    rintro ⟨b1, b2⟩ s' ⟨hb', i, hz, hi, hI⟩
    simp only at hb'
    subst hb'
    have hge : min items.size items2.size ≤ i := by
      rcases Nat.lt_or_ge i (items.toList.zip items2.toList).length with h' | h'
      · rw [List.drop_eq_getElem_cons h'] at hz; cases hz
      · exact hZ ▸ h'
    have hR : R (.ok (.ret (.bool res))) s' := fin s' hI
    rw [yes fun j h1 h2 => hi j (by omega)] at hR
    wp_walk
    simpa [Builtin.Tuple.tupleCompareSizes] using hR
  case h =>
    exact ⟨rfl, 0, rfl, fun j hj => absurd hj (Nat.not_lt_zero _), h0⟩
/-- at each turn the two lists are read anew -/
def ListB (l b : Addr) (N : Nat) (I : Shared → Prop) : Prop :=
  ∀ s, I s → ∃ (items items2 : Array Value) (n n2 : Nat), s.heap.get? l = some { cls := .type "list", data := .seq items n } ∧ s.heap.get? b = some { cls := .type "list", data := .seq items2 n2 } ∧ items.size = N ∧ items2.size = N
def TurnB (prog : Program) (w : World) (A : Around) (E : Value → Shared → Prop) (l b : Addr) (f : Nat → Bool) (I : Shared → Prop) : Prop :=
  ∀ s (items items2 : Array Value) (n n2 : Nat), I s → s.heap.get? l = some { cls := .type "list", data := .seq items n } → s.heap.get? b = some { cls := .type "list", data := .seq items2 n2 } →
    ∀ i (h1 : i < items.size) (h2 : i < items2.size), wpAny (model prog w) A.in1 (eqBool items[i] items2[i]) (fun r s' => r = f i ∧ I s') E s
theorem eq_loopB (l b : Addr) (N : Nat) (f : Nat → Bool) (I : Shared → Prop) (hl : ListB l b N I) (turn : TurnB prog w A (fun e s' => R (.error e) s') l b f I)
    (res : Bool) (no : ∀ i, i < N → f i = false → res = false) (yes : (∀ i, i < N → f i = true) → res = true)
    (fin : ∀ s, I s → R (.ok (.ret (.bool res))) s) (k : Nat) :
    ∀ i : Nat, N - i = k → i ≤ N → (∀ j, j < i → f j = true) → ∀ s, I s →
      wpAny (model prog w) A.in1 (Builtin.«list.__eq__.loop» ⟨[.ref l, .ref b, rawInt i, rawInt 2], []⟩) (GQ.FinOf prog w A R) (fun e s' => R (.error e) s') s := by
  induction k with
  | zero =>
    intro i hk hi hj s h
    obtain ⟨items, items2, n, n2, hl1, hb1, hs1, hs2⟩ := hl _ h
    have hi' : i = N := by omega
    have hR : R (.ok (.ret (.bool res))) s := fin s h
    rw [yes fun j q => hj j (by omega)] at hR
    obtain ⟨hp, g, d, tk, os⟩ := s
    wp_walk using wpAny_loadPart' hl1, wpAny_loadPart' hb1
    have hi1 : items[((i : Nat) : Int).toNat]? = none := by simp; omega
    have hi2 : items2[((i : Nat) : Int).toNat]? = none := by simp; omega
    rw [hi1, hi2]
    wp_walk using wpAny_loadPart' hl1, wpAny_loadPart' hb1
    show R (.ok (.ret (.bool (items.size == items2.size)))) _
    rw [hs1, hs2]
    simpa using hR
  | succ k ih =>
    intro i hk hi hj s h
    obtain ⟨items, items2, n, n2, hl1, hb1, hs1, hs2⟩ := hl _ h
    have hlt : i < items.size := by omega
    have hlt2 : i < items2.size := by omega
    have ht := turn s items items2 n n2 h hl1 hb1 i hlt hlt2
    obtain ⟨hp, g, d, tk, os⟩ := s
    wp_walk using wpAny_loadPart' hl1, wpAny_loadPart' hb1
    have hi1 : items[((i : Nat) : Int).toNat]? = some items[i] := by simp [hlt]
    have hi2 : items2[((i : Nat) : Int).toNat]? = some items2[i] := by simp [hlt2]
    have hc : ((i : Int) + 1) = ((i + 1 : Nat) : Int) := by omega
    rw [hi1, hi2]
    refine wpAny_bind (wpAny_mono ht (fun r s2 h2 => ?_) fun _ _ x => x)
    obtain ⟨hr, h2⟩ := h2
    subst hr
    cases hf : f i with
    | true =>
      have hrec := ih (i + 1) (by omega) (by omega) (fun j q => by
        rcases Nat.lt_or_ge j i with q' | q'
        · exact hj j q'
        · rw [show j = i by omega]; exact hf) s2 h2
      obtain ⟨hp2, g2, d2, tk2, os2⟩ := s2
      wp_walk
      rw [hc]
      exact ⟨plainId_quiet plain_eq_loop _, codeAny_builtin entry_eq_loop (by
        rw [Around.under_plainId plain_eq_loop _]
        exact hrec)⟩
    | false =>
      have hR : R (.ok (.ret (.bool res))) s2 := fin s2 h2
      rw [no i (by omega) hf] at hR
      obtain ⟨items', items2', n', n2', hl1', hb1', hs1', hs2'⟩ := hl _ h2
      obtain ⟨hp2, g2, d2, tk2, os2⟩ := s2
      wp_walk using wpAny_loadPart' hl1', wpAny_loadPart' hb1'
      have hi1' : items'[((i : Nat) : Int).toNat]? = some (items'[i]'(by omega)) := by simp
      have hi2' : items2'[((i : Nat) : Int).toNat]? = some (items2'[i]'(by omega)) := by simp
      rw [hi1', hi2']
      wp_walk
      exact hR
theorem list_eqB (l b : Addr) (N : Nat) (f : Nat → Bool) (I : Shared → Prop) (hl : ListB l b N I) (turn : TurnB prog w A (fun e s' => R (.error e) s') l b f I)
    (res : Bool) (no : ∀ i, i < N → f i = false → res = false) (yes : (∀ i, i < N → f i = true) → res = true)
    (fin : ∀ s, I s → R (.ok (.ret (.bool res))) s) {s : Shared} (h : I s) :
    wpAny (model prog w) A.in1 (Builtin.«list.__eq__» ⟨[.ref l, .ref b], []⟩) (GQ.FinOf prog w A R) (fun e s' => R (.error e) s') s := by
  obtain ⟨items, items2, n, n2, hl1, hb1, hs1, hs2⟩ := hl _ h
  have hrec := eq_loopB (A := A) (R := R) l b N f I hl turn res no yes fin _ 0 rfl (Nat.zero_le _) (fun j q => absurd q (Nat.not_lt_zero _)) s h
  obtain ⟨hp, g, d, tk, os⟩ := s
  have f3 := AutoSeq1.sub_list_list
  have hne : ¬ (items.size != items2.size) = true := by simp [hs1, hs2]
  wp_walk using wpAny_loadPart' hl1, wpAny_loadPart' hb1
  exact ⟨plainId_quiet plain_eq_loop _, codeAny_builtin entry_eq_loop (by
    rw [Around.under_plainId plain_eq_loop _]
    exact hrec)⟩
theorem list_lenB (l b : Addr) (items items2 : Array Value) (n n2 : Nat) (hne : items.size ≠ items2.size) {s : Shared} (hl1 : s.heap.get? l = some { cls := .type "list", data := .seq items n }) (hb1 : s.heap.get? b = some { cls := .type "list", data := .seq items2 n2 })
    (fin : R (.ok (.ret (.bool false))) s) :
    wpAny (model prog w) A.in1 (Builtin.«list.__eq__» ⟨[.ref l, .ref b], []⟩) (GQ.FinOf prog w A R) (fun e s' => R (.error e) s') s := by
  obtain ⟨hp, g, d, tk, os⟩ := s
  have f3 := AutoSeq1.sub_list_list
  have hne' : (items.size != items2.size) = true := by simp [hne]
  wp_walk using wpAny_loadPart' hl1, wpAny_loadPart' hb1
  exact fin
end
section
variable {prog : Program} {w : World} {A : Around} {E : Value → Shared → Prop} {s : Shared}
theorem rc_tupB {l b : Addr} {items items2 : Array Value} {Q : Value → Shared → Prop} (hu : A.units < cLine) (f : Nat → Bool) (I : Shared → Prop)
    (hl : s.heap.IsTuple l items) (hb : s.heap.IsTuple b items2)
    (turn : ∀ i (h1 : i < items.size) (h2 : i < items2.size) s, I s → wpAny (model prog w) A.in1 (eqBool items[i] items2[i]) (fun r s' => r = f i ∧ I s') E s)
    (res : Bool) (no : ∀ i, i < items.size → i < items2.size → f i = false → res = false) (yes : (∀ i, i < items.size → i < items2.size → f i = true) → res = (items.size == items2.size))
    (fin : ∀ s, I s → Q (.bool res) s) (h : I s) : wpAny (model prog w) A (richCompare .Eq (.ref l) (.ref b)) Q E s := by
  obtain ⟨⟨cls, dd, data, sl⟩, ho, hc, n, hd⟩ := id hl
  obtain ⟨⟨cls2, dd2, data2, sl2⟩, ho2, hc2, n2, hd2⟩ := id hb
  simp only at hc hd hc2 hd2
  subst hc hd hc2 hd2
  refine wpAny_richCompare_same_room (op := .Eq) ⟨_, ho, rfl⟩ ⟨_, ho2, rfl⟩ F.slot_tuple_eq (GQ.call_here F.slot_tuple_eq ⟨_, ho, rfl⟩ F.entry_tuple_eq (F.args_tuple_eq_2 _ _) ?_) hu
  exact tuple_eqB (R := wants (fun v s' => v ≠ .notImplemented ∧ Q v s') E) l b items items2 n n2 dd dd2 sl sl2 f I turn res no yes (fun s' q => ⟨(fun x => nomatch x), fin s' q⟩) ho ho2 h
theorem rc_listB {l b : Addr} {N : Nat} {Q : Value → Shared → Prop} (hu : A.units < cLine) (f : Nat → Bool) (I : Shared → Prop) (hl : ListB l b N I) (turn : TurnB prog w A E l b f I)
    (res : Bool) (no : ∀ i, i < N → f i = false → res = false) (yes : (∀ i, i < N → f i = true) → res = true)
    (fin : ∀ s, I s → Q (.bool res) s) (h : I s) : wpAny (model prog w) A (richCompare .Eq (.ref l) (.ref b)) Q E s := by
  obtain ⟨items, items2, n, n2, hl1, hb1, _, _⟩ := hl _ h
  refine wpAny_richCompare_same_room (op := .Eq) ⟨_, hl1, rfl⟩ ⟨_, hb1, rfl⟩ F.slot_list_eq (GQ.call_here F.slot_list_eq ⟨_, hl1, rfl⟩ F.entry_list_eq (F.args_list_eq_2 _ _) ?_) hu
  exact list_eqB (R := wants (fun v s' => v ≠ .notImplemented ∧ Q v s') E) l b N f I hl turn res no yes (fun s' q => ⟨(fun x => nomatch x), fin s' q⟩) h
theorem rc_listL {l b : Addr} {items items2 : Array Value} {n n2 : Nat} {Q : Value → Shared → Prop} (hu : A.units < cLine) (hne : items.size ≠ items2.size) (hl1 : s.heap.get? l = some { cls := .type "list", data := .seq items n }) (hb1 : s.heap.get? b = some { cls := .type "list", data := .seq items2 n2 })
    (fin : Q (.bool false) s) : wpAny (model prog w) A (richCompare .Eq (.ref l) (.ref b)) Q E s := by
  refine wpAny_richCompare_same_room (op := .Eq) ⟨_, hl1, rfl⟩ ⟨_, hb1, rfl⟩ F.slot_list_eq (GQ.call_here F.slot_list_eq ⟨_, hl1, rfl⟩ F.entry_list_eq (F.args_list_eq_2 _ _) ?_) hu
  exact list_lenB (R := wants (fun v s' => v ≠ .notImplemented ∧ Q v s') E) l b items items2 n n2 hne hl1 hb1 ⟨(fun x => nomatch x), fin⟩
theorem eqBool_refB {l b : Addr} {Q : Bool → Shared → Prop} (hne : l ≠ b) (h : wpAny (model prog w) A (richCompare .Eq (.ref l) (.ref b)) (fun v s' => ∃ r, v = .bool r ∧ Q r s') E s) : wpAny (model prog w) A (eqBool (.ref l) (.ref b)) Q E s := GQ.eqBool_refG hne h
end
end LR
namespace LR
open PySem PySem.Spec PyProof.Rows L2
/-- how == of two values comes out, by the abstract heap -/
abbrev EqvB := V → V → Bool → Hp → Prop
def MonB (D : EqvB) : Prop := ∀ x y b H H', Ext H H' → D x y b H → D x y b H'
def EqGB (X : Cx) (n : Nat) (D : EqvB) : Prop :=
  ∀ (A : Around) (pins : List (Addr × Obj)) (s : Shared) (σ : L2.St) (H : Hp) (x y : V) (b : Bool) (u v : Value), Sub X n A → Inv X pins σ H s → RelV x u → RelV y v → D x y b H →
    wpAny (model X.prog X.w) A (eqBool u v) (fun r s' => r = b ∧ ∃ H', Inv X pins σ H' s' ∧ Ext H H') X.xe s
def RcGB (X : Cx) (n : Nat) (D : EqvB) : Prop :=
  ∀ (A : Around) (pins : List (Addr × Obj)) (s : Shared) (σ : L2.St) (H : Hp) (x y : V) (b : Bool) (u v : Value), Sub X n A → Inv X pins σ H s → RelV x u → RelV y v → D x y b H →
    wpAny (model X.prog X.w) A (richCompare .Eq u v) (fun r s' => r = .bool b ∧ ∃ H', Inv X pins σ H' s' ∧ Ext H H') X.xe s
section
variable {X : Cx} {n m : Nat} {D D' : EqvB}
theorem EqGB.mono (h : EqGB X n D) (hn : n ≤ m) : EqGB X m D := fun A pins s σ H x y b u v sb => h A pins s σ H x y b u v (sb.mono hn)
theorem RcGB.mono (h : RcGB X n D) (hn : n ≤ m) : RcGB X m D := fun A pins s σ H x y b u v sb => h A pins s σ H x y b u v (sb.mono hn)
theorem EqGB.or (h : EqGB X n D) (h' : EqGB X n D') : EqGB X n (fun x y b H => D x y b H ∨ D' x y b H) := fun A pins s σ H x y b u v sb I rx ry d => d.elim (fun d => h A pins s σ H x y b u v sb I rx ry d) fun d => h' A pins s σ H x y b u v sb I rx ry d
theorem RcGB.or (h : RcGB X n D) (h' : RcGB X n D') : RcGB X n (fun x y b H => D x y b H ∨ D' x y b H) := fun A pins s σ H x y b u v sb I rx ry d => d.elim (fun d => h A pins s σ H x y b u v sb I rx ry d) fun d => h' A pins s σ H x y b u v sb I rx ry d
/-- flat values -/
def DFlatB : EqvB := fun x y b _ => flatV x = true ∧ flatV y = true ∧ eqV x y = b
theorem mon_flatB : MonB DFlatB := fun _ _ _ _ _ _ d => d
theorem eqGB_flat : EqGB X 0 DFlatB := by
  intro A pins s σ H x y b u v sb I rx ry d
  obtain ⟨fx, fy, e⟩ := d
  have q := eqAt_V (A := A) (s := s) rx ry fx fy
  rw [e] at q
  exact q X.prog X.w X.xe _ ⟨rfl, H, I, Ext.rfl'⟩
/-- item by item -/
def PrsB (D : EqvB) (xs ys : List V) (f : Nat → Bool) (H : Hp) : Prop := ∀ (i : Nat) x y, xs[i]? = some x → ys[i]? = some y → D x y (f i) H
theorem PrsB.mon (hD : MonB D) {xs ys : List V} {f : Nat → Bool} {H H' : Hp} (e : Ext H H') (p : PrsB D xs ys f H) : PrsB D xs ys f H' := fun i x y h1 h2 => hD x y _ H H' e (p i x y h1 h2)
def ansB (xs ys : List V) (f : Nat → Bool) : Bool := (List.range (min xs.length ys.length)).all f && (xs.length == ys.length)
theorem ansB_no {xs ys : List V} {f : Nat → Bool} {i : Nat} (h1 : i < xs.length) (h2 : i < ys.length) (h : f i = false) : ansB xs ys f = false := by
  unfold ansB
  rw [Bool.and_eq_false_iff]
  left
  rw [List.all_eq_false]
  exact ⟨i, List.mem_range.mpr (by omega), by rw [h]; decide⟩
theorem ansB_yes {xs ys : List V} {f : Nat → Bool} (h : ∀ i, i < xs.length → i < ys.length → f i = true) : ansB xs ys f = (xs.length == ys.length) := by
  unfold ansB
  have : (List.range (min xs.length ys.length)).all f = true := by
    rw [List.all_eq_true]
    intro i hi
    have := List.mem_range.mp hi
    exact h i (by omega) (by omega)
  rw [this, Bool.true_and]
/-- what the loop over the items keeps -/
theorem turnB (hD : MonB D) (h : EqGB X n D) {A : Around} (sb : Sub X (n + 1) A) {pins : List (Addr × Obj)} {σ : L2.St} {H : Hp} {xs ys : List V} {f : Nat → Bool} {its its2 : List Value} (p : PrsB D xs ys f H) (r : Vals xs its) (r2 : Vals ys its2)
    (i : Nat) (h1 : i < its.toArray.size) (h2 : i < its2.toArray.size) (s' : Shared) (l : LoopI X pins σ H s') :
    wpAny (model X.prog X.w) A.in1 (eqBool its.toArray[i] its2.toArray[i]) (fun r s2 => r = f i ∧ LoopI X pins σ H s2) X.xe s' := by
  obtain ⟨H1, I1, e1⟩ := l
  have g1 : its[i]? = some its.toArray[i] := by
    have h1' : i < its.length := by simpa using h1
    rw [List.getElem?_eq_getElem h1'] <;> simp
  have g2 : its2[i]? = some its2.toArray[i] := by
    have h2' : i < its2.length := by simpa using h2
    rw [List.getElem?_eq_getElem h2'] <;> simp
  have k1 : i < xs.length := by rw [r.length]; simpa using h1
  have k2 : i < ys.length := by rw [r2.length]; simpa using h2
  obtain ⟨u, hu, ru⟩ := r.get (List.getElem?_eq_getElem k1)
  obtain ⟨v, hv, rv⟩ := r2.get (List.getElem?_eq_getElem k2)
  rw [g1] at hu
  rw [g2] at hv
  rw [Option.some.inj hu, Option.some.inj hv]
  refine wpAny_mono (h A.in1 pins s' σ H1 _ _ _ u v sb.in1 I1 ru rv (hD _ _ _ _ _ e1 (p i _ _ (List.getElem?_eq_getElem k1) (List.getElem?_eq_getElem k2)))) (fun r s2 q => ?_) fun _ _ x => x
  obtain ⟨hr, H2, I2, e2⟩ := q
  exact ⟨hr, H2, I2, e1.trans e2⟩
def DTupB (K : PySem.W.Frag) (D : EqvB) : EqvB := fun x y r H => ∃ a b xs ys f, x = .ref a ∧ y = .ref b ∧ SqT K H a xs ∧ SqT K H b ys ∧ PrsB D xs ys f H ∧ r = ansB xs ys f
def DListB (D : EqvB) : EqvB := fun x y r H => ∃ a b xs ys f, x = .ref a ∧ y = .ref b ∧ H a = some (.lst xs) ∧ H b = some (.lst ys) ∧ (xs.length = ys.length → PrsB D xs ys f H) ∧ r = ansB xs ys f
theorem mon_tupB {K : PySem.W.Frag} (hD : MonB D) : MonB (DTupB K D) := fun x y r H H' e d => by
  obtain ⟨a, b, xs, ys, f, hx, hy, h1, h2, p, hr⟩ := d
  exact ⟨a, b, xs, ys, f, hx, hy, h1.ext e, h2.ext e, p.mon hD e, hr⟩
theorem mon_listB (hD : MonB D) : MonB (DListB D) := fun x y r H H' e d => by
  obtain ⟨a, b, xs, ys, f, hx, hy, h1, h2, p, hr⟩ := d
  exact ⟨a, b, xs, ys, f, hx, hy, e _ _ h1, e _ _ h2, fun l => (p l).mon hD e, hr⟩
theorem rcGB_tup (hD : MonB D) (h : EqGB X n D) : RcGB X (n + 1) (DTupB X.K D) := by
  intro A pins s σ H x y r u v sb I rx ry d
  obtain ⟨a, b, xs, ys, f, rfl, rfl, ha, hb, p, rfl⟩ := d
  cases rx
  cases ry
  obtain ⟨its, r, e, z⟩ := I.tuple ha
  obtain ⟨its2, r2, e2, z2⟩ := I.tuple hb
  have l1 : its.toArray.size = xs.length := by rw [List.size_toArray, ← r.length]
  have l2 : its2.toArray.size = ys.length := by rw [List.size_toArray, ← r2.length]
  exact rc_tupB sb.room.units0 f (fun s' => LoopI X pins σ H s') e e2 (fun i h1 h2 s' q => turnB hD h sb p r r2 i h1 h2 s' q) (ansB xs ys f) (fun i h1 h2 q => ansB_no (by omega) (by omega) q) (fun q => by rw [l1, l2]; exact ansB_yes fun i h1 h2 => q i (by omega) (by omega)) (fun s' q => ⟨rfl, q⟩) ⟨H, I, Ext.rfl'⟩
theorem rcGB_list (hD : MonB D) (h : EqGB X n D) : RcGB X (n + 1) (DListB D) := by
  intro A pins s σ H x y r u v sb I rx ry d
  obtain ⟨a, b, xs, ys, f, rfl, rfl, ha, hb, p, rfl⟩ := d
  cases rx
  cases ry
  by_cases hl : xs.length = ys.length
  · have key : ∀ s', LoopI X pins σ H s' → ∃ (its its2 : List Value) (k k2 : Nat), Vals xs its ∧ Vals ys its2 ∧ s'.heap.get? a = some { cls := .type "list", data := .seq its.toArray k } ∧ s'.heap.get? b = some { cls := .type "list", data := .seq its2.toArray k2 } := by
      rintro s' ⟨H1, I1, e1⟩
      obtain ⟨z, its, k, r, e⟩ := I1.hok a _ (e1 _ _ ha)
      obtain ⟨z2, its2, k2, r2, e2⟩ := I1.hok b _ (e1 _ _ hb)
      exact ⟨its, its2, k, k2, r, r2, e, e2⟩
    refine rc_listB (N := xs.length) sb.room.units0 f (fun s' => LoopI X pins σ H s') (fun s' q => ?_) (fun s' items items2 n1 n2 q g1 g2 i h1 h2 => ?_) (ansB xs ys f) (fun i h1 q => ansB_no h1 (by omega) q) (fun q => by rw [ansB_yes fun i h1 h2 => q i h1, hl]; simp) (fun s' q => ⟨rfl, q⟩) ⟨H, I, Ext.rfl'⟩
    · obtain ⟨its, its2, k, k2, r, r2, e, e2⟩ := key s' q
      exact ⟨its.toArray, its2.toArray, k, k2, e, e2, by rw [List.size_toArray, ← r.length], by rw [List.size_toArray, ← r2.length, ← hl]⟩
    · obtain ⟨its, its2, k, k2, r, r2, e, e2⟩ := key s' q
      rw [g1] at e
      rw [g2] at e2
      obtain ⟨rfl⟩ : items = its.toArray := by injection e with e; injection e with _ _ e; injection e
      obtain ⟨rfl⟩ : items2 = its2.toArray := by injection e2 with e; injection e with _ _ e; injection e
      exact turnB hD h sb (p hl) r r2 i h1 h2 s' q
  · obtain ⟨z, its, k, r, e⟩ := I.hok a _ ha
    obtain ⟨z2, its2, k2, r2, e2⟩ := I.hok b _ hb
    have ans : ansB xs ys f = false := by
      unfold ansB
      rw [show (xs.length == ys.length) = false by simpa using hl, Bool.and_false]
    rw [ans]
    refine rc_listL sb.room.units0 ?_ e e2 ⟨rfl, H, I, Ext.rfl'⟩
    rw [List.size_toArray, List.size_toArray, ← r.length, ← r2.length]
    exact hl
/-- objects of an own class with an own == -/
def DInsB (C : Addr) (R : Addr → Addr → Bool → Hp → Prop) : EqvB := fun x y r H => ∃ a b dx dy fs gs, x = .ref a ∧ y = .ref b ∧ H a = some (.ins C dx fs) ∧ H b = some (.ins C dy gs) ∧ R a b r H
theorem mon_insB {C : Addr} {R : Addr → Addr → Bool → Hp → Prop} (hR : ∀ a b r H H', Ext H H' → R a b r H → R a b r H') : MonB (DInsB C R) := fun x y r H H' e d => by
  obtain ⟨a, b, dx, dy, fs, gs, hx, hy, h1, h2, q⟩ := d
  exact ⟨a, b, dx, dy, fs, gs, hx, hy, e _ _ h1, e _ _ h2, hR a b r H H' e q⟩
/-- what such an own == promises -/
def spEqR (R : Addr → Addr → Bool → Hp → Prop) : Sp := fun vs H Q _ => ∃ a b r, vs = [.ref a, .ref b] ∧ R a b r H ∧ ∀ H', Ext H H' → Q (.bl r) H'
theorem rcGB_ins {CX : CXT} {C f : Addr} {fd : FuncData} {ps : List Str} {R : Addr → Addr → Bool → Hp → Prop} {E : XK} (F : FnOk X.prog X.w X.K X.mg X.base CX n f fd ps (spEqR R))
    (hs : PySem.W.findIn X.K (.ref C) "__eq__" = some (some (.ref f))) (hf : PySem.W.isFn X.K (.ref f) = true) (hb : Binds X.K fd ps []) (hx : Passes CX X E) : RcGB X n (DInsB C R) := by
  intro A pins s σ H x y r u v sb I rx ry d
  obtain ⟨a, b, dx, dy, fs, gs, rfl, rfl, ha, hb', hr⟩ := d
  cases rx
  cases ry
  obtain ⟨mA, J, _⟩ := ins_get I.hok ha
  obtain ⟨mB, J', _⟩ := ins_get I.hok hb'
  obtain ⟨od, J, _⟩ := J.look
  obtain ⟨od', J', _⟩ := J'.look
  obtain ⟨m, hF⟩ := I.fr
  refine PySem.W.cmp_K (op := .Eq) (tb := .ref C) sb.room.units0 hF I.ok.mod.kin J J'.type (by simp [PySem.W.notFirst]) hs hf ?_
  have hsp : spEqR R [.ref a, .ref b] H (fun v H' => v = .bl r ∧ Ext H H') E := ⟨a, b, r, rfl, hr, fun H' e => ⟨rfl, e⟩⟩
  refine wpAny_mono (call_run (A := A) sb F hb hx I (.cons (show RelV (V.ref a) (Value.ref a) from rfl) (.cons (show RelV (V.ref b) (Value.ref b) from rfl) .nil)) hsp) (fun v s' q => ?_) fun _ _ z => z
  obtain ⟨y, H', I', ry, rfl, e⟩ := q
  cases ry
  exact ⟨rfl, H', I', e⟩
theorem RcGB.eqG (h : RcGB X n D) (hr : ∀ x y r H, D x y r H → ∃ a b, x = .ref a ∧ y = .ref b ∧ (a = b → r = true)) : EqGB X n D := by
  intro A pins s σ H x y r u v sb I rx ry d
  obtain ⟨a, b, rfl, rfl, ht⟩ := hr _ _ _ _ d
  cases rx
  cases ry
  by_cases hab : a = b
  · have rt := ht hab
    subst hab
    subst rt
    exact SeqAt.EqAt.same (A := A) (s := s) (.ref a) X.prog X.w X.xe _ ⟨rfl, H, I, Ext.rfl'⟩
  · refine GQ.eqBool_refG hab (wpAny_mono (h A pins s σ H (.ref a) (.ref b) _ _ _ sb I rfl rfl d) (fun r' s' q => ?_) fun _ _ x => x)
    obtain ⟨hr', q⟩ := q
    exact ⟨r, hr', rfl, q⟩
/-- x == y as an expression -/
def rEqGB (D : EqvB) : R2 := fun x y H Q => ∃ b, D x y b H ∧ ∀ H', Ext H H' → Q (.bl b) H'
theorem op_eqGB (h : RcGB X n D) (hr : Room n X.A) : OpR X (compareOp .Eq) (rEqGB D) := by
  intro pins s σ H x y v u Q I rx ry hq
  obtain ⟨b, d, q⟩ := hq
  show wpAny (model X.prog X.w) X.A (richCompare .Eq v u) (EP X pins σ Q) X.xe s
  refine wpAny_mono (h X.A pins s σ H x y b v u ⟨hr, rfl⟩ I rx ry d) (fun r s' z => ?_) fun _ _ x => x
  obtain ⟨hr', H', I', e⟩ := z
  subst hr'
  exact ⟨.bl b, H', I', rfl, q H' e⟩
end
end LR

namespace LK
open PySem PySem.Spec PyProof.Rows L2 LR
/-! ### generic: values seen, errors made and caught -/
def spE0 (C : Addr) (x : Str) : Sp := fun vs H Q _ => ∃ (a : Addr) (v : V), vs = [.ref a, v] ∧ H a = some (exo a C none) ∧ ∀ dx, H dx = none → dx ≠ a → Q .non (upd (upd H dx (exd dx [(x, v)])) a (exo a C (some dx)))
theorem errX {C : Addr} {x : Str} {H : Hp} {v : V} {R : Addr → Hp → Prop} (q : ∀ d H', Same H H' → H' d = some (.xd [(x, v)]) → H d = none → R d H') : ([v] : List V).length ≤ 1000 ∧ ∀ a, H a = none → spE0 C x (.ref a :: ([v] ++ [])) (upd H a (exo a C none))
    (fun u H2 => u = .non ∧ ∃ (d : Addr) (fs : List (Str × V)), H2 a = some (exo a C (some d)) ∧ H2 d = some (exd d fs) ∧ H d = none ∧ R d (upd (L2.del H2 a) d (.xd fs))) (fun _ _ _ => False) := by
  refine ⟨by show 1 ≤ 1000; decide, fun a ha => ⟨a, v, rfl, upd_same, fun dx hdx ne => ?_⟩⟩
  have hd : H dx = none := by
    rw [upd_ne ne] at hdx
    exact hdx
  refine ⟨rfl, dx, [(x, v)], upd_same, by rw [upd_ne ne]; exact upd_same, hd, q dx _ (fun b o e => ?_) upd_same hd⟩
  have n1 : b ≠ a := ne_of_none e ha
  have n2 : b ≠ dx := ne_of_none e hd
  rw [upd_ne n2, del_ne n1, upd_ne n1, upd_ne n2, upd_ne n1]
  exact e
theorem Seen.same {K : PySem.W.Frag} {H H' : Hp} {v : V} (s : Same H H') (t : ∀ t, TyX K H v t → TyX K H' v t) (h : Seen K H v) : Seen K H' v := by
  rcases h with h | ⟨no, u, ty, k⟩
  · exact .inl h
  · exact .inr ⟨no, u, t u ty, k⟩
theorem TyX.same {K : PySem.W.Frag} {H H' : Hp} {v : V} {t : Value} (s : Same H H') (h : TyX K H v t) : TyX K H' v t := by
  cases h with
  | base h =>
    refine .base ?_
    cases h with
    | non => exact .non
    | bl b => exact .bl b
    | int i => exact .int i
    | str z => exact .str z
    | flt f => exact .flt f
    | lst e => exact .lst (s _ _ e)
    | frz e => exact .frz (s _ _ e)
    | tup e => exact .tup (s _ _ e)
    | dK e => exact .dK (s _ _ e)
    | dT e => exact .dT (s _ _ e)
    | ins e cl ha hn htk hm => exact .ins (s _ _ e) cl ha hn htk hm
  | byt b => exact .byt b
  | set e => exact .set (s _ _ e)
  | kList e c => exact .kList e c
  | kTuple e c => exact .kTuple e c
  | kDict e c => exact .kDict e c
  | fTuple e => exact .fTuple (s _ _ e)
  | fDict e => exact .fDict (s _ _ e)
theorem seen_same {K : PySem.W.Frag} {H H' : Hp} {v : V} (s : Same H H') (h : Seen K H v) : Seen K H' v := Seen.same s (fun _ t => TyX.same s t) h
section
variable {P : Program} {w : World} {K : PySem.W.Frag} {mg : Str → Option Value} {base : Heap}
theorem ok_err0X {C f : Addr} {fd : FuncData} (e : Er K mg 0 C f fd) : FnOk P w K mg base CX0 1 f fd ["self", "word"] (spE0 C "word") := by
  refine e.F.ok scErr0 (fun vs H Q E h => ?_) (fun cdv A outer s H vs Q E hr h => ?_)
  · obtain ⟨_, _, rfl, _⟩ := h
    rfl
  · obtain ⟨a, v, rfl, ha, q⟩ := h
    exact ⟨_, pss_one (ps_ost (pv 0) (pv 1)), _, rfl, _, rfl, a, C, rfl, e.T, e.no, .inl ⟨ha, q⟩⟩
theorem ok_err1X {C f : Addr} {fd : FuncData} (e : Er K mg 1 C f fd) : FnOk P w K mg base CX0 1 f fd ["self", "word"] (spE0 C "word") := by
  refine e.F.ok scErr1 (fun vs H Q E h => ?_) (fun cdv A outer s H vs Q E hr h => ?_)
  · obtain ⟨_, _, rfl, _⟩ := h
    rfl
  · obtain ⟨a, v, rfl, ha, q⟩ := h
    exact ⟨_, pss_one (ps_ost (pv 0) (pv 1)), _, rfl, _, rfl, a, C, rfl, e.T, e.no, .inl ⟨ha, q⟩⟩
theorem ok_err2X {C f : Addr} {fd : FuncData} (e : Er K mg 2 C f fd) : FnOk P w K mg base CX0 1 f fd ["self", "word"] (spE0 C "word") := by
  refine e.F.ok scErr2 (fun vs H Q E h => ?_) (fun cdv A outer s H vs Q E hr h => ?_)
  · obtain ⟨_, _, rfl, _⟩ := h
    rfl
  · obtain ⟨a, v, rfl, ha, q⟩ := h
    exact ⟨_, pss_one (ps_ost (pv 0) (pv 1)), _, rfl, _, rfl, a, C, rfl, e.T, e.no, .inl ⟨ha, q⟩⟩
theorem ok_err3X {C f : Addr} {fd : FuncData} (e : Er K mg 3 C f fd) : FnOk P w K mg base CX0 1 f fd ["self", "word"] (spE0 C "word") := by
  refine e.F.ok scErr3 (fun vs H Q E h => ?_) (fun cdv A outer s H vs Q E hr h => ?_)
  · obtain ⟨_, _, rfl, _⟩ := h
    rfl
  · obtain ⟨a, v, rfl, ha, q⟩ := h
    exact ⟨_, pss_one (ps_ost (pv 0) (pv 1)), _, rfl, _, rfl, a, C, rfl, e.T, e.no, .inl ⟨ha, q⟩⟩
end
/-- nothing may leave -/
theorem tk0 {X : Cx} : L2N.Takes X (fun _ _ _ _ => False) := fun u s' x => by
  obtain ⟨a, B, sI, pins, σ, H, cls, d, e, I, nb, up, sky, na, os, ag, w⟩ := x
  exact w.elim
/-- _law_refused(n), n the handled error -/
def tRefE (K : PySem.W.Frag) (C : Nat → Addr) (a : Addr) (cls : Value) (d : Option Addr) (i : Nat) : TE := fun σ H Q => tVar i σ H fun v H1 => v = .ref a ∧ ∃ (D : Addr) (b : Nat → Bool), cls = .ref D ∧ DictX H1 d ∧ ExcC K D ∧ (∀ j, j < 12 → PySem.W.kitOne K (.ref D) (.ref (C j)) = some (b j)) ∧
  ∀ p H', Same H1 H' → H' p = some (.lst ((ix ((List.range 12).map b) 0).map V.int)) → Q (.ref p) H'
theorem hot_of {A : Around} {a : Addr} {oe : Obj} {cls : Value} {d : Option Addr} (h : A.handled = some (.ref a)) (z : L2N.Zn cls d oe) (f : ∃ vs, oe.data = .fields vs) : L2H.Hot1 A (a, oe) := by
  obtain ⟨vs, hv⟩ := f
  exact ⟨h, vs, hv, z.2.2 vs hv⟩
theorem pe_refE {X : Cx} {C : Nat → Addr} {k i : Nat} {f a : Addr} {oe : Obj} {fd : FuncData} {x n : Str} {q np pos : Pos} {cls : Value} {d : Option Addr} (F : FnE X.prog X.w X.K X.mg X.base k f fd ["_law_e"] (spRefE X.K C)) (room : L2H.RoomH k X.A) (hot : L2H.Hot1 X.A (a, oe)) (mem : (a, oe) ∈ X.pn) (z : Zc cls d oe) (fl : ∃ vs, oe.data = .fields vs)
    (hm : X.mg x = some (.ref f)) (kp : PySem.W.keepIn X.K (.ref f) = true) (bind : Binds X.K fd ["_law_e"] []) (hg : Gl X x := by rfl) (hN : X.N[i]? = some n := by rfl) (hv : Vis X.env.scope n := by first | exact Or.inl rfl | exact Or.inr (Or.inl rfl)) (dn : (n == ("__debug__" : Str)) = false := by decide) (dn2 : (n == ("__classdict__" : Str)) = false := by decide) (dbg : (x == ("__debug__" : Str)) = false := by decide)
    (he : starEach [.Name n np] X.env = (false, eval (.Name n np) X.env) :: starEach [] X.env := by rfl) (plain : (backTo pos (starEach [] X.env)).any (·.1) = false := by rfl) : PE X (.Call (.Name x q) [.Name n np] [] pos) (tRefE X.K C a cls d i) := by
  refine ⟨fun pins s σ H Q I h => (pe_callE F room hot mem hg hm kp bind (pa_cons (pe_var hN hv dn dn2) pa_nil he) dbg he plain).run pins s σ H Q I ?_⟩
  obtain ⟨v, ev, rfl, D, b, rfl, dx, ec, kk, q⟩ := h
  exact ⟨_, ev, D, d, b, rfl, z, fl, dx, ec, kk, q⟩
theorem ix_one : ∀ i, i < 12 → ix ((List.range 12).map fun j => decide (i = j)) 0 = [(i : Int)] := by decide +kernel
theorem dp_one {K : PySem.W.Frag} {H : Hp} {p : Addr} {i : Int} (h : H p = some (.lst [.int i])) : Dp K H (.ref p) (.list [.int i]) := .lst (SqL.of h) (.cons (.int i) .nil)
/-! ### a drawn value: whether it is a text is known -/
theorem seen_of_leaf {K : PySem.W.Frag} {mg : Str → Option Value} {k : Kinds} {eS eE eT eC : Addr} {dS dE dT dC : FuncData} {H : Hp} {v : V} (k' : Kin K mg k eS eE eT eC dS dE dT dC) (h : Leaf K k H v) : Seen K H v := by
  cases h with
  | non => exact .inr ⟨(fun z e => by cases e), _, .base .non, kit_ty (by decide +kernel)⟩
  | bl b => exact .inr ⟨(fun z e => by cases e), _, .base (.bl b), kit_ty (by decide +kernel)⟩
  | int i => exact .inr ⟨(fun z e => by cases e), _, .base (.int i), kit_ty (by decide +kernel)⟩
  | str z h => exact .inl ⟨z, rfl, h⟩
  | step h _ _ =>
    obtain ⟨dx, e⟩ := h
    exact .inr ⟨(fun z e => by cases e), _, k'.S.ty e, k'.S.ns⟩
  | expr h =>
    obtain ⟨dx, z, p, x1, x2, x3, x4, e, hp⟩ := h
    exact .inr ⟨(fun z e => by cases e), _, k'.E.ty e, k'.E.ns⟩
  | trait h =>
    obtain ⟨dx, z, p, b, e, hp⟩ := h
    exact .inr ⟨(fun z e => by cases e), _, k'.T.ty e, k'.T.ns⟩
  | chain h =>
    obtain ⟨dx, p, b, e, hp⟩ := h
    exact .inr ⟨(fun z e => by cases e), _, k'.C.ty e, k'.C.ns⟩
theorem seen_of_alike {K : PySem.W.Frag} {mg : Str → Option Value} {k : Kinds} {eS eE eT eC : Addr} {dS dE dT dC : FuncData} {H : Hp} {x y : V} (k' : Kin K mg k eS eE eT eC dS dE dT dC) : ∀ {n : Nat}, Alike K k n H x y → Seen K H x
  | 0, h => h.elim
  | n + 1, h => by
    rcases h with ⟨h, _⟩ | ⟨a, b, xs, ys, rfl, _, _, _, hq, _⟩
    · exact seen_of_leaf k' h
    · rcases hq with ⟨h, _⟩ | ⟨h, _⟩
      · exact .inr ⟨(fun z e => by cases e), _, .base (.lst h), kit_ty (by decide +kernel)⟩
      · exact .inr ⟨(fun z e => by cases e), _, .base (.tup h), kit_ty (by decide +kernel)⟩
def spEqB (K : PySem.W.Frag) (C : Addr) : Sp := fun vs H Q _ => ∃ a y z w, vs = [.ref a, y] ∧ StepAt C H a z w ∧ ((∃ b z' w', y = .ref b ∧ StepAt C H b z' w' ∧ Q (.bl (decide (z = z') && decide (w = w'))) H) ∨ (∃ t, TyX K H y t ∧ PySem.W.kitOne K t (.ref C) = some false ∧ Q (.bl false) H))
theorem nf_str {K : PySem.W.Frag} {C : Addr} : PySem.W.notFirst K C (.type "str") = true := by kernel_rfl
theorem nf_tup {K : PySem.W.Frag} {C : Addr} : PySem.W.notFirst K C (.type "tuple") = true := by kernel_rfl
theorem nf_non {K : PySem.W.Frag} {C : Addr} : PySem.W.notFirst K C (.type "NoneType") = true := by kernel_rfl
theorem nf_own {K : PySem.W.Frag} {C : Addr} : PySem.W.notFirst K C (.ref C) = true := by
  unfold PySem.W.notFirst
  rw [beq_self_eq_true]
  rfl
section
variable {P : Program} {w : World} {K : PySem.W.Frag} {mg : Str → Option Value} {base : Heap}
theorem ok_stepEqB {C f : Addr} {fd : FuncData} (S : Std mg) (c : OwnCl K mg "Step" C) (n1 : NoAttr K C "name") (n2 : NoAttr K C "ways") (F : Fun K "__eq__" "Step.__eq__" sStepEq f fd) :
    FnOk P w K mg base CX0 1 f fd ["self", "other"] (spEqB K C) := by
  refine F.ok scStepEq (fun vs H Q E h => ?_) (fun cdv A outer s H vs Q E hr h => ?_)
  · obtain ⟨a, y, z, w, rfl, _⟩ := h
    rfl
  · obtain ⟨a, u, z, y, rfl, ⟨dx, ha⟩, h⟩ := h
    refine ⟨_, pss_one (ps_ret (pe_and (pe_callB call_isi (by rfl) S.isi (by decide +kernel) (pa_cons (pv 1) (pa_cons (pe_glob (v := .ref C) rfl c.g rfl) pa_nil)))
      (pe_and (pe_cmpR op_eq (pe_fld (pv 0) rfl) (pe_fld (pv 1) rfl) (nomark _)) (pe_one (pe_cmpR op_eq (pe_fld (pv 0) rfl) (pe_fld (pv 1) rfl) (nomark _)))))), ?_⟩
    rcases h with ⟨b, z', y', rfl, ⟨dy, hb⟩, q⟩ | ⟨t, ty, kt, q⟩
    · refine ⟨_, rfl, _, _, _, _, true, rfl, .own C, c.ty hb, kit_self, true, rfl, iteT ?_⟩
      refine ⟨_, rfl, _, _, _, _, _, rfl, ha, c.cl, n1, rfl, _, rfl, _, _, _, _, _, rfl, hb, c.cl, n1, rfl, rfl, _, rfl, ?_⟩
      by_cases hz : z = z'
      · rw [decide_eq_true hz] at q
        rw [decide_eq_true (show V.str z = V.str z' from by rw [hz])]
        refine iteT ⟨_, rfl, _, _, _, _, _, rfl, ha, c.cl, n2, rfl, _, rfl, _, _, _, _, _, rfl, hb, c.cl, n2, rfl, rfl, ?_⟩
        by_cases hy : y = y'
        · rw [decide_eq_true hy] at q
          rw [decide_eq_true (show V.str y = V.str y' from by rw [hy])]
          exact q
        · rw [decide_eq_false hy] at q
          rw [decide_eq_false (show ¬ V.str y = V.str y' from fun e => hy (by injection e))]
          exact q
      · rw [decide_eq_false hz] at q
        rw [decide_eq_false (show ¬ V.str z = V.str z' from fun e => hz (by injection e))]
        exact iteF q
    · exact ⟨_, rfl, _, _, _, _, false, rfl, .own C, ty, kt, false, rfl, iteF q⟩
end
end LK

namespace LK
open PySem PySem.Spec PyProof.Rows L2 LR
/-! ### what stands for an expression -/
theorem name_of {z : Str} (h : nameB (.str z) = true) : NameOk z := by
  have nb : nameB (.str z) = (decide ((1 : Int) ≤ z.length) && (decide ((z.length : Int) ≤ 4) && (!inV (.str z) keptW && lowB z))) := rfl
  rw [nb] at h
  simp only [Bool.and_eq_true, decide_eq_true_eq, Bool.not_eq_true'] at h
  obtain ⟨h1, h4, hk, hl⟩ := h
  refine ⟨by omega, by omega, fun c hc => ?_, ?_, ?_, ?_⟩
  · unfold lowB at hl
    rw [List.all_eq_true] at hl
    exact letters_low c (by simpa [TL.tl] using hl c hc)
  all_goals
    rintro rfl
    exact absurd hk (by decide +kernel)
/-- v as an expression: itself, that of a name, none -/
def AsEx (K : PySem.W.Frag) (C cS : Addr) (H : Hp) (v : V) (some_ : V → Hp → Prop) (none_ : Hp → Prop) : Prop :=
  (AnIns C H v ∧ some_ v H) ∨ ∃ t, TyX K H v t ∧ PySem.W.kitOne K t (.ref C) = some false ∧ Seen K H v ∧
    (nameB v = false → ∀ H', Same H H' → none_ H') ∧ ∀ z, v = .str z → NameOk z → ∀ v' H', Same H H' → ExP K C cS H' v' "name" z .non [] 1 → some_ v' H'
def spAs (K : PySem.W.Frag) (C cS : Addr) : Sp := fun vs H Q _ => ∃ v, vs = [v] ∧ AsEx K C cS H v Q (fun H' => Q .non H')
section
variable {P : Program} {w : World} {K : PySem.W.Frag} {mg : Str → Option Value} {base : Heap}
theorem scAs1 : FnScope ["value"] ["value"] (defScope sAsExpr) := ⟨rfl, rfl, rfl, by decide +kernel, rfl, by decide +kernel, by decide +kernel⟩
theorem ok_asExpr {C cS fI fM f kw : Addr} {fdI fdM fd : FuncData} (S : Std mg) (Wd : Words K mg kw) (c : OwnCl K mg "Expr" C) (I : Df K mg "is_name" sIsName fI fdI ["value"]) (M : Df K mg "named" sNamed fM fdM ["word"]) (GM : FnOk P w K mg base CX0 4 fM fdM ["word"] (spNamed K C))
    (F : Fun K "as_expr" "as_expr" sAsExpr f fd) : FnOk P w K mg base CX0 5 f fd ["value"] (spAs K C cS) := by
  have GI : FnOk P w K mg base CX0 1 fI fdI ["value"] (spIsB K nameB) := ok_isNameV S Wd I.F
  refine F.ok scAs1 (fun vs H Q E h => ?_) (fun cdv A outer s H vs Q E hr h => ?_)
  · obtain ⟨v, rfl, _⟩ := h
    rfl
  · obtain ⟨v, rfl, h⟩ := h
    refine ⟨_, pss_cons (ps_if (pt_val (pe_callB call_isi (by rfl) S.isi (by decide +kernel) (pa_cons (pv 0) (pa_cons (pe_glob (v := .ref C) rfl c.g rfl) pa_nil)))) (pss_one (ps_ret (pv 0))) pss_nil)
      (pss_one (ps_ret (pe_ifExp (pt_val (pe_call GI (hr.mono (by decide)) rfl I.g I.F.kp I.b .nil pass0 (pa_cons (pv 0) pa_nil))) (pe_call GM hr rfl M.g M.F.kp M.b .nil pass0 (pa_cons (pv 0) pa_nil)) pe_non))), ?_⟩
    rcases h with ⟨⟨a, dx, fs, rfl, ha⟩, q⟩ | ⟨t, ty, kt, sn, qn, qs⟩
    · exact ⟨_, rfl, _, _, _, _, true, rfl, .own C, c.ty ha, kit_self, true, rfl, iteT ⟨_, rfl, q⟩⟩
    · refine ⟨_, rfl, _, _, _, _, false, rfl, .own C, ty, kt, false, rfl, iteF ?_⟩
      refine ⟨_, rfl, v, rfl, sn, fun H1 s1 => ⟨_, rfl, ?_⟩⟩
      by_cases nb : nameB v = true
      · rw [nb]
        refine iteT ?_
        rcases sn with ⟨z, rfl, _⟩ | ⟨no, _⟩
        · have ok := name_of nb
          exact ⟨_, rfl, z, rfl, ok, fun a H' _ ex s' => qs z rfl ok _ H' (s1.trans s') (ex cS)⟩
        · rw [nameB_not no] at nb
          cases nb
      · rw [Bool.not_eq_true] at nb
        rw [nb]
        exact iteF (qn nb H1 s1)
theorem AsEx.map {C cS : Addr} {H : Hp} {v : V} {f g : V → Hp → Prop} {n m : Hp → Prop} (h : AsEx K C cS H v f n) (k : ∀ x H', Same H H' → (∃ r, x = .ref r) → f x H' → g x H') (j : ∀ H', Same H H' → n H' → m H') : AsEx K C cS H v g m := by
  rcases h with ⟨⟨a, dx, fs, rfl, ha⟩, q⟩ | ⟨t, ty, kt, sn, qn, qs⟩
  · exact .inl ⟨⟨a, dx, fs, rfl, ha⟩, k _ H (Same.refl H) ⟨a, rfl⟩ q⟩
  · refine .inr ⟨t, ty, kt, sn, fun nb H' s => j H' s (qn nb H' s), fun z e ok v' H' s ex => k v' H' s ?_ (qs z e ok v' H' s ex)⟩
    obtain ⟨a, p, e, _⟩ := ex
    exact ⟨a, e⟩
def spPart (K : PySem.W.Frag) (C cS : Addr) : Sp := fun vs H Q _ => ∃ v, vs = [v] ∧ AsEx K C cS H v Q (fun _ => False)
def spPartX (K : PySem.W.Frag) (C2 C cS : Addr) : Sp := fun vs H Q E => ∃ v, vs = [v] ∧ AsEx K C cS H v Q (fun H1 => ∀ d H', Same H1 H' → H' d = some (.xd [("word", .str "part")]) → H1 d = none → E (.ref C2) (some d) H')
theorem scPart : FnScope ["value", "expr"] ["value"] (defScope sPartExpr) := ⟨rfl, rfl, rfl, by decide +kernel, rfl, by decide +kernel, by decide +kernel⟩
theorem ok_part {C cS fA f : Addr} {fdA fd : FuncData} (A1 : Df K mg "as_expr" sAsExpr fA fdA ["value"]) (GA : FnOk P w K mg base CX0 5 fA fdA ["value"] (spAs K C cS)) (F : Fun K "part_expr" "part_expr" sPartExpr f fd) : FnOk P w K mg base CX0 6 f fd ["value"] (spPart K C cS) := by
  refine F.ok scPart (fun vs H Q E h => ?_) (fun cdv A outer s H vs Q E hr h => ?_)
  · obtain ⟨v, rfl, _⟩ := h
    rfl
  · obtain ⟨v, rfl, h⟩ := h
    refine ⟨_, pss_cons (ps_set (i := 1) scPart.nd rfl (Or.inl rfl) (pe_call GA hr rfl A1.g A1.F.kp A1.b .nil pass0 (pa_cons (pv 0) pa_nil)))
      (pss_cons (ps_if (pt_cmp (pc_isN (pv 1))) (pss_one ps_never) pss_nil) (pss_one (ps_ret (pv 1)))), ?_⟩
    refine ⟨_, rfl, v, rfl, h.map (fun x H' s r q => ?_) (fun _ _ q => q.elim)⟩
    obtain ⟨r, rfl⟩ := r
    exact ⟨_, rfl, _, rfl, iteF ⟨_, rfl, q⟩⟩
theorem ok_partX {C2 C cS fA fE f : Addr} {fdA fdE fd : FuncData} (e2 : Er K mg 2 C2 fE fdE) (A1 : Df K mg "as_expr" sAsExpr fA fdA ["value"]) (GA : FnOk P w K mg base CX0 5 fA fdA ["value"] (spAs K C cS)) (F : Fun K "part_expr" "part_expr" sPartExpr f fd) : FnOk P w K mg base (L2N.CX P w) 6 f fd ["value"] (spPartX K C2 C cS) := by
  have GE : FnOk P w K mg base CX0 1 fE fdE ["self", "word"] (spE0 C2 "word") := ok_err2X e2
  refine okN F scPart (fun vs H Q E h => ?_) (fun cdv A outer s H vs Q E hr h => ?_)
  · obtain ⟨v, rfl, _⟩ := h
    rfl
  · obtain ⟨v, rfl, h⟩ := h
    refine ⟨_, pss_cons (ps_set (i := 1) scPart.nd rfl (Or.inl rfl) (pe_call GA hr rfl A1.g A1.F.kp A1.b .nil pass0 (pa_cons (pv 0) pa_nil)))
      (pss_cons (ps_if (pt_cmp (pc_isN (pv 1))) (pss_one (L2N.ps_raise rfl (L2N.takes_of rfl rfl rfl rfl) (pmk_errN e2.T e2.ini e2.ti GE (hr.mono (by decide)) e2.b rfl e2.g (pa_cons pe_str pa_nil)))) pss_nil) (pss_one (ps_ret (pv 1)))), ?_⟩
    refine ⟨_, rfl, v, rfl, h.map (fun x H' s r q => ?_) (fun H1 s q => ?_)⟩
    · obtain ⟨r, rfl⟩ := r
      exact ⟨_, rfl, _, rfl, iteF ⟨_, rfl, q⟩⟩
    · exact ⟨_, rfl, _, rfl, iteT (errX fun d H' s' hd nd => q d H' s' hd nd)⟩
end
end LK

namespace LK
open PySem PySem.Spec PyProof.Rows L2 LR
/-! ### the operators of expressions -/
theorem nameB_ok {z : Str} (h : NameOk z) : nameB (.str z) = true := by
  have nb : nameB (.str z) = (decide ((1 : Int) ≤ z.length) && (decide ((z.length : Int) ≤ 4) && (!inV (.str z) keptW && lowB z))) := rfl
  have h4 := h.len
  have h1 := h.pos
  have no : inV (.str z) keptW = false := by
    have e1 : (("if" : Str) == z) = false := beq_eq_false_iff_ne.mpr (Ne.symm h.nif)
    have e2 : (("else" : Str) == z) = false := beq_eq_false_iff_ne.mpr (Ne.symm h.nelse)
    have e3 : (("end" : Str) == z) = false := beq_eq_false_iff_ne.mpr (Ne.symm h.nend)
    show (("if" : Str) == z || (("else" : Str) == z || (("end" : Str) == z || false))) = false
    rw [e1, e2, e3]
    rfl
  have low : lowB z = true := by
    unfold lowB
    rw [List.all_eq_true]
    intro c hc
    obtain ⟨c0, c1⟩ := h.low c hc
    exact decide_eq_true (letters_all c (by omega) c0)
  rw [nb, no, low, decide_eq_true (show (1 : Int) ≤ (z.length : Int) by omega), decide_eq_true (show (z.length : Int) ≤ 4 by omega)]
  rfl
/-- y stands for an expression of at most n names -/
def PartOk (C cS : Addr) (H : Hp) (y : V) (n : Nat) : Prop := IsEx C cS H (y, n) ∨ ∃ z, y = .str z ∧ NameOk z ∧ n = 1
/-- y' is the expression that y stands for -/
def PartIs (K : PySem.W.Frag) (C cS : Addr) (H : Hp) (y y' : V) : Prop := (y' = y ∧ ∃ r, y = .ref r) ∨ ∃ z, y = .str z ∧ ExP K C cS H y' "name" z .non [] 1
theorem IsEx.ins {C cS : Addr} {H : Hp} {y : V} {n : Nat} (h : IsEx C cS H (y, n)) : AnIns C H y := by
  obtain ⟨a, kd, z, st, p, e, dx, q1, q2, i, j, zs, bs, ha, _⟩ := h
  exact ⟨a, dx, _, e, ha⟩
/-- a part that stands for an expression, as as_expr sees it -/
theorem part_as {K : PySem.W.Frag} {C cS : Addr} {H : Hp} {y : V} {n : Nat} {f : V → Hp → Prop} {g : Hp → Prop} (kS : PySem.W.kitOne K (.type "str") (.ref C) = some false) (h : PartOk C cS H y n) (q : ∀ y' H', Same H H' → PartIs K C cS H' y y' → IsEx C cS H' (y', n) → f y' H') : AsEx K C cS H y f g := by
  rcases h with h | ⟨z, rfl, ok, rfl⟩
  · have h' := h
    obtain ⟨a, kd, z, st, p, e, _⟩ := h'
    exact .inl ⟨h.ins, q y H (Same.refl H) (.inl ⟨rfl, a, e⟩) h⟩
  · refine .inr ⟨_, .base (.str z), kS, .inl ⟨z, rfl, by have := ok.len; omega⟩, fun nb => ?_, fun z' e ok' v' H' s ex => ?_⟩
    · exfalso
      rw [nameB_ok ok] at nb
      cases nb
    · injection e with e
      subst e
      exact q v' H' s (.inr ⟨z, rfl, ex⟩) ex.is
def spBin (K : PySem.W.Frag) (C cS : Addr) (kd : Str) (rev : Bool) : Sp := fun vs H Q _ => ∃ (x y : V) (m n : Nat), vs = [x, y] ∧ IsEx C cS H (x, m) ∧ PartOk C cS H y n ∧ 1 + (m + n) < 64 ∧
  ∀ v y' H', Same H H' → PartIs K C cS H' y y' → ExP K C cS H' v kd "" .non (if rev = true then [y', x] else [x, y']) (1 + (m + n)) → Q v H'
theorem PartIs.same {K : PySem.W.Frag} {C cS : Addr} {H H' : Hp} {y y' : V} (s : Same H H') (h : PartIs K C cS H y y') : PartIs K C cS H' y y' := by
  rcases h with h | ⟨z, e, ex⟩
  · exact .inl h
  · exact .inr ⟨z, e, ex.same s⟩
section
variable {P : Program} {w : World} {K : PySem.W.Frag} {mg : Str → Option Value} {base : Heap}
theorem scAnd : FnScope ["self", "other"] ["self", "other"] (defScope sExprAnd) := ⟨rfl, rfl, rfl, by decide +kernel, rfl, by decide +kernel, by decide +kernel⟩
theorem ok_exAnd {C cS fP fL f : Addr} {fdP fdL fd : FuncData} (kS : PySem.W.kitOne K (.type "str") (.ref C) = some false) (P1 : Df K mg "part_expr" sPartExpr fP fdP ["value"]) (GP : FnOk P w K mg base CX0 6 fP fdP ["value"] (spPart K C cS)) (L1 : Df K mg "_lesser" sLesser fL fdL ["left", "right"]) (GL : FnOk P w K mg base CX0 4 fL fdL ["left", "right"] (spTwo K C cS "lesser"))
    (F : Fun K "__and__" "Expr.__and__" sExprAnd f fd) : FnOk P w K mg base CX0 7 f fd ["self", "other"] (spBin K C cS "lesser" false) := by
  refine F.ok scAnd (fun vs H Q E h => ?_) (fun cdv A outer s H vs Q E hr h => ?_)
  · obtain ⟨x, y, m, n, rfl, _⟩ := h
    rfl
  · obtain ⟨x, y, m, n, rfl, hx, hy, few, q⟩ := h
    refine ⟨_, pss_one (ps_ret (pe_call GL (hr.mono (by decide)) rfl L1.g L1.F.kp L1.b .nil pass0 (pa_cons (pv 0) (pa_cons (pe_call GP (hr.mono (by decide)) rfl P1.g P1.F.kp P1.b .nil pass0 (pa_cons (pv 1) pa_nil)) pa_nil)))), ?_⟩
    refine ⟨_, rfl, _, rfl, y, rfl, part_as kS hy fun y' H' s pi ex => ?_⟩
    exact ⟨x, y', m, n, rfl, hx.same s, ex, few, fun v H2 s2 e => q v y' H2 (s.trans s2) (pi.same s2) e⟩
theorem scRand : FnScope ["self", "other"] ["self", "other"] (defScope sExprRand) := ⟨rfl, rfl, rfl, by decide +kernel, rfl, by decide +kernel, by decide +kernel⟩
theorem ok_exRand {C cS fP fL f : Addr} {fdP fdL fd : FuncData} (kS : PySem.W.kitOne K (.type "str") (.ref C) = some false) (P1 : Df K mg "part_expr" sPartExpr fP fdP ["value"]) (GP : FnOk P w K mg base CX0 6 fP fdP ["value"] (spPart K C cS)) (L1 : Df K mg "_lesser" sLesser fL fdL ["left", "right"]) (GL : FnOk P w K mg base CX0 4 fL fdL ["left", "right"] (spTwo K C cS "lesser"))
    (F : Fun K "__rand__" "Expr.__rand__" sExprRand f fd) : FnOk P w K mg base CX0 7 f fd ["self", "other"] (spBin K C cS "lesser" true) := by
  refine F.ok scRand (fun vs H Q E h => ?_) (fun cdv A outer s H vs Q E hr h => ?_)
  · obtain ⟨x, y, m, n, rfl, _⟩ := h
    rfl
  · obtain ⟨x, y, m, n, rfl, hx, hy, few, q⟩ := h
    refine ⟨_, pss_one (ps_ret (pe_call GL (hr.mono (by decide)) rfl L1.g L1.F.kp L1.b .nil pass0 (pa_cons (pe_call GP (hr.mono (by decide)) rfl P1.g P1.F.kp P1.b .nil pass0 (pa_cons (pv 1) pa_nil)) (pa_cons (pv 0) pa_nil)))), ?_⟩
    refine ⟨_, rfl, y, rfl, part_as kS hy fun y' H' s pi ex => ?_⟩
    refine ⟨_, rfl, y', x, n, m, rfl, ex, hx.same s, by omega, fun v H2 s2 e => q v y' H2 (s.trans s2) (pi.same s2) ?_⟩
    rw [if_pos rfl, Nat.add_comm m n]
    exact e
theorem scOr : FnScope ["self", "other"] ["self", "other"] (defScope sExprOr) := ⟨rfl, rfl, rfl, by decide +kernel, rfl, by decide +kernel, by decide +kernel⟩
theorem ok_exOr {C cS fP fL f : Addr} {fdP fdL fd : FuncData} (kS : PySem.W.kitOne K (.type "str") (.ref C) = some false) (P1 : Df K mg "part_expr" sPartExpr fP fdP ["value"]) (GP : FnOk P w K mg base CX0 6 fP fdP ["value"] (spPart K C cS)) (L1 : Df K mg "_greater" sGreater fL fdL ["left", "right"]) (GL : FnOk P w K mg base CX0 4 fL fdL ["left", "right"] (spTwo K C cS "greater"))
    (F : Fun K "__or__" "Expr.__or__" sExprOr f fd) : FnOk P w K mg base CX0 7 f fd ["self", "other"] (spBin K C cS "greater" false) := by
  refine F.ok scOr (fun vs H Q E h => ?_) (fun cdv A outer s H vs Q E hr h => ?_)
  · obtain ⟨x, y, m, n, rfl, _⟩ := h
    rfl
  · obtain ⟨x, y, m, n, rfl, hx, hy, few, q⟩ := h
    refine ⟨_, pss_one (ps_ret (pe_call GL (hr.mono (by decide)) rfl L1.g L1.F.kp L1.b .nil pass0 (pa_cons (pv 0) (pa_cons (pe_call GP (hr.mono (by decide)) rfl P1.g P1.F.kp P1.b .nil pass0 (pa_cons (pv 1) pa_nil)) pa_nil)))), ?_⟩
    refine ⟨_, rfl, _, rfl, y, rfl, part_as kS hy fun y' H' s pi ex => ?_⟩
    exact ⟨x, y', m, n, rfl, hx.same s, ex, few, fun v H2 s2 e => q v y' H2 (s.trans s2) (pi.same s2) e⟩
theorem scRor : FnScope ["self", "other"] ["self", "other"] (defScope sExprRor) := ⟨rfl, rfl, rfl, by decide +kernel, rfl, by decide +kernel, by decide +kernel⟩
theorem ok_exRor {C cS fP fL f : Addr} {fdP fdL fd : FuncData} (kS : PySem.W.kitOne K (.type "str") (.ref C) = some false) (P1 : Df K mg "part_expr" sPartExpr fP fdP ["value"]) (GP : FnOk P w K mg base CX0 6 fP fdP ["value"] (spPart K C cS)) (L1 : Df K mg "_greater" sGreater fL fdL ["left", "right"]) (GL : FnOk P w K mg base CX0 4 fL fdL ["left", "right"] (spTwo K C cS "greater"))
    (F : Fun K "__ror__" "Expr.__ror__" sExprRor f fd) : FnOk P w K mg base CX0 7 f fd ["self", "other"] (spBin K C cS "greater" true) := by
  refine F.ok scRor (fun vs H Q E h => ?_) (fun cdv A outer s H vs Q E hr h => ?_)
  · obtain ⟨x, y, m, n, rfl, _⟩ := h
    rfl
  · obtain ⟨x, y, m, n, rfl, hx, hy, few, q⟩ := h
    refine ⟨_, pss_one (ps_ret (pe_call GL (hr.mono (by decide)) rfl L1.g L1.F.kp L1.b .nil pass0 (pa_cons (pe_call GP (hr.mono (by decide)) rfl P1.g P1.F.kp P1.b .nil pass0 (pa_cons (pv 1) pa_nil)) (pa_cons (pv 0) pa_nil)))), ?_⟩
    refine ⟨_, rfl, y, rfl, part_as kS hy fun y' H' s pi ex => ?_⟩
    refine ⟨_, rfl, y', x, n, m, rfl, ex, hx.same s, by omega, fun v H2 s2 e => q v y' H2 (s.trans s2) (pi.same s2) ?_⟩
    rw [if_pos rfl, Nat.add_comm m n]
    exact e
end
end LK

namespace LK
open PySem PySem.Spec PyProof.Rows L2 LR
/-! ### a step applied, where all is as it should be -/
/-- the method __call__ -/
structure CallM (K : PySem.W.Frag) (C f : Addr) (fd : FuncData) : Prop where
  F : FunD K "__call__" "Step.__call__" (defArgs sStepCall) (defBody sStepCall) (defScope sStepCall) [V.non, V.non] [] f fd
  b0 : Binds K fd ["self", "first", "second", "third"] []
  b1 : Binds K fd ["self", "first", "second", "third"] [.none]
  b2 : Binds K fd ["self", "first", "second", "third"] [.none, .none]
  o : StX.CallO K C f
def thereB (xs : List V) : List Bool := xs.map fun v => !decide (v = .non)
def wantB (n : Nat) : List Bool := (List.range 3).map fun i => decide (i < n)
/-- what stands for expressions, each told what it stands for -/
def AllIs (K : PySem.W.Frag) (C cS : Addr) (H : Hp) (xs : List (V × Nat)) (ps : List V) : Prop := ps.length = xs.length ∧ ∀ (i : Nat) (x : V × Nat) (y : V), xs[i]? = some x → ps[i]? = some y → PartIs K C cS H x.1 y
def spCallOk (K : PySem.W.Frag) (C cS : Addr) : Sp := fun vs H Q _ => ∃ (a : Addr) (v0 v1 v2 : V) (z y : Str) (xs : List (V × Nat)), vs = [.ref a, v0, v1, v2] ∧ StepAt cS H a z y ∧ y.length ≤ 3 ∧ thereB [v0, v1, v2] = wantB y.length ∧
  [v0, v1, v2].take y.length = xs.map (fun e => e.1) ∧ (∀ x ∈ xs, PartOk C cS H x.1 x.2) ∧ 1 + tot xs < 64 ∧ ∀ v ps H', Same H H' → AllIs K C cS H' xs ps → ExP K C cS H' v "step" "" (.ref a) ps (1 + tot xs) → Q v H'
theorem sqT_lst {K : PySem.W.Frag} {H : Hp} {p D : Addr} {ys zs xs : List V} (h : SqT K H p xs) (e : H D = some (.lst ys)) : SqT K (upd H D (.lst zs)) p xs := by
  rcases h with (h | ⟨o, h⟩) | h
  · exact .inl (.inl (by rw [upd_ne (ne_of h e (by intro z; cases z))]; exact h))
  · exact .inl (.inr ⟨o, by rw [upd_ne (ne_of h e (by intro z; cases z))]; exact h⟩)
  · exact .inr h
theorem IsSt.lst {cS D : Addr} {H : Hp} {ys zs : List V} {v : V} (h : IsSt cS H v) (e : H D = some (.lst ys)) : IsSt cS (upd H D (.lst zs)) v := by
  obtain ⟨b, z, y, q, d, hb⟩ := h
  refine ⟨b, z, y, q, d, ?_⟩
  rw [upd_ne (ne_of hb e (by intro z; cases z))]
  exact hb
theorem ExF.lst {C cS D : Addr} {H : Hp} {ys zs : List V} {a : Addr} {kd z : Str} {st : V} {p : Addr} {n : Nat} (h : ExF C cS H a kd z st p n) (e : H D = some (.lst ys)) : ExF C cS (upd H D (.lst zs)) a kd z st p n := by
  obtain ⟨dx, q1, q2, i, j, ws, bs, ha, t1, t2, l1, l2, g⟩ := h
  refine ⟨dx, q1, q2, i, j, ws, bs, ?_, ?_, ?_, l1, l2, fun b hb => (g b hb).lst e⟩
  · rw [upd_ne (ne_of ha e (by intro z; cases z))]
    exact ha
  · rw [upd_ne (ne_of t1 e (by intro z; cases z))]
    exact t1
  · rw [upd_ne (ne_of t2 e (by intro z; cases z))]
    exact t2
theorem IsEx.lst {C cS D : Addr} {H : Hp} {ys zs : List V} {v : V × Nat} (h : IsEx C cS H v) (e : H D = some (.lst ys)) : IsEx C cS (upd H D (.lst zs)) v := by
  obtain ⟨a, kd, z, st, p, q, f⟩ := h
  exact ⟨a, kd, z, st, p, q, f.lst e⟩
theorem ExP.lst {K : PySem.W.Frag} {C cS D : Addr} {H : Hp} {ys zs : List V} {v : V} {kd z : Str} {st : V} {ps : List V} {n : Nat} (h : ExP K C cS H v kd z st ps n) (e : H D = some (.lst ys)) : ExP K C cS (upd H D (.lst zs)) v kd z st ps n := by
  obtain ⟨a, p, q, f, t⟩ := h
  exact ⟨a, p, q, f.lst e, sqT_lst t e⟩
theorem PartIs.lst {K : PySem.W.Frag} {C cS D : Addr} {H : Hp} {ys zs : List V} {y y' : V} (h : PartIs K C cS H y y') (e : H D = some (.lst ys)) : PartIs K C cS (upd H D (.lst zs)) y y' := by
  rcases h with h | ⟨z, q, ex⟩
  · exact .inl h
  · exact .inr ⟨z, q, ex.lst e⟩
theorem PartOk.same {C cS : Addr} {H H' : Hp} {y : V} {n : Nat} (s : Same H H') (h : PartOk C cS H y n) : PartOk C cS H' y n := h.imp (IsEx.same s) id
theorem slA_read {K : PySem.W.Frag} {G : Addr} {H : Hp} {xs : List V} {n : Nat} {Q : VK} (t : SqT K H G xs) (hn : n ≤ xs.length) (key : ∀ p H', Same H H' → SqT K H' p (xs.take n) → Q (.ref p) H') : rSlA K (.ref G) none (some (n : Int)) H Q := by
  have e0 : HT.sIx xs.length 0 none = 0 := rfl
  have e1 : HT.sIx xs.length xs.length (some (n : Int)) = n := by
    rw [HT.sIx_nat]
    exact Nat.min_eq_left hn
  refine ⟨G, xs, rfl, t, fun h => ?_, fun _ p hp => ?_⟩
  · rw [e1] at h
    refine key G H (Same.refl H) ?_
    rw [h.2, List.take_length]
    exact t
  · refine key p _ (same_new hp) ?_
    have c : cutV xs none (some (n : Int)) = xs.take n := by
      unfold cutV
      rw [e0, e1]
      rfl
    rw [c]
    exact SqT.of upd_same
theorem want_fit : ∀ n, n < 4 → SeqAt.shaped (.list ((wantB n).map PyData.bool)) = true ∧ PyData.eqv (.list ((wantB n).map PyData.bool)) (.list ((wantB n).map PyData.bool)) = true := by decide +kernel
theorem dp_bools {K : PySem.W.Frag} {H : Hp} : ∀ bs : List Bool, DpAll K H (bs.map V.bl) (bs.map PyData.bool)
  | [] => .nil
  | b :: bs => .cons (.bl b) (dp_bools bs)
section
variable {P : Program} {w : World} {K : PySem.W.Frag} {mg : Str → Option Value} {base : Heap}
def nCall : List Str := ["self", "first", "second", "third", "given", "wanted", "at", "part"]
theorem scCall : FnScope nCall ["self", "first", "second", "third"] (defScope sStepCall) := ⟨rfl, rfl, rfl, by decide +kernel, rfl, by decide +kernel, by decide +kernel⟩
theorem ok_callOk {C cS fL fP fA f : Addr} {fdL fdP fdA fd : FuncData} {t3 : Tok} (S : Std mg) (c : OwnCl K mg "Step" cS) (n2 : NoAttr K cS "ways") (L : LenM K cS fL fdL sStepLen "Step.__len__") (m3 : mg "MOST_ARGUMENTS" = some (.int 3 t3))
    (P1 : Df K mg "part_expr" sPartExpr fP fdP ["value"]) (GP : FnOk P w K mg base CX0 6 fP fdP ["value"] (spPart K C cS)) (A1 : Df K mg "applied" sApplied fA fdA ["step", "parts"]) (GA : FnOk P w K mg base CX0 4 fA fdA ["step", "parts"] (spApplied K C cS))
    (kS : PySem.W.kitOne K (.type "str") (.ref C) = some false) (M : CallM K cS f fd) : FnOk P w K mg base CX0 7 f fd ["self", "first", "second", "third"] (spCallOk K C cS) := by
  have GL : FnOk P w K mg base CX0 1 fL fdL ["self"] (spStLen cS) := ok_stLen S c.cl n2 L.F
  refine M.F.ok scCall (fun vs H Q E h => ?_) (fun cdv A outer s H vs Q E hr h => ?_)
  · obtain ⟨a, v0, v1, v2, z, y, xs, rfl, _⟩ := h
    rfl
  · obtain ⟨a, v0, v1, v2, z, y, xs, rfl, ha, hy, ht, hxs, hp, few, q⟩ := h
    have body : ∃ t, PSs (cxOf CX0 P w K mg base nCall "Step.__call__" (defScope sStepCall) f cdv A outer s H E).nox (defBody sStepCall) t ∧ t { nx := fun _ H' => Q .non H', rt := Q } (start nCall [.ref a, v0, v1, v2]) H := by
      refine ⟨_, pss_cons (ps_set (i := 4) scCall.nd rfl (Or.inl rfl) (pe_tup (pa_cons (pv 1) (pa_cons (pv 2) (pa_cons (pv 3) pa_nil)))))
        (pss_cons (ps_setLc (i := 5) (own := [("at", 6)]) (g := gName 6) (tt := tYes) rfl scCall.nd rfl rfl rfl (pi_range1 (by rfl) S.range (pa_cons (pe_glob (v := .int 3) rfl m3 ⟨_, rfl⟩) pa_nil)) (blkOk_by (N := nCall) (sc := defScope sStepCall) (by decide +kernel))
            (fun _ _ _ _ _ => pg_name (i := 6) scCall.nd rfl (Or.inl rfl)) (fun _ _ _ _ _ => pts_nil) (fun _ _ _ _ _ => pe_cmpR op_lt (pv 6) (pe_callB (LR.call_lenOwn (C := cS) (E := fun _ _ _ => False) GL L.at_ L.fn L.b pass0 (hr.mono (by decide))) (by rfl) S.len PySem.boot_len (pa_cons (pv 0) pa_nil)) (nomark _)))
        (pss_cons (ps_if (pt_cmpR (op_neD (by have := hr.units; exact this)) (pe_lc (own := [("part", 7)]) (g := gName 7) (tt := tYes) rfl scCall.nd (pi_tup (pv 4)) (blkOk_by (N := nCall) (sc := defScope sStepCall) (by decide +kernel))
            (fun _ _ _ _ _ => pg_name (i := 7) scCall.nd rfl (Or.inl rfl)) (fun _ _ _ _ _ => pts_nil) (fun _ _ _ _ _ => pe_cmp (pc_notN (pv 7)))) (pv 5) (nomark _)) (pss_one ps_never) pss_nil)
        (pss_one (ps_ret (pe_call GA (hr.mono (by decide)) rfl A1.g A1.F.kp A1.b .nil pass0 (pa_cons (pv 0) (pa_cons (pe_lc (own := [("part", 7)]) (g := gName 7) (tt := tYes) rfl scCall.nd
            (pi_tup (pe_slice sl_tupA (pv 4) po_none (po_some (pe_callB (LR.call_lenOwn (C := cS) (E := fun _ _ _ => False) GL L.at_ L.fn L.b pass0 (hr.mono (by decide))) (by rfl) S.len PySem.boot_len (pa_cons (pv 0) pa_nil))))) (blkOk_by (N := nCall) (sc := defScope sStepCall) (by decide +kernel))
            (fun _ _ _ _ _ => pg_name (i := 7) scCall.nd rfl (Or.inl rfl)) (fun _ _ _ _ _ => pts_nil) (fun _ _ _ _ _ => pe_call GP hr rfl P1.g P1.F.kp P1.b .nil pass0 (pa_cons (pv 7) pa_nil))) pa_nil))))))), ?_⟩
      obtain ⟨dx, ha⟩ := ha
      refine ⟨_, rfl, _, rfl, _, rfl, (by show 3 ≤ sizeLine; decide), fun G hG => ?_⟩
      have s1 := same_new (o := .tup [v0, v1, v2]) hG
      have tG : SqT K (upd H G (.tup [v0, v1, v2])) G [v0, v1, v2] := SqT.of upd_same
      generalize upd H G (.tup [v0, v1, v2]) = H1 at s1 tG ⊢
      refine ⟨3, rfl, by decide, by decide, fun D hD => lc_range (lo := 0) (n := 3) (fun i H4 => Same H1 H4 ∧ H4 D = some (.lst (((List.range 3).take i).map fun k => V.bl (decide (k < y.length))))) ⟨same_new hD, upd_same⟩ (fun i H4 lt h => ?_) (fun H4 h => ?_)⟩
      · obtain ⟨s4, d4⟩ := h
        refine ⟨rfl, _, rfl, _, rfl, a, dx, _, rfl, s4 _ _ (s1 _ _ ha), a, z, y, rfl, ⟨dx, s4 _ _ (s1 _ _ ha)⟩, hy, y.length, rfl, by omega, _, _, rfl, rfl, _, d4, ?_, same_put hD s4, ?_⟩
        · rw [List.length_map, List.length_take, sizeLine_eq]
          omega
        · rw [upd_same, List.take_add_one, List.map_append]
          have e : (List.range 3)[i]? = some i := by rw [List.getElem?_range lt]
          rw [e]
          have z : decide ((0 : Int) + (i : Int) < (y.length : Int)) = decide (i < y.length) := by
            by_cases h : i < y.length
            · rw [decide_eq_true h, decide_eq_true (by omega)]
            · rw [decide_eq_false h, decide_eq_false (by omega)]
          show some (HO.lst (_ ++ [V.bl (decide ((0 : Int) + (i : Int) < (y.length : Int)))])) = _
          rw [z]
          rfl
      obtain ⟨s4, d4⟩ := h
      have dW : H4 D = some (.lst ((wantB y.length).map V.bl)) := by
        rw [d4, wantB, List.map_map]
        rfl
      clear d4
      refine ⟨_, rfl, G, rfl, ⟨_, SqT.same s4 tG⟩, fun D2 hD2 => lc_tup (xs := [v0, v1, v2]) (fun i H5 => Same H4 H5 ∧ H5 D2 = some (.lst (([v0, v1, v2].take i).map fun v => V.bl (!decide (v = .non))))) ⟨same_new hD2, upd_same⟩ (fun i H5 _ h => SqT.same (s4.trans h.1) tG) (fun i v H5 hv h => ?_) (fun H5 h => ?_)⟩
      · obtain ⟨s5, d5⟩ := h
        refine ⟨rfl, _, rfl, _, d5, ?_, same_put hD2 s5, ?_⟩
        · rw [List.length_map, List.length_take, sizeLine_eq]
          exact Nat.lt_of_le_of_lt (Nat.min_le_right _ _) (by show 3 < 16777216; decide)
        · rw [upd_same, List.take_add_one, List.map_append, hv]
          rfl
      obtain ⟨s5, d5⟩ := h
      have d5' : H5 D2 = some (.lst ((thereB [v0, v1, v2]).map V.bl)) := by
        rw [d5, thereB, List.map_map]
        rfl
      rw [ht] at d5'
      refine ⟨_, rfl, _, _, .lst (SqL.of d5') (dp_bools _), .lst (SqL.of (s5 _ _ dW)) (dp_bools _), ?_, ?_, ?_⟩
      · exact (want_fit y.length (by omega)).1
      · exact (want_fit y.length (by omega)).1
      have same : (!PyData.eqv (.list ((wantB y.length).map PyData.bool)) (.list ((wantB y.length).map PyData.bool))) = false := by
        rw [(want_fit y.length (by omega)).2]
        rfl
      rw [same]
      refine ⟨false, rfl, iteF ?_⟩
      have s6 := s4.trans s5
      refine ⟨_, rfl, _, rfl, _, rfl, a, dx, _, rfl, s6 _ _ (s1 _ _ ha), a, z, y, rfl, ⟨dx, s6 _ _ (s1 _ _ ha)⟩, hy, y.length, rfl, by omega, _, rfl, slA_read (SqT.same s6 tG) hy fun p H6 s7 tp => ?_⟩
      rw [hxs] at tp
      have s8 : Same H H6 := (s1.trans s6).trans s7
      have len : xs.length = y.length := by
        have e := congrArg List.length hxs
        rw [List.length_map, List.length_take] at e
        show xs.length = _
        rw [← e]
        exact Nat.min_eq_left hy
      refine ⟨p, rfl, ⟨_, tp⟩, fun D5 hD5 => lc_tup (xs := xs.map fun e : V × Nat => e.1) (fun i H7 => Same H6 H7 ∧ ∃ ps : List V, H7 D5 = some (.lst ps) ∧ ps.length = i ∧ ∀ (j : Nat) (x : V × Nat) (v : V), xs[j]? = some x → ps[j]? = some v → PartIs K C cS H7 x.1 v ∧ IsEx C cS H7 (v, x.2))
        ⟨same_new hD5, [], upd_same, rfl, fun j x v _ h => by simp at h⟩ (fun i H7 _ h => SqT.same h.1 tp) (fun i v H7 hv h => ?_) (fun H7 h => ?_)⟩
      · obtain ⟨s9, ps, d9, lp, gp⟩ := h
        rw [List.getElem?_map] at hv
        obtain ⟨x, hx, rfl⟩ := Option.map_eq_some_iff.mp hv
        have lt : i < xs.length := (List.getElem?_eq_some_iff.mp hx).1
        have px := hp x (List.mem_of_getElem? hx)
        refine ⟨rfl, _, rfl, x.1, rfl, part_as kS (px.same (s8.trans s9)) fun y' H8 s' pi ex => ?_⟩
        have d8 := s' _ _ d9
        refine ⟨ps, d8, by rw [lp, sizeLine_eq]; omega, same_put hD5 (s9.trans s'), ps ++ [y'], upd_same, by rw [List.length_append, lp]; rfl, fun j x1 v1 h1 h2 => ?_⟩
        by_cases lj : j < ps.length
        · rw [List.getElem?_append_left lj] at h2
          obtain ⟨b1, b2⟩ := gp j x1 v1 h1 h2
          exact ⟨(b1.same s').lst d8, (b2.same s').lst d8⟩
        · have ej : j = ps.length := by
            have := (List.getElem?_eq_some_iff.mp h2).1
            rw [List.length_append, List.length_singleton] at this
            omega
          rw [ej, List.getElem?_append_right (Nat.le_refl _), Nat.sub_self] at h2
          have ev : y' = v1 := by simpa using h2
          rw [ej, lp, hx] at h1
          have exx : x = x1 := by simpa using h1
          rw [← ev, ← exx]
          exact ⟨pi.lst d8, ex.lst d8⟩
      · obtain ⟨s9, ps, d9, lp, gp⟩ := h
        rw [List.length_map] at lp
        have lz : ps.length = (xs.map fun e : V × Nat => e.2).length := by rw [List.length_map, lp]
        have z1 : (ps.zip (xs.map fun e : V × Nat => e.2)).map (fun e => e.1) = ps := List.map_fst_zip (Nat.le_of_eq lz)
        have z2 : tot (ps.zip (xs.map fun e : V × Nat => e.2)) = tot xs := by
          unfold tot
          rw [show (ps.zip (xs.map fun e : V × Nat => e.2)).map (fun e => e.2) = xs.map fun e : V × Nat => e.2 from List.map_snd_zip (Nat.le_of_eq lz.symm)]
        refine ⟨.ref a, D5, ps.zip (xs.map fun e : V × Nat => e.2), rfl, ⟨a, z, y, rfl, dx, (s8.trans s9) _ _ ha⟩, by rw [z1]; exact SqL.of d9, fun e he => ?_, by rw [z2]; exact few, by rw [List.length_zip, lp, List.length_map, Nat.min_self]; omega, fun v H8 s10 ex => ?_⟩
        · obtain ⟨j, hj⟩ := List.mem_iff_getElem?.mp he
          obtain ⟨j1, j2⟩ := List.getElem?_zip_eq_some.mp hj
          rw [List.getElem?_map] at j2
          obtain ⟨x, hx, e2⟩ := Option.map_eq_some_iff.mp j2
          have r := (gp j x e.1 hx j1).2
          rw [e2] at r
          exact r
        · rw [z1, z2] at ex
          exact q v ps H8 ((s8.trans s9).trans s10) ⟨lp, fun j x v1 h1 h2 => (gp j x v1 h1 h2).1.same s10⟩ ex

    obtain ⟨t, p, r⟩ := body
    exact ⟨t, p.nox, r⟩
end
end LK

/-! list(x), x a text: a new list of its letters -/
namespace LR
open PySem PySem.Spec PyProof.Rows
section
variable {prog : Program} {w : World} {A : Around} {E : Value → Shared → Prop} {s : Shared}
theorem extend_str {R : Result → Shared → Prop} (hh : A.handled = none) (x : Str) (t : Tok) (S : Addr) (res : Value) (c₀ : Nat) (hS : s.heap.get? S = some { cls := .type "list", data := .seq #[] c₀ })
    (hR : ∀ h' tk acc' c', (∀ b o, b ≠ S → s.heap.get? b = some o → h'.get? b = some o) → h'.get? S = some { cls := .type "list", dict := none, data := .seq acc' c', slots := #[] } →
      ItemsOf (SignAt x) acc' x.cps.size → R (.ok (.ret res)) { s with heap := h', toks := tk }) (hn : x.cps.size ≤ sizeLine) :
    wpAny (model prog w) A.in1 (Builtin.List.listExtendWith (.ref S) (.str x t) res)
      (fun fin s' => match fin with | .done f => R (.ok f) s' | .again c' => c'.quiet = true ∧ codeAny (model prog w) A c' R s') (fun e s' => R (.error e) s') s := by
  have hSI : S ≠ s.heap.objs.size := Nat.ne_of_lt (Heap.lt_size hS)
  have hSf : S ∉ [s.heap.objs.size] := fun hm => hSI (List.mem_singleton.mp hm)
  unfold Builtin.List.listExtendWith
  refine wpAny_bind (wpAny_typeOf (T := "str") (v := .str x t) rfl ?_)
  have h1 : Builtin.List.listSameRef (.ref S) (.str x t) = false := rfl
  have h2 : (Value.type "str" == Value.type "list") = false := by decide
  have h3 : (Value.type "str" == Value.type "tuple") = false := by decide
  simp only [h1, h2, h3, Bool.or_false, Bool.false_eq_true, if_false]
  refine wpAny_bind (wpAny_pyIter_str fun o St W hst => ?_)
  refine wpAny_bind (wpAny_holding ?_)
  unfold Builtin.List.listLengthHint
  refine wpAny_bind (wpAny_specialOf (T := "str") (v := .str x t) rfl F.str_len ?_)
  wp_delta
  refine wpAny_bind (wpAny_isInstance (T := "str") (v := .str x t) (b := true) rfl (by rw [isSubtype_type]; kernel_rfl) ?_)
  show wpAny _ A.in1 (typeOf (Value.str x t) >>= _) _ _ _
  refine wpAny_bind (wpAny_typeOf (T := "str") (v := .str x t) rfl ?_)
  refine wpAny_pure ?_
  rw [if_neg (by decide)]
  refine wpAny_pure ⟨plainId_quiet F.plain_extend_loop _, codeAny_extend_loopS (W A.in1 hh).toS hn _ hSf _ x.cps.size 0 _ _ _ rfl (Nat.zero_le _) hst (Heap.get?_push_of_some _ hS) (ItemsOf.nil _) fun s' acc' c' hm hS' hacc => ?_⟩
  rw [Moved.eq_with hm]
  refine hR s'.heap s'.toks acc' c' (fun b ob hb e => hm.heap b ob (fun hmem => ?_) (Heap.get?_push_of_some _ e)) hS' hacc
  rcases List.mem_cons.mp hmem with e' | hmem
  · exact hb e'
  · exact absurd (Heap.lt_size e) (by rw [List.mem_singleton.mp hmem]; exact Nat.lt_irrefl _)
theorem list_init_str {R : Result → Shared → Prop} (hh : A.handled = none) (x : Str) (t : Tok) (S : Addr) (hS : s.heap.get? S = some { cls := .type "list", data := .seq #[] })
    (hR : ∀ h' tk acc' c', (∀ b o, b ≠ S → s.heap.get? b = some o → h'.get? b = some o) → h'.get? S = some { cls := .type "list", dict := none, data := .seq acc' c', slots := #[] } →
      ItemsOf (SignAt x) acc' x.cps.size → R (.ok (.ret .none)) { s with heap := h', toks := tk }) (hn : x.cps.size ≤ sizeLine) :
    wpAny (model prog w) A.in1 (Builtin.«list.__init__» ⟨[.ref S, .str x t], []⟩)
      (fun fin s' => match fin with | .done f => R (.ok f) s' | .again c' => c'.quiet = true ∧ codeAny (model prog w) A c' R s') (fun e s' => R (.error e) s') s := by
  show wpAny _ _ (do let old ← Builtin.List.listItems (.ref S); Builtin.List.listUpdate (.ref S) (fun _ => #[]); letGo old.toList.reverse; Builtin.List.listExtendWith (.ref S) (.str x t) .none) _ _ s
  refine wpAny_bind ?_
  unfold Builtin.List.listItems
  refine wpAny_bind (wpAny_seqItems hS rfl (wpAny_pure ?_))
  show wpAny _ _ (updateSeq S (fun _ => #[]) >>= fun _ => letGo (#[] : Array Value).toList.reverse >>= fun _ => Builtin.List.listExtendWith (.ref S) (.str x t) .none) _ _ s
  refine wpAny_bind (wpAny_updateSeq hS rfl ?_)
  have hS₂ := Heap.get?_update_self (Obj.mapSeq (fun _ => (#[] : Array Value))) hS rfl
  have oth : ∀ b o, b ≠ S → s.heap.get? b = some o → (s.heap.update S (Obj.mapSeq (fun _ => (#[] : Array Value)))).get? b = some o :=
    fun b o hb e => (Heap.get?_update_other _ _ (Ne.symm hb)).trans e
  refine wpAny_bind (wpAny_letGo ?_)
  refine extend_str hh x t S .none _ hS₂ (fun h' tk acc' c' hk hS' hacc => ?_) hn
  exact hR h' tk acc' c' (fun b o hb e => hk b o hb (oth b o hb e)) hS' hacc
theorem call_list_str {x : Str} {t : Tok} {Q : Value → Shared → Prop} (hh : A.handled = none) (hn : x.cps.size ≤ sizeLine)
    (hQ : ∀ h' tk acc' c', (∀ b o, s.heap.get? b = some o → h'.get? b = some o) →
      h'.get? s.heap.objs.size = some { cls := .type "list", dict := none, data := .seq acc' c', slots := #[] } → ItemsOf (SignAt x) acc' x.cps.size → Q (.ref s.heap.objs.size) { s with heap := h', toks := tk }) :
    wpAny (model prog w) A (call (.type "list") [.str x t]) Q E s := by
  refine callType_codes (Q₁ := fun obj s₁ => obj = .ref s.heap.objs.size ∧ s₁ = { s with heap := s.heap.push { cls := .type "list", data := .seq #[] } }) PySem.F.called_list (PySem.F.typeCall_list_1 _) PySem.F.entry_list_init
    (code_list_new _ ⟨rfl, rfl⟩) fun obj s₁ h₁ => ?_
  obtain ⟨rfl, rfl⟩ := h₁
  have hS : (s.heap.push { cls := .type "list", data := .seq #[] }).get? s.heap.objs.size = some { cls := .type "list", data := .seq #[] } := Heap.get?_push_size _ rfl
  refine ⟨⟨_, hS, rfl⟩, PySem.F.args_list_init_2 _ _, list_init_str (A := A.in1) hh x t _ hS (fun h' tk acc' c' hk hS' hacc => ?_) hn⟩
  exact ⟨rfl, hQ h' tk acc' c' (fun b o e => hk b o (Nat.ne_of_lt (Heap.lt_size e)) (Heap.get?_push_of_some _ e)) hS' hacc⟩
end
open L2
/-- list(z) -/
theorem cr_listStr {X : Cx} (hc : X.calm = true) : CallR X (.type "list") (fun xs H Q => ∃ z : Str, xs = [V.str z] ∧ z.length ≤ sizeLine ∧ ∀ p, H p = none → Q (.ref p) (upd H p (.lst (z.cps.toList.map fun c => V.str ⟨#[c]⟩)))) := by
  intro pins s σ H xs us Q I r h
  obtain ⟨z, rfl, hz, q⟩ := h
  obtain ⟨u, rfl, rx⟩ := vals1 r
  obtain ⟨t, rfl⟩ := rx
  refine call_list_str (I.ok.hd hc) hz fun h' tk acc' c' hkeep hS hacc => ?_
  refine ⟨.ref s.heap.objs.size, upd H s.heap.objs.size (.lst (z.cps.toList.map fun c => V.str ⟨#[c]⟩)), I.laid hkeep (Nat.le_refl _) (show ObjOk X.prog X.w _ _ _ (.lst (z.cps.toList.map fun c => V.str ⟨#[c]⟩)) from ⟨?_, acc'.toList, c', ?_, ?_⟩), rfl, q _ (I.hok.fresh (Nat.le_refl _))⟩
  · rw [List.length_map]; exact hz
  · refine vals_of_at (by rw [List.length_map]; simp [hacc.1]) fun j x w h1 h2 => ?_
    obtain ⟨c, u, e1, e2⟩ := hacc.2 j w (by rw [← Array.getElem?_toList]; exact h2)
    rw [List.getElem?_map, Array.getElem?_toList, e1] at h1
    cases h1
    subst e2
    exact ⟨u, rfl⟩
  · exact hS
end LR

namespace LK
open PySem PySem.Spec PyProof.Rows L2
/-! ### different names: one of the letters is always left -/
theorem len_sub : ∀ (ls zs : List Str), ls.Nodup → (∀ x, x ∈ ls → x ∈ zs) → ls.length ≤ zs.length
  | [], _, _, _ => Nat.zero_le _
  | a :: r, zs, nd, sub => by
    have ha := sub a List.mem_cons_self
    have nd' := List.nodup_cons.mp nd
    have h := len_sub r (zs.erase a) nd'.2 fun x hx => by
      have ne : x ≠ a := fun e => nd'.1 (e ▸ hx)
      exact (List.mem_erase_of_ne ne).mpr (sub x (List.mem_cons_of_mem _ hx))
    have := List.length_erase_of_mem ha
    have pos : 0 < zs.length := List.length_pos_of_mem ha
    simp only [List.length_cons]
    omega
theorem one_left {zs : List Str} (h : zs.length < 26) : ∃ c, c ∈ letters.cps.toList ∧ (⟨#[c]⟩ : Str) ∉ zs := by
  refine Classical.byContradiction fun no => ?_
  have all : ∀ x, x ∈ (letters.cps.toList.map fun c => (⟨#[c]⟩ : Str)) → x ∈ zs := fun x hx => by
    obtain ⟨c, hc, rfl⟩ := List.mem_map.mp hx
    exact Classical.byContradiction fun n => no ⟨c, hc, n⟩
  have nd : (letters.cps.toList.map fun c => (⟨#[c]⟩ : Str)).Nodup := by decide +kernel
  have := len_sub _ _ nd all
  rw [List.length_map] at this
  have l26 : letters.cps.toList.length = 26 := by decide +kernel
  omega
theorem letter_ok : ∀ c, c ∈ letters.cps.toList → NameOk ⟨#[c]⟩ := fun c hc => by
  have h := letters_low c hc
  refine ⟨(show 0 < 1 by decide), (show 1 ≤ 4 by decide), fun c' hc' => ?_, fun e => ?_, fun e => ?_, fun e => ?_⟩
  · have e : c' = c := by simpa [TL.tl] using hc'
    rw [e]
    exact h
  all_goals
    have e' := congrArg Str.length e
    revert e'
    show 1 = _ → False
    decide +kernel
theorem not_inV {y : Str} {zs : List Str} (no : y ∉ zs) : inV (.str y) (zs.map V.str) = false := by
  cases e : inV (.str y) (zs.map V.str) with
  | false => rfl
  | true =>
    exfalso
    unfold inV at e
    rw [List.any_eq_true] at e
    obtain ⟨v, hv, e⟩ := e
    obtain ⟨z, hz, rfl⟩ := List.mem_map.mp hv
    have e2 : (V.str z = V.str y) := by
      first | exact of_decide_eq_true e | simpa using e | (unfold eqV at e; simpa using e)
    injection e2 with e2
    exact no (e2 ▸ hz)
def spWords : Sp := fun vs H Q _ => ∃ (l : Addr) (n : Nat), vs = [.ref l, .int n] ∧ n ≤ 20 ∧ Feed H l ∧ ∀ (D : Addr) (zs : List Str) (H' : Hp), zs.length = n → (∀ z, z ∈ zs → NameOk z) → zs.Nodup → H D = none → D ≠ l → H' D = some (.lst (zs.map V.str)) → Feed H' l → Keep l H H' → Q (.ref D) H'
section
variable {P : Program} {w : World} {K : PySem.W.Frag} {mg : Str → Option Value} {base : Heap}
def nWords : List Str := ["_law_feed_here", "_law_many", "_law_found", "_law_k", "_law_some", "_law_word_here"]
theorem scWords : FnScope nWords ["_law_feed_here", "_law_many"] (defScope sWords) := ⟨rfl, rfl, rfl, by decide +kernel, rfl, by decide +kernel, by decide +kernel⟩
theorem ok_words {f fW : Addr} {fd fdW : FuncData} (S : Std mg) (F : Fun K "_law_words" "_law_words" sWords f fd) (W : Df K mg "_law_word" sWord fW fdW ["_law_feed_here"]) (GW : FnOk P w K mg base CX0 3 fW fdW ["_law_feed_here"] spWord) :
    FnOk P w K mg base CX0 4 f fd ["_law_feed_here", "_law_many"] spWords := by
  refine F.ok scWords (fun vs H Q E h => ?_) (fun cdv A outer s H vs Q E hr h => ?_)
  · obtain ⟨l, n, rfl, _⟩ := h
    rfl
  · obtain ⟨l, n, rfl, hn, hf, q⟩ := h
    refine ⟨_, pss_cons (ps_set (i := 2) scWords.nd rfl (Or.inr rfl) (pe_lst pa_nil))
      (pss_cons (ps_for PassesOwn.never rfl (pi_range1 (by rfl) S.range (pa_cons (pv 1) pa_nil)) (pg_name (i := 3) scWords.nd rfl (Or.inl rfl))
        (pss_cons (ps_set (i := 4) scWords.nd rfl (Or.inl rfl) (pe_op op_cat (pe_lst (pa_cons (pe_call GW hr rfl W.g W.F.kp W.b .nil pass0 (pa_cons (pv 0) pa_nil)) pa_nil)) (pe_callTy (LR.cr_listStr rfl) (by rfl) S.list (by decide +kernel) (pa_cons pe_str pa_nil))))
        (pss_one (ps_expr (pe_bm PySem.F.plainAttrs_list PySem.F.slot_list_append PySem.F.type_list_append mt_append (pv 2) (pa_cons (pe_ix ix_list (pe_lc (own := [("_law_word_here", 5)]) (g := gName 5) rfl scWords.nd (pi_list (pv 4)) (blkOk_by (N := nWords) (sc := defScope sWords) (by decide +kernel)) (fun _ _ _ _ _ => pg_name (i := 5) scWords.nd rfl (Or.inl rfl))
            (fun _ _ _ _ _ => pts_one (pt_cmpR (show OpR _ _ (rIn K true) from op_notIn_seq) (pv 5) (pv 2) (by rfl))) (fun _ _ _ _ _ => pv 5)) pe_int (fun _ _ => rfl)) pa_nil))))))
      (pss_one (ps_ret (pv 2)))), ?_⟩
    refine ⟨by show 0 ≤ sizeLine; decide, fun D hD => ?_⟩
    have hlD : l ≠ D := hf.ne hD
    refine ⟨_, rfl, n, rfl, by omega, by omega, for_range (lo := 0) (n := (n : Int).toNat) (fun i σ H' => (∃ v3 v4 v5, σ = [some (.ref l), some (.int n), some (.ref D), v3, v4, v5]) ∧ Feed H' l ∧ Keep l H H' ∧ ∃ zs : List Str, zs.length = i ∧ (∀ z, z ∈ zs → NameOk z) ∧ zs.Nodup ∧ H' D = some (.lst (zs.map V.str))) ⟨⟨_, _, _, rfl⟩, hf.same (same_new hD), Keep.new hD, [], rfl, fun z hz => by simp at hz, List.nodup_nil, upd_same⟩ ?_ ?_⟩
    · rintro i σ H1 hi ⟨⟨v3, v4, v5, rfl⟩, hf1, k1, zs, el, hz, nd, h1⟩
      have fl : (zs.map V.str).all flatV = true := by
        rw [List.all_eq_true]
        intro v hv
        obtain ⟨z, _, rfl⟩ := List.mem_map.mp hv
        rfl
      refine ⟨_, rfl, l, rfl, hf1, fun z H2 hz0 hf2 k2 => ⟨by show 1 ≤ sizeLine; decide, fun p1 hp1 => ⟨letters, rfl, by decide +kernel, fun p2 hp2 => ⟨p1, p2, [.str z], _, rfl, rfl, same_new hp2 _ _ upd_same, upd_same, by rw [List.length_map]; show 1 + letters.cps.toList.length ≤ sizeLine; decide +kernel, fun p3 hp3 => ?_⟩⟩⟩⟩
      have s3 := ((same_new (o := .lst [.str z]) hp1).trans (same_new (o := .lst (letters.cps.toList.map fun c => V.str ⟨#[c]⟩)) hp2)).trans (same_new (o := .lst ([.str z] ++ letters.cps.toList.map fun c => V.str ⟨#[c]⟩)) hp3)
      have h3 := s3 _ _ (k2 _ _ hlD.symm h1)
      refine ⟨_, rfl, .inl ⟨rfl, _, SqL.of h3⟩, _, rfl, p3, rfl, ⟨_, SqL.of upd_same⟩, fun D2 hD2 => ?_⟩
      have hp3' : (upd (upd (upd H2 p1 (.lst [.str z])) p2 (.lst (letters.cps.toList.map fun c => V.str ⟨#[c]⟩))) p3 (.lst ([.str z] ++ letters.cps.toList.map fun c => V.str ⟨#[c]⟩))) p3 = some (.lst ([.str z] ++ letters.cps.toList.map fun c => V.str ⟨#[c]⟩)) := upd_same
      have hf3 := hf2.same s3
      have k3 : Keep l H _ := (k1.trans k2).trans (Keep.same s3)
      generalize upd (upd (upd H2 p1 (.lst [.str z])) p2 (.lst (letters.cps.toList.map fun c => V.str ⟨#[c]⟩))) p3 (.lst ([.str z] ++ letters.cps.toList.map fun c => V.str ⟨#[c]⟩)) = H3 at h3 hp3' hf3 k3 hD2 ⊢
      have len27 : ([V.str z] ++ letters.cps.toList.map fun c => V.str ⟨#[c]⟩).length = 27 := by
        rw [List.length_append, List.length_map]
        show 1 + letters.cps.toList.length = 27
        decide +kernel
      have itm : ∀ v, v ∈ ([V.str z] ++ letters.cps.toList.map fun c => V.str ⟨#[c]⟩) → ∃ y, v = V.str y ∧ NameOk y := fun v hv => by
        rcases List.mem_append.mp hv with h | h
        · exact ⟨z, by simpa using h, hz0⟩
        · obtain ⟨c, hc, rfl⟩ := List.mem_map.mp h
          exact ⟨_, rfl, letter_ok c hc⟩
      have lft : ∃ v, v ∈ ([V.str z] ++ letters.cps.toList.map fun c => V.str ⟨#[c]⟩) ∧ inV v (zs.map V.str) = false := by
        obtain ⟨c, hc, no⟩ := one_left (zs := zs) (by omega)
        exact ⟨_, List.mem_append_right _ (List.mem_map_of_mem hc), not_inV no⟩
      generalize ([V.str z] ++ letters.cps.toList.map fun c => V.str ⟨#[c]⟩) = xs at hp3' len27 itm lft ⊢
      refine lc_list (xs := xs) (fun j H' => Keep D2 H3 H' ∧ H' D2 = some (.lst ((xs.take j).filter fun v => !inV v (zs.map V.str)))) ⟨Keep.new hD2, upd_same⟩ (fun j H' _ h => SqL.of (h.1 _ _ (ne_of_none hp3' hD2) hp3')) (fun j x H' hx ⟨k4, d4⟩ => ?_) (fun H' ⟨k4, d4⟩ => ?_)
      · obtain ⟨y, rfl, hy⟩ := itm x (List.mem_of_getElem? hx)
        have h4 := k4 _ _ (ne_of_none h3 hD2) h3
        have tk : xs.take (j + 1) = xs.take j ++ [V.str y] := by rw [List.take_add_one, hx]; rfl
        refine ⟨rfl, _, rfl, _, rfl, D, zs.map V.str, rfl, .inl (SqL.of h4), rfl, fl, ?_⟩
        rw [if_pos rfl]
        refine ⟨_, rfl, ite2 (fun h => ?_) (fun h => ?_)⟩
        · refine ⟨_, rfl, _, d4, ?_, fun b o n e => ?_, ?_⟩
          · have := List.length_filter_le (fun v => !inV v (zs.map V.str)) (xs.take j)
            rw [List.length_take] at this
            exact small1000 (by omega)
          · rw [upd_ne n]
            exact k4 b o n e
          · rw [upd_same, tk, List.filter_append, List.filter_cons, if_pos h]
            rfl
        · refine ⟨k4, ?_⟩
          rw [tk, List.filter_append, List.filter_cons, if_neg h, List.filter_nil, List.append_nil]
          exact d4
      · have full : xs.take xs.length = xs := List.take_length
        rw [full] at d4
        have h4 := k4 _ _ (ne_of_none h3 hD2) h3
        obtain ⟨v, hv, hne⟩ := lft
        have mem : v ∈ xs.filter (fun v => !inV v (zs.map V.str)) := List.mem_filter.mpr ⟨hv, by rw [hne]; rfl⟩
        have all : ∀ u, u ∈ xs.filter (fun v => !inV v (zs.map V.str)) → u ∈ xs ∧ inV u (zs.map V.str) = false := fun u hu => by
          obtain ⟨a, b⟩ := List.mem_filter.mp hu
          exact ⟨a, by simpa using b⟩
        generalize xs.filter (fun v => !inV v (zs.map V.str)) = ys at d4 mem all
        cases ys with
        | nil => cases mem
        | cons u r =>
          obtain ⟨ux, un⟩ := all u List.mem_cons_self
          obtain ⟨y, rfl, hy⟩ := itm u ux
          have ynot : y ∉ zs := fun m => by
            have e : inV (.str y) (zs.map V.str) = true := by
              unfold inV
              rw [List.any_eq_true]
              exact ⟨_, List.mem_map_of_mem m, by show (y == y) = true; simp⟩
            rw [e] at un
            cases un
          refine ⟨D2, _, 0, .str y, rfl, rfl, SqL.of d4, at_of (j := 0) rfl rfl, D, _, _, rfl, rfl, h4, by rw [List.length_map]; exact small1000 (by omega), ?_⟩
          have k5 : Keep l H H' := fun b o n e => k4 b o (ne_of_none (k3 b o n e) hD2) (k3 b o n e)
          have lD2 : l ≠ D2 := hf3.ne hD2
          refine ⟨⟨_, _, _, rfl⟩, (hf3.keep k4 lD2).keep (m := D) Keep.put hlD, fun b o n e => ?_, zs ++ [y], by simp [el], fun u hu => ?_, ?_, ?_⟩
          · rw [upd_ne (ne_of_none e hD)]
            exact k5 b o n e
          · rcases List.mem_append.mp hu with m | m
            · exact hz u m
            · obtain rfl : u = y := by simpa using m
              exact hy
          · refine List.nodup_append.mpr ⟨nd, by simp, fun a ha b hb => ?_⟩
            obtain rfl : b = y := by simpa using hb
            exact fun e => ynot (e ▸ ha)
          · rw [upd_same, List.map_append]
            rfl
    · rintro σ H1 ⟨⟨v3, v4, v5, rfl⟩, hf1, k1, zs, el, hz, nd, h1⟩
      exact ⟨_, rfl, q D zs H1 (by omega) hz nd hD hlD.symm h1 hf1 k1⟩
end
end LK

namespace LK
open PySem PySem.Spec PyProof.Rows L2 LR
/-! ### steps drawn -/
def StOk (cS : Addr) (H : Hp) (v : V) : Prop := ∃ b z y, v = .ref b ∧ StepAt cS H b z y ∧ NameOk z ∧ WaysOk y
theorem Feed.ins {H : Hp} {l b C dx : Addr} {fs : List (Str × V)} (f : Feed H l) (h : H b = some (.ins C dx fs)) : b ≠ l := by
  obtain ⟨a, c, e, _⟩ := f
  exact ne_of h e (by intro z; cases z)
theorem StOk.keep {cS l : Addr} {H H' : Hp} {v : V} (f : Feed H l) (k : Keep l H H') (h : StOk cS H v) : StOk cS H' v := by
  obtain ⟨b, z, y, e, ⟨dx, hb⟩, hz, hy⟩ := h
  exact ⟨b, z, y, e, ⟨dx, k _ _ (f.ins hb) hb⟩, hz, hy⟩
theorem StOk.same {cS : Addr} {H H' : Hp} {v : V} (s : Same H H') (h : StOk cS H v) : StOk cS H' v := by
  obtain ⟨b, z, y, e, ⟨dx, hb⟩, hz, hy⟩ := h
  exact ⟨b, z, y, e, ⟨dx, s _ _ hb⟩, hz, hy⟩
theorem StOk.lst {cS D : Addr} {H : Hp} {ys zs : List V} {v : V} (h : StOk cS H v) (e : H D = some (.lst ys)) : StOk cS (upd H D (.lst zs)) v := by
  obtain ⟨b, z, y, q, ⟨dx, hb⟩, hz, hy⟩ := h
  refine ⟨b, z, y, q, ⟨dx, ?_⟩, hz, hy⟩
  rw [upd_ne (ne_of hb e (by intro z; cases z))]
  exact hb
theorem StOk.is {cS : Addr} {H : Hp} {v : V} (h : StOk cS H v) : IsSt cS H v := by
  obtain ⟨b, z, y, e, st, _⟩ := h
  exact ⟨b, z, y, e, st⟩
end LK

/-! a list and an empty list compared: == says whether the first is empty, whatever it holds -/
namespace PySem.SeqAt
open AutoSeq1 (wpAny_loadPart')
open MeetsSeq MeetsSeq2 MeetsSeq3 SeqRoads2
section
variable {prog : Program} {w : World} {dd dd2 : Option Addr}
theorem lr_list_lenIn (l b : Addr) (items items2 : Array Value) (n n2 : Nat) (sl sl2 : Array (Option Value)) (hsz : items.size ≠ items2.size) :
    MeetsIn prog w (Builtin.«list.__eq__» ⟨[.ref l, .ref b], []⟩)
      (fun A R s => s.heap.get? l = some { cls := .type "list", dict := dd, data := .seq items n, slots := sl } ∧ s.heap.get? b = some { cls := .type "list", dict := dd2, data := .seq items2 n2, slots := sl2 } ∧
        R (.ok (.ret (.bool false))) s) := by
  intro A R s h
  obtain ⟨hp, g, d, tk, os⟩ := s; obtain ⟨hl, hb, h⟩ := h
  have f3 := AutoSeq1.sub_list_list
  have hne : (items.size != items2.size) = true := by simpa using hsz
  wp_walk using wpAny_loadPart' hl, wpAny_loadPart' hb
  exact h
theorem lr_rcP_len {A : Around} {s : Shared} {l b : Addr} {items items2 : Array Value} (hl : s.heap.IsList l items) (hb : s.heap.IsList b items2) (hsz : items.size ≠ items2.size) (hu : A.units < cLine)
    (E Q : Value → Shared → Prop) (h : Q (.bool false) s) : wpAny (model prog w) A (richCompare .Eq (.ref l) (.ref b)) Q E s := by
  obtain ⟨⟨cls, dd, data, sl⟩, ho, hc, n, hd⟩ := id hl
  obtain ⟨⟨cls2, dd2, data2, sl2⟩, ho2, hc2, n2, hd2⟩ := id hb
  simp only at hc hd hc2 hd2
  subst hc hd hc2 hd2
  have ta : s.TypeIs (.ref l) "list" := ⟨_, ho, rfl⟩
  have tb : s.TypeIs (.ref b) "list" := ⟨_, ho2, rfl⟩
  exact wpAny_richCompare_same_room (op := .Eq) ta tb F.slot_list_eq (call_meetsIn F.slot_list_eq ta F.entry_list_eq (F.args_list_eq_2 _ _) (lr_list_lenIn l b items items2 n n2 sl sl2 hsz)
    ⟨ho, ho2, show Value.bool false ≠ Value.notImplemented ∧ Q (.bool false) s from ⟨(fun x => nomatch x), h⟩⟩) hu
end
end PySem.SeqAt
namespace LR
open PySem PySem.Spec PyProof.Rows L2
section
variable {X : Cx}
def rEqEnd : R2 := fun x y H Q => ∃ a b xs, x = .ref a ∧ y = .ref b ∧ H a = some (.lst xs) ∧ H b = some (.lst []) ∧ Q (.bl xs.isEmpty) H
theorem op_eqEnd (hu : X.A.units < cLine) : OpR X (compareOp .Eq) rEqEnd := by
  intro pins s σ H x y v u Q I rx ry h
  obtain ⟨a, b, xs, rfl, rfl, ha, hb, q⟩ := h
  cases (show v = Value.ref a from rx)
  cases (show u = Value.ref b from ry)
  obtain ⟨us, r1, p1, _⟩ := I.list (SqL.of ha)
  obtain ⟨ws, r2, p2, _⟩ := I.list (SqL.of hb)
  cases r2
  cases xs with
  | nil =>
    cases r1
    refine SeqAt.rcP_lists (e := fun _ => true) p1.isList p2.isList rfl hu (fun j h1 h2 => absurd h1 (by simp)) _ _ ⟨.bl true, H, I, rfl, q⟩
  | cons x r =>
    cases r1 with
    | cons r0 r1 => exact SeqAt.lr_rcP_len p1.isList p2.isList (by simp) hu _ _ ⟨.bl false, H, I, rfl, q⟩
end
end LR

namespace LK
open PySem PySem.Spec PyProof.Rows L2 LR
/-! ### models drawn -/
/-- what stands at the head of a model, of k parts -/
def HdOk (cS : Addr) (H : Hp) (v : V) (k : Nat) : Prop := ((v = .str "lesser" ∨ v = .str "greater") ∧ k = 2) ∨ ∃ b z y, v = .ref b ∧ StepAt cS H b z y ∧ NameOk z ∧ WaysOk y ∧ y.length = k
/-- a model of an expression, less than n deep, of at most r parts -/
def Mdl (cS : Addr) : Nat → Nat → Hp → V → Prop
  | 0, _, _, _ => False
  | n + 1, r, H, m => ∃ p, m = .ref p ∧ ((1 ≤ r ∧ ∃ z, H p = some (.tup [.str "name", .str z]) ∧ NameOk z) ∨
      ∃ (hd : V) (ms : List V) (rs : List Nat), H p = some (.tup (hd :: ms)) ∧ HdOk cS H hd ms.length ∧ rs.length = ms.length ∧ rs.sum + 1 ≤ r ∧ ∀ (i : Nat) (x : V) (k : Nat), ms[i]? = some x → rs[i]? = some k → Mdl cS n k H x)
/-- one more at both ends -/
theorem snoc2 {α β : Type} {P : α → β → Prop} {xs : List α} {ys : List β} {x : α} {y : β} (l : xs.length = ys.length) (h : ∀ (j : Nat) a b, xs[j]? = some a → ys[j]? = some b → P a b) (n : P x y) : ∀ (j : Nat) a b, (xs ++ [x])[j]? = some a → (ys ++ [y])[j]? = some b → P a b := fun j a b h1 h2 => by
  by_cases lj : j < xs.length
  · rw [List.getElem?_append_left lj] at h1
    rw [List.getElem?_append_left (by omega)] at h2
    exact h j a b h1 h2
  · have ej : j = xs.length := by
      have := (List.getElem?_eq_some_iff.mp h1).1
      rw [List.length_append, List.length_singleton] at this
      omega
    rw [ej, List.getElem?_append_right (Nat.le_refl _), Nat.sub_self] at h1
    rw [ej, l, List.getElem?_append_right (Nat.le_refl _), Nat.sub_self] at h2
    have e1 : x = a := by simpa using h1
    have e2 : y = b := by simpa using h2
    rw [← e1, ← e2]
    exact n
theorem HdOk.by {cS : Addr} {H H' : Hp} {v : V} {k : Nat} (s : ∀ b C dx fs, H b = some (.ins C dx fs) → H' b = some (.ins C dx fs)) (h : HdOk cS H v k) : HdOk cS H' v k := by
  rcases h with h | ⟨b, z, y, e, ⟨dx, hb⟩, hz, hy, l⟩
  · exact .inl h
  · exact .inr ⟨b, z, y, e, ⟨dx, s _ _ _ _ hb⟩, hz, hy, l⟩
theorem Mdl.by {cS : Addr} {H H' : Hp} (s : ∀ b C dx fs, H b = some (.ins C dx fs) → H' b = some (.ins C dx fs)) (t : ∀ b xs, H b = some (.tup xs) → H' b = some (.tup xs)) : ∀ {n r : Nat} {m : V}, Mdl cS n r H m → Mdl cS n r H' m
  | 0, _, _, h => h.elim
  | n + 1, r, m, ⟨p, e, h⟩ => by
    refine ⟨p, e, ?_⟩
    rcases h with ⟨o, z, hp, hz⟩ | ⟨hd, ms, rs, hp, hh, lr, sr, hm⟩
    · exact .inl ⟨o, z, t _ _ hp, hz⟩
    · exact .inr ⟨hd, ms, rs, t _ _ hp, hh.by s, lr, sr, fun i x k h1 h2 => Mdl.by s t (hm i x k h1 h2)⟩
section
variable {cS l : Addr} {H H' : Hp} {n r : Nat} {v : V}
theorem Feed.tup {p : Addr} {xs : List V} (f : Feed H l) (h : H p = some (.tup xs)) : p ≠ l := by
  obtain ⟨a, c, e, _⟩ := f
  exact ne_of h e (by intro z; cases z)
theorem HdOk.keep {k : Nat} (f : Feed H l) (kp : Keep l H H') (h : HdOk cS H v k) : HdOk cS H' v k := h.by fun _ _ _ _ e => kp _ _ (f.ins e) e
theorem Mdl.keep (f : Feed H l) (kp : Keep l H H') (h : Mdl cS n r H v) : Mdl cS n r H' v := h.by (fun _ _ _ _ e => kp _ _ (f.ins e) e) fun _ _ e => kp _ _ (f.tup e) e
theorem HdOk.same {k : Nat} (s : Same H H') (h : HdOk cS H v k) : HdOk cS H' v k := h.by fun _ _ _ _ e => s _ _ e
theorem Mdl.same (s : Same H H') (h : Mdl cS n r H v) : Mdl cS n r H' v := h.by (fun _ _ _ _ e => s _ _ e) fun _ _ e => s _ _ e
theorem Mdl.lst {D : Addr} {ys zs : List V} (h : Mdl cS n r H v) (e : H D = some (.lst ys)) : Mdl cS n r (upd H D (.lst zs)) v :=
  h.by (fun b C dx fs hb => by rw [upd_ne (ne_of hb e (by intro z; cases z))]; exact hb) fun b xs hb => by rw [upd_ne (ne_of hb e (by intro z; cases z))]; exact hb
theorem HdOk.lst {D : Addr} {k : Nat} {ys zs : List V} (h : HdOk cS H v k) (e : H D = some (.lst ys)) : HdOk cS (upd H D (.lst zs)) v k :=
  h.by fun b C dx fs hb => by rw [upd_ne (ne_of hb e (by intro z; cases z))]; exact hb
theorem HdOk.le {k : Nat} (h : HdOk cS H v k) : 1 ≤ k ∧ k ≤ 3 := by
  rcases h with ⟨_, rfl⟩ | ⟨b, z, y, _, _, _, hy, rfl⟩
  · exact ⟨by decide, by decide⟩
  · exact ⟨hy.pos, hy.len⟩
end
theorem seq_key {s rest : TS} {D : Ends} {σ : L2.St} {H : Hp} (P : L2.St → Hp → Prop) (h : (∀ σ' H', P σ' H' → rest D σ' H') → tSeq s rest D σ H) (key : ∀ σ' H', P σ' H' → rest D σ' H') : tSeq s rest D σ H := h key
theorem te_key {te : TE} {σ : L2.St} {H : Hp} {G : VK} (P : V → Hp → Prop) (h : ∀ R : VK, (∀ y H', P y H' → R y H') → te σ H R) (key : ∀ y H', P y H' → G y H') : te σ H G := h G key
theorem tt_key {t : TT} {σ : L2.St} {H : Hp} {G : Bool → Hp → Prop} (P : Bool → Hp → Prop) (h : ∀ R : Bool → Hp → Prop, (∀ y H', P y H' → R y H') → t σ H R) (key : ∀ y H', P y H' → G y H') : t σ H G := h G key
theorem if_key {t : TT} {a b rest : TS} {D : Ends} {σ : L2.St} {H : Hp} (P : Bool → Hp → Prop) (h : ∀ R : Bool → Hp → Prop, (∀ y H', P y H' → R y H') → t σ H R) (k1 : ∀ H', P true H' → a { D with nx := rest D } σ H') (k0 : ∀ H', P false H' → b { D with nx := rest D } σ H') : tSeq (tIfS t a b) rest D σ H :=
  h _ fun y H' p => by
    cases y with
    | true => rw [if_pos rfl]; exact k1 H' p
    | false => rw [if_neg Bool.false_ne_true]; exact k0 H' p
theorem gN_key {i : Nat} {v : V} {σ : L2.St} {H : Hp} {Q : L2.St → Hp → Prop} (h : Q (σ.set i (some v)) H) : gName i v σ H Q := h
theorem asg_key {te : TE} {g : TG} {rest : TS} {D : Ends} {σ : L2.St} {H : Hp} (P : V → Hp → Prop) (h : ∀ R : VK, (∀ y H', P y H' → R y H') → te σ H R) (k : ∀ y H', P y H' → g y σ H' (rest D)) : tSeq (tAsg te g) rest D σ H := h _ k
end LK

/-! a text == an object with an own __eq__: the object is asked -/
namespace LR
open PySem PySem.SeqAt
open AutoSeq1 (wpAny_loadPart')
open MeetsSeq MeetsSeq2 MeetsSeq3 SeqRoads2
theorem str_declines_obj (z : Str) (t : Tok) (b : Addr) (c : Value) (dd : Option Addr) (sl : Array (Option Value)) :
    Meets (Builtin.«str.__eq__» ⟨[.str z t, .ref b], []⟩) (fun _ R s => s.heap.get? b = some { cls := c, dict := dd, data := .plain, slots := sl } ∧ R (.ok (.ret .notImplemented)) s) :=
  .of_wp fun prog w A R s h => by obtain ⟨hp, g, d, tk, os⟩ := s; obtain ⟨hl, h⟩ := h; wp_walk using wpAny_loadPart' hl, wpAny_load hl; exact ⟨_, rfl, h⟩
section
variable {prog : Program} {w : World} {A : Around} {E : Value → Shared → Prop} {s : Shared} {K : PySem.W.Frag} {b C f : Addr} {ox : Obj} {od : Option Obj} {z : Str} {tk : Tok}
theorem rc_str_own {Q : Value → Shared → Prop} (hu : A.units < cLine) (X : K.In s.heap) (I : PySem.W.InstAt s.heap b ox C od) (hd : ox.data = .plain) (ns : PySem.W.kitOne K (.ref C) (.type "str") = some false)
    (hs : PySem.W.findIn K (.ref C) "__eq__" = some (some (.ref f))) (hf : PySem.W.isFn K (.ref f) = true)
    (h : wpAny (model prog w) A (call (.ref f) [.ref b, .str z tk]) (fun v s' => ∃ r, v = .bool r ∧ Q (.bool r) s') E s) : wpAny (model prog w) A (richCompare .Eq (.str z tk) (.ref b)) Q E s := by
  have ha : s.TypeIs (.str z tk) "str" := typeIs_str s z tk
  have hsub : PySem.W.Looks (model prog w) s.heap (isSubtype (.ref C) (.type "str")) false := by
    unfold PySem.W.kitOne at ns
    rw [if_neg (show ¬ (Value.ref C == Value.type "str") = true from Bool.false_ne_true)] at ns
    exact (PySem.W.kit_cls X ns).2.2
  obtain ⟨cls, dd, data, sl⟩ := ox
  simp only at hd
  subst hd
  rcases hi : cmpInfo CmpOp.Eq with ⟨sym, f1, r1⟩
  have e1 : f1 = "__eq__" := by cases hi; rfl
  have e2 : r1 = "__eq__" := by cases hi; rfl
  subst e1 e2
  simp only [richCompare, hi, ha.oneThing_none]
  try with_reducible refine wpAny_holding ?_
  refine wpAny_bind (wpAny_cRoomFor_or (.inr hu) ?_)
  refine wpAny_bind (wpAny_typeOf ha (wpAny_bind (I.type.here ?_)))
  have hne : (Value.type "str" != Value.ref C) = true := rfl
  simp only [hne, if_true]
  refine wpAny_bind (hsub.here ?_)
  simp only [Bool.false_eq_true, if_false, Bool.not_false, if_true]
  refine wpAny_bind (m := tryCompare (.str z tk) _ (.ref b)) (wpAny_tryCompare_declines ha F.slot_str_eq (call_meets F.slot_str_eq ha F.entry_str_eq (F.args_str_eq_2 _ _) (str_declines_obj z tk b cls dd sl) ⟨I.at_, rfl, ?_⟩))
  have one : wpAny (model prog w) A (tryCompare (.ref b) "__eq__" (.str z tk)) (fun r s' => ∃ v, r = some v ∧ Q v s') E s := by
    unfold tryCompare
    refine wpAny_bind (PySem.W.ifBound_K X I hs hf (wpAny_mono h (fun v s' hv => ?_) fun _ _ e => e))
    obtain ⟨r, rfl, q⟩ := hv
    exact wpAny_pure ⟨_, rfl, q⟩
  refine wpAny_bind (wpAny_mono one (fun r s' hv => ?_) fun _ _ e => e)
  obtain ⟨v, rfl, q⟩ := hv
  exact wpAny_pure q
end
end LR
namespace LR
open PySem PySem.Spec PyProof.Rows L2
/-- not an instance of its own class: the own __eq__ says no -/
def spEqNo (K : PySem.W.Frag) (C : Addr) : Sp := fun vs H Q _ => ∃ a dx fs y t, vs = [.ref a, y] ∧ H a = some (.ins C dx fs) ∧ TyX K H y t ∧ PySem.W.kitOne K t (.ref C) = some false ∧ Q (.bl false) H
/-- a text beside an object of class C -/
def DStrOwn (C : Addr) : EqvB := fun x y r H => ∃ z b dx fs, x = .str z ∧ y = .ref b ∧ H b = some (.ins C dx fs) ∧ r = false
section
variable {X : Cx} {n : Nat} {C f : Addr} {fd : FuncData} {ps : List Str}
theorem eqGB_strOwn (F : FnOk X.prog X.w X.K X.mg X.base CX0 n f fd ps (spEqNo X.K C)) (hs : PySem.W.findIn X.K (.ref C) "__eq__" = some (some (.ref f))) (hf : PySem.W.isFn X.K (.ref f) = true) (hb : Binds X.K fd ps [])
    (ns : PySem.W.kitOne X.K (.ref C) (.type "str") = some false) (kS : PySem.W.kitOne X.K (.type "str") (.ref C) = some false) : EqGB X n (DStrOwn C) := by
  intro A pins s σ H x y r u v sb I rx ry d
  obtain ⟨z, b, dx, fs, rfl, rfl, hb', rfl⟩ := d
  obtain ⟨t, rfl⟩ := rx
  cases ry
  obtain ⟨mA, J, _⟩ := ins_get I.hok hb'
  obtain ⟨od, J, _⟩ := J.look
  unfold eqBool
  refine wpAny_holding ?_
  refine wpAny_ite_split (fun hab => absurd (eq_of_beq hab) nofun) (fun _ => ?_)
  refine wpAny_bind (rc_str_own sb.room.units0 I.kIn J rfl ns hs hf ?_)
  have hsp : spEqNo X.K C [.ref b, .str z] H (fun v H' => v = .bl false ∧ Ext H H') E0 := ⟨b, dx, fs, .str z, _, rfl, hb', .base (.str z), kS, rfl, Ext.rfl'⟩
  refine wpAny_mono (call_run (A := A) sb F hb pass0 I (.cons (show RelV (V.ref b) (Value.ref b) from rfl) (.cons (show RelV (V.str z) (Value.str z t) from ⟨t, rfl⟩) .nil)) hsp) (fun v s' q => ?_) fun _ _ z => z
  obtain ⟨y, H', I', ry, rfl, e⟩ := q
  cases ry
  exact ⟨false, rfl, wpAny_truthy_bool ⟨rfl, H', I', e⟩⟩
/-- a text beside a list or a tuple -/
def DStrSeq (K : PySem.W.Frag) : EqvB := fun x y r H => ∃ z b xs, x = .str z ∧ y = .ref b ∧ (SqL K H b xs ∨ SqT K H b xs) ∧ r = false
theorem eqGB_strSeq : EqGB X 0 (DStrSeq X.K) := by
  intro A pins s σ H x y r u v sb I rx ry d
  obtain ⟨z, b, xs, rfl, rfl, hq, rfl⟩ := d
  obtain ⟨t, rfl⟩ := rx
  cases ry
  rcases hq with hq | hq
  · obtain ⟨its, r, pl, hz⟩ := I.list hq
    exact SeqAt.EqAt.str_list (A := A) (s := s) z t pl.isList sb.room.units0 X.prog X.w X.xe _ ⟨rfl, H, I, Ext.rfl'⟩
  · obtain ⟨its, r, pl, hz⟩ := I.tuple hq
    exact SeqAt.EqAt.str_tuple (A := A) (s := s) z t pl sb.room.units0 X.prog X.w X.xe _ ⟨rfl, H, I, Ext.rfl'⟩
theorem mon_strOwn {C : Addr} : MonB (DStrOwn C) := fun x y r H H' e d => by
  obtain ⟨z, b, dx, fs, hx, hy, hb, hr⟩ := d
  exact ⟨z, b, dx, fs, hx, hy, e _ _ hb, hr⟩
theorem mon_strSeq {K : PySem.W.Frag} : MonB (DStrSeq K) := fun x y r H H' e d => by
  obtain ⟨z, b, xs, hx, hy, hq, hr⟩ := d
  exact ⟨z, b, xs, hx, hy, hq.elim (fun h => .inl (h.ext e)) (fun h => .inr (h.ext e)), hr⟩
theorem MonB.or {D D' : EqvB} (h : MonB D) (h' : MonB D') : MonB (fun x y b H => D x y b H ∨ D' x y b H) := fun x y b H H' e d => d.elim (fun d => .inl (h x y b H H' e d)) fun d => .inr (h' x y b H H' e d)
end
end LR

namespace LK
open PySem PySem.Spec PyProof.Rows L2 LR
/-! ### an expression is that of a model -/
/-- e is the expression of the model m, less than n deep -/
def ExM (K : PySem.W.Frag) (C cS : Addr) : Nat → Hp → V → V → Prop
  | 0, _, _, _ => False
  | n + 1, H, m, e => ∃ p, m = .ref p ∧ ((∃ z, SqT K H p [.str "name", .str z] ∧ NameOk z ∧ ExP K C cS H e "name" z .non [] 1) ∨
      ∃ hd ms es b, SqT K H p (hd :: ms) ∧ HdOk cS H hd ms.length ∧ es.length = ms.length ∧ (∀ (i : Nat) (x y : V), ms[i]? = some x → es[i]? = some y → ExM K C cS n H x y) ∧
        ((∃ kd, hd = .str kd ∧ (kd = "lesser" ∨ kd = "greater") ∧ ExP K C cS H e kd "" .non es b) ∨ ((∃ r, hd = .ref r) ∧ ExP K C cS H e "step" "" hd es b)))
theorem ExM.same {K : PySem.W.Frag} {C cS : Addr} {H H' : Hp} (s : Same H H') : ∀ {n : Nat} {m e : V}, ExM K C cS n H m e → ExM K C cS n H' m e
  | 0, _, _, h => h.elim
  | n + 1, m, e, ⟨p, q, h⟩ => by
    refine ⟨p, q, ?_⟩
    rcases h with ⟨z, t, hz, ex⟩ | ⟨hd, ms, es, b, t, hh, l, g, k⟩
    · exact .inl ⟨z, SqT.same s t, hz, ex.same s⟩
    · refine .inr ⟨hd, ms, es, b, SqT.same s t, hh.same s, l, fun i x y h1 h2 => ExM.same s (g i x y h1 h2), ?_⟩
      rcases k with ⟨kd, e1, e2, ex⟩ | ⟨e1, ex⟩
      · exact .inl ⟨kd, e1, e2, ex.same s⟩
      · exact .inr ⟨e1, ex.same s⟩
theorem sqT_ty {K : PySem.W.Frag} {H : Hp} {p : Addr} {xs : List V} (h : SqT K H p xs) : TyX K H (.ref p) (.type "tuple") := by
  rcases h with (h | ⟨o, h⟩) | h
  · exact .base (.tup h)
  · exact .fTuple h
  · obtain ⟨o, its, n, e, c, _⟩ := h
    exact .kTuple e c
theorem eqV_self (z : Str) : eqV (.str z) (.str z) = true := by
  simp [eqV]
theorem slB_read {K : PySem.W.Frag} {G : Addr} {H : Hp} {x : V} {xs : List V} {Q : VK} (t : SqT K H G (x :: xs)) (key : ∀ p H', Same H H' → SqT K H' p xs → Q (.ref p) H') : rSlA K (.ref G) (some 1) none H Q := by
  have e0 : HT.sIx (x :: xs).length 0 (some 1) = 1 := by
    have := HT.sIx_nat (x :: xs).length 0 1
    rw [show ((1 : Nat) : Int) = 1 from rfl] at this
    rw [this]
    show min 1 (xs.length + 1) = 1
    omega
  have e1 : HT.sIx (x :: xs).length (x :: xs).length none = xs.length + 1 := rfl
  refine ⟨G, x :: xs, rfl, t, fun h => ?_, fun _ p hp => ?_⟩
  · rw [e0] at h
    exact absurd h.1 (by decide)
  · refine key p _ (same_new hp) ?_
    have c : cutV (x :: xs) (some 1) none = xs := by
      unfold cutV
      rw [e0, e1]
      show xs.take (xs.length + 1 - 1) = xs
      rw [Nat.add_sub_cancel, List.take_length]
    rw [c]
    exact SqT.of upd_same
theorem noPart_read {σ : L2.St} {H : Hp} {Q : Option Int → Hp → Prop} (h : Q none H) : tNoPart σ H Q := h
theorem kd_fit : ∀ kd : Str, kd ∈ (["lesser", "greater", "step"] : List Str) → SeqAt.shaped (.list [.str kd, .str ""]) = true ∧ PyData.eqv (.list [.str kd, .str ""]) (.list [.str kd, .str ""]) = true ∧ (kd = "step" ∨ ¬ V.str kd = V.str "name") := by
  intro kd h
  rcases List.mem_cons.mp h with rfl | h
  · exact ⟨by decide +kernel, by decide +kernel, .inr (by decide +kernel)⟩
  · rcases List.mem_cons.mp h with rfl | h
    · exact ⟨by decide +kernel, by decide +kernel, .inr (by decide +kernel)⟩
    · rw [List.mem_singleton.mp h]
      exact ⟨by decide +kernel, by decide +kernel, .inl rfl⟩
def spIs (K : PySem.W.Frag) (C cS : Addr) (n : Nat) : Sp := fun vs H Q _ => ∃ m e, vs = [e, m] ∧ ExM K C cS n H m e ∧ ∀ H', Same H H' → Q (.bl true) H'
/-- two empty tuples -/
def DNil (K : PySem.W.Frag) : EqvB := fun x y r H => ∃ a b, x = .ref a ∧ y = .ref b ∧ SqT K H a [] ∧ SqT K H b [] ∧ r = true
theorem mon_nil {K : PySem.W.Frag} : MonB (DNil K) := fun x y r H H' e d => by
  obtain ⟨a, b, h1, h2, t1, t2, hr⟩ := d
  exact ⟨a, b, h1, h2, t1.ext e, t2.ext e, hr⟩
theorem eqGB_nil {X : Cx} : EqGB X 1 (DNil X.K) := by
  have rc : RcGB X 1 (DNil X.K) := fun A pins s σ H x y r u v sb I rx ry d => by
    obtain ⟨a, b, h1, h2, t1, t2, hr⟩ := d
    exact rcGB_tup mon_flatB eqGB_flat A pins s σ H x y r u v sb I rx ry ⟨a, b, [], [], fun _ => true, h1, h2, t1, t2, fun i x y e => by simp at e, by rw [hr]; rfl⟩
  exact RcGB.eqG rc fun x y r H d => by
    obtain ⟨a, b, h1, h2, t1, t2, hr⟩ := d
    exact ⟨a, b, h1, h2, fun _ => hr⟩
/-- the method __eq__ of Step, and what is asked of the classes -/
structure IsF (K : PySem.W.Frag) (mg : Str → Option Value) (C cS fQ : Addr) (fdQ : FuncData) : Prop where
  c : OwnCl K mg "Expr" C
  cT : OwnCl K mg "Step" cS
  n : ExN K C
  q : EqM K cS sStepEq "Step.__eq__" fQ fdQ
  s1 : NoAttr K cS "name"
  s2 : NoAttr K cS "ways"
  ne : PySem.W.findIn K (.ref cS) "__ne__" = some (some (.builtin "object.__ne__"))
  kS : PySem.W.kitOne K (.type "str") (.ref cS) = some false
section
variable {P : Program} {w : World} {K : PySem.W.Frag} {mg : Str → Option Value} {base : Heap}
def nIs2 : List Str := ["_law_expr", "_law_model", "_law_part", "_law_one"]
theorem scIs2 : FnScope nIs2 ["_law_expr", "_law_model"] (defScope sIs) := ⟨rfl, rfl, rfl, by decide +kernel, rfl, by decide +kernel, by decide +kernel⟩
theorem ok_is {C cS fQ f : Addr} {fdQ fd : FuncData} (S : Std mg) (I : IsF K mg C cS fQ fdQ) (F : Df K mg "_law_is" sIs f fd ["_law_expr", "_law_model"]) : ∀ n, FnOk P w K mg base CX0 (n + 4) f fd ["_law_expr", "_law_model"] (spIs K C cS n)
  | 0 => F.F.ok scIs2 (fun vs H Q E h => by obtain ⟨m, e, _, h, _⟩ := h; exact h.elim) (fun cdv A outer s H vs Q E hr h => by obtain ⟨m, e, _, h, _⟩ := h; exact h.elim)
  | n + 1 => by
    have G := ok_is S I F n
    have GQ : FnOk P w K mg base CX0 1 fQ fdQ ["self", "other"] (spEqB K cS) := ok_stepEqB S I.cT I.s1 I.s2 I.q.F
    refine F.F.ok scIs2 (fun vs H Q E h => ?_) (fun cdv A outer s H vs Q E hr h => ?_)
    · obtain ⟨m, e, rfl, _⟩ := h
      rfl
    · obtain ⟨m, e, rfl, hm, q⟩ := h
      have rm1 : Room 1 _ := hr.mono (by omega)
      have rm2 : Room 2 _ := hr.mono (by omega)
      have rm3 : Room 3 _ := hr.mono (by omega)
      refine ⟨_, pss_cons (ps_if (PW.pt (pw_or (pt_not (pt_val (pe_callB call_isi (by rfl) S.isi (by decide +kernel) (pa_cons (pv 0) (pa_cons (pe_glob (v := .ref C) rfl I.c.g rfl) pa_nil)))))
            (pw_or1 (pt_not (pt_val (pe_callB call_isi (by rfl) S.isi (by decide +kernel) (pa_cons (pe_fld (pv 0) rfl) (pa_cons (pe_bltn (v := .ty "tuple") (by rfl) S.tuple (by decide +kernel) rfl) pa_nil)))))))) (pss_one ps_never) pss_nil)
        (pss_cons (ps_if (pt_cmpR (op_or op_eq (op_eqOwn (C := cS) (E := E0) GQ I.q.at_ I.q.fn I.q.b pass0 rm1)) (pe_ix ix_tup (pv 1) pe_int (fun _ _ => rfl)) pe_str (nomark _))
            (pss_one (ps_ret (pe_and (pe_cmpR (op_eqGB (rcGB_list (MonB.or mon_flatB mon_nil) (EqGB.or (eqGB_flat.mono (Nat.zero_le 1)) eqGB_nil)) rm2) (pe_lst (pa_cons (pe_fld (pv 0) rfl) (pa_cons (pe_fld (pv 0) rfl) (pa_cons (pe_fld (pv 0) rfl) pa_nil))))
                (pe_lst (pa_cons pe_str (pa_cons (pe_ix ix_tup (pv 1) pe_int (fun _ _ => rfl)) (pa_cons (pe_tup pa_nil) pa_nil)))) (nomark _)) (pe_one (pe_cmp (pc_isN (pe_fld (pv 0) rfl))))))) pss_nil)
        (pss_cons (ps_if (pt_val (pe_callB call_isi (by rfl) S.isi (by decide +kernel) (pa_cons (pe_ix ix_tup (pv 1) pe_int (fun _ _ => rfl)) (pa_cons (pe_bltn (v := .ty "str") (by rfl) S.str (by decide +kernel) rfl) pa_nil))))
            (pss_one (ps_if (PW.pt (pw_or (pt_cmpR (op_neD (by have := rm1.units; exact this)) (pe_lst (pa_cons (pe_fld (pv 0) rfl) (pa_cons (pe_fld (pv 0) rfl) pa_nil))) (pe_lst (pa_cons (pe_ix ix_tup (pv 1) pe_int (fun _ _ => rfl)) (pa_cons pe_str pa_nil))) (nomark _)) (pw_or1 (pt_cmp (pc_notN (pe_fld (pv 0) rfl)))))) (pss_one ps_never) pss_nil))
            (pss_one (ps_if (PW.pt (pw_or (pt_cmpR (op_neD (by have := rm1.units; exact this)) (pe_lst (pa_cons (pe_fld (pv 0) rfl) (pa_cons (pe_fld (pv 0) rfl) pa_nil))) (pe_lst (pa_cons pe_str (pa_cons pe_str pa_nil))) (nomark _))
                (pw_or (pt_cmpR (op_neOwn (C := cS) (E := E0) GQ I.q.at_ I.q.fn I.ne I.cT.ob I.q.b pass0 rm2) (pe_fld (pv 0) rfl) (pe_ix ix_tup (pv 1) pe_int (fun _ _ => rfl)) (nomark _))
                (pw_or1 (pt_not (pt_val (pe_callB call_isi (by rfl) S.isi (by decide +kernel) (pa_cons (pe_fld (pv 0) rfl) (pa_cons (pe_glob (v := .ref cS) rfl I.cT.g rfl) pa_nil))))))))) (pss_one ps_never) pss_nil)))
        (pss_cons (ps_if (pt_cmpR op_ne (pe_callB call_len_seq (by rfl) S.len PySem.boot_len (pa_cons (pe_fld (pv 0) rfl) pa_nil)) (pe_op op_sub (pe_callB call_len_seq (by rfl) S.len PySem.boot_len (pa_cons (pv 1) pa_nil)) pe_int) (nomark _)) (pss_one ps_never) pss_nil)
        (pss_one (ps_ret (pe_callB (cr_all rfl) (by rfl) S.all (by decide +kernel) (pa_cons (pe_lc (own := [("_law_part", 2), ("_law_one", 3)]) (g := gTup K 2 (gCons (gName 2) (gCons (gName 3) gNil))) (tt := tYes) rfl scIs2.nd
            (RZ.pi_zipA (by rfl) S.zip (pa_cons (pe_fld (pv 0) rfl) (pa_cons (pe_slice sl_tupA (pv 1) (po_some pe_int) po_none) pa_nil))) (blkOk_by (N := nIs2) (sc := defScope sIs) (by decide +kernel))
            (fun _ _ _ _ _ => pg_tup rfl (pgs_cons (pg_name (i := 2) scIs2.nd rfl (Or.inl rfl)) (pgs_cons (pg_name (i := 3) scIs2.nd rfl (Or.inl rfl)) pgs_nil))) (fun _ _ _ _ _ => pts_nil)
            (fun _ _ _ _ _ => pe_call G hr rfl F.g F.F.kp F.b .nil pass0 (pa_cons (pv 2) (pa_cons (pv 3) pa_nil)))) pa_nil))))))), ?_⟩
      obtain ⟨p, rfl, hm⟩ := hm
      -- its fields
      have fld : ∃ (kd z : Str) (st : V) (ps : List V) (b : Nat), ExP K C cS H e kd z st ps b := by
        rcases hm with ⟨z, t, hz, ex⟩ | ⟨hd, ms, es, b, t, hh, l, g, k⟩
        · exact ⟨_, _, _, _, _, ex⟩
        · rcases k with ⟨kd, _, _, ex⟩ | ⟨_, ex⟩
          · exact ⟨_, _, _, _, _, ex⟩
          · exact ⟨_, _, _, _, _, ex⟩
      have first : ∀ {kd z : Str} {st : V} {ps : List V} {b : Nat}, ExP K C cS H e kd z st ps b → ∃ a dx pp q1 q2 i j, e = .ref a ∧ H a = some (.ins C dx (exFs kd z st pp q1 q2 i j)) ∧ SqT K H pp ps := fun ex => by
        obtain ⟨a, pp, e1, ⟨dx, q1, q2, i, j, zs, bs, ha, _⟩, tp⟩ := ex
        exact ⟨a, dx, pp, q1, q2, i, j, e1, ha, tp⟩
      rcases hm with ⟨z, t, hz, ex⟩ | ⟨hd, ms, es, b, t, hh, l, g, k⟩
      · obtain ⟨a, dx, pp, q1, q2, i, j, rfl, ha, tp⟩ := first ex
        refine ⟨_, rfl, _, _, _, _, true, rfl, .own C, I.c.ty ha, kit_self, true, rfl, iteF ?_⟩
        refine ⟨_, rfl, a, C, dx, _, .ref pp, rfl, ha, I.c.cl, I.n.parts, rfl, _, _, _, _, true, rfl, .ty "tuple", sqT_ty tp, kit_ty (by decide +kernel), true, rfl, iteF ?_⟩
        refine ⟨_, rfl, p, _, 0, .str "name", rfl, rfl, t, rfl, .inl ⟨rfl, _, rfl, ?_⟩⟩
        rw [decide_eq_true (show V.str "name" = V.str "name" from rfl)]
        refine iteT ?_
        refine ⟨_, rfl, a, C, dx, _, _, rfl, ha, I.c.cl, I.n.kind, rfl, _, rfl, a, C, dx, _, _, rfl, ha, I.c.cl, I.n.word, rfl, _, rfl, a, C, dx, _, _, rfl, ha, I.c.cl, I.n.parts, rfl, (by show 3 ≤ sizeLine; decide), fun L1 hL1 => ?_⟩
        have s1 := same_new (o := .lst [V.str "name", .str z, .ref pp]) hL1
        refine ⟨_, rfl, p, _, 1, .str z, rfl, rfl, SqT.same s1 t, rfl, (by show 0 ≤ sizeLine; decide), fun T hT => ⟨(by show 3 ≤ sizeLine; decide), fun L2 hL2 => ?_⟩⟩
        have s2 := s1.trans (same_new (o := .tup []) hT)
        have s3 := s2.trans (same_new (o := .lst [V.str "name", .str z, .ref T]) hL2)
        have d1 := same_new (o := .lst [V.str "name", .str z, .ref T]) hL2 _ _ (same_new (o := .tup []) hT _ _ (show (upd H L1 (.lst [V.str "name", .str z, .ref pp])) L1 = some (.lst [V.str "name", .str z, .ref pp]) from upd_same))
        have tT : SqT K (upd (upd (upd H L1 (.lst [V.str "name", .str z, .ref pp])) T (.tup [])) L2 (.lst [V.str "name", .str z, .ref T])) T [] := SqT.of (same_new hL2 _ _ upd_same)
        refine ⟨true, ⟨L1, L2, [V.str "name", .str z, .ref pp], [V.str "name", .str z, .ref T], fun _ => true, rfl, rfl, d1, upd_same, fun _ i x y h1 h2 => ?_, rfl⟩, fun H' e => ⟨true, rfl, iteT ?_⟩⟩
        · match i with
          | 0 =>
            cases h1
            cases h2
            exact .inl ⟨rfl, rfl, eqV_self _⟩
          | 1 =>
            cases h1
            cases h2
            exact .inl ⟨rfl, rfl, eqV_self _⟩
          | 2 =>
            cases h1
            cases h2
            exact .inr ⟨pp, T, rfl, rfl, SqT.same s3 tp, tT, rfl⟩
          | k + 3 => simp at h1
        · have s4 : Same H H' := fun b o z => e b o (s3 b o z)
          refine ⟨_, rfl, a, C, dx, _, _, rfl, s4 _ _ ha, I.c.cl, I.n.step, rfl, ?_⟩
          have k : Q (.bl (decide (V.non = V.non))) H' := by
            rw [decide_eq_true (show V.non = V.non from rfl)]
            exact q H' s4
          exact k
      · have kinds : ∃ kd st, ExP K C cS H e kd "" st es b ∧ ((hd = .str kd ∧ (kd = "lesser" ∨ kd = "greater") ∧ st = .non) ∨ (kd = "step" ∧ st = hd ∧ ∃ r, hd = .ref r)) := by
          rcases k with ⟨kd, e1, e2, ex⟩ | ⟨e1, ex⟩
          · exact ⟨kd, .non, ex, .inl ⟨e1, e2, rfl⟩⟩
          · exact ⟨"step", hd, ex, .inr ⟨rfl, rfl, e1⟩⟩
        obtain ⟨kd, st, ex, kk⟩ := kinds
        obtain ⟨a, dx, pp, q1, q2, i, j, rfl, ha, tp⟩ := first ex
        refine ⟨_, rfl, _, _, _, _, true, rfl, .own C, I.c.ty ha, kit_self, true, rfl, iteF ?_⟩
        refine ⟨_, rfl, a, C, dx, _, .ref pp, rfl, ha, I.c.cl, I.n.parts, rfl, _, _, _, _, true, rfl, .ty "tuple", sqT_ty tp, kit_ty (by decide +kernel), true, rfl, iteF ?_⟩
        dsimp only [tNext]
        refine seq_key (fun σ' H' => σ' = [some (.ref a), some (.ref p), none, none] ∧ Same H H') (fun key => ?_) (fun σ' H' h => ?_)
        · rcases kk with ⟨rfl, e2, rfl⟩ | ⟨rfl, rfl, r, rfl⟩
          · have kf := kd_fit kd (by rcases e2 with rfl | rfl <;> simp)
            have no : ¬ V.str kd = V.str "name" := by
              rcases e2 with rfl | rfl <;> decide +kernel
            refine ⟨_, rfl, p, _, 0, .str kd, rfl, rfl, t, at_of (j := 0) rfl rfl, .inl ⟨rfl, _, rfl, ?_⟩⟩
            rw [decide_eq_false no]
            exact iteF (key _ _ ⟨rfl, Same.refl H⟩)
          · rcases hh with ⟨e, _⟩ | ⟨b', z', y', e, ⟨dxs, hb'⟩, _⟩
            · rcases e with e | e <;> cases e
            · cases e
              exact ⟨_, rfl, p, _, 0, .ref r, rfl, rfl, t, at_of (j := 0) rfl rfl, .inr ⟨r, dxs, _, _, rfl, hb', .base (.str "name"), nf_str, r, .str "name", z', y', rfl, ⟨dxs, hb'⟩, .inr ⟨_, .base (.str "name"), I.kS, false, rfl, false, rfl, iteF (key _ _ ⟨rfl, Same.refl H⟩)⟩⟩⟩
        obtain ⟨rfl, s1⟩ := h
        refine seq_key (fun σ' H' => σ' = [some (.ref a), some (.ref p), none, none] ∧ Same H H') (fun key => ?_) (fun σ' H2 h => ?_)
        · have ha1 := s1 _ _ ha
          have t1 := SqT.same s1 t
          rcases kk with ⟨rfl, e2, rfl⟩ | ⟨rfl, rfl, r, rfl⟩
          · have kf := kd_fit kd (by rcases e2 with rfl | rfl <;> simp)
            refine ⟨_, rfl, p, _, 0, .str kd, rfl, rfl, t1, at_of (j := 0) rfl rfl, _, _, _, _, true, rfl, .ty "str", .base (.str kd), kit_ty (by decide +kernel), true, rfl, iteT ?_⟩
            refine ⟨_, rfl, a, C, dx, _, _, rfl, ha1, I.c.cl, I.n.kind, rfl, _, rfl, a, C, dx, _, _, rfl, ha1, I.c.cl, I.n.word, rfl, (by show 2 ≤ sizeLine; decide), fun L1 hL1 => ?_⟩
            have sL := same_new (o := .lst [V.str kd, .str ""]) hL1
            refine ⟨_, rfl, p, _, 0, .str kd, rfl, rfl, SqT.same sL t1, at_of (j := 0) rfl rfl, (by show 2 ≤ sizeLine; decide), fun L2 hL2 => ?_⟩
            have sM := same_new (o := .lst [V.str kd, .str ""]) hL2
            refine ⟨.list [.str kd, .str ""], .list [.str kd, .str ""], .lst (SqL.of (sM _ _ upd_same)) (.cons (.str _) (.cons (.str _) .nil)), .lst (SqL.of upd_same) (.cons (.str _) (.cons (.str _) .nil)), kf.1, kf.1, _, rfl, ?_⟩
            rw [kf.2.1]
            refine iteF ⟨_, rfl, a, C, dx, _, _, rfl, sM _ _ (sL _ _ ha1), I.c.cl, I.n.step, rfl, false, rfl, iteF (key _ _ ⟨rfl, (s1.trans sL).trans sM⟩)⟩
          · have kf := kd_fit "step" (by simp)
            rcases hh with ⟨e, _⟩ | ⟨b', z', y', e, ⟨dxs, hb'⟩, _⟩
            · rcases e with e | e <;> cases e
            · cases e
              have hb1 := s1 _ _ hb'
              refine ⟨_, rfl, p, _, 0, .ref r, rfl, rfl, t1, at_of (j := 0) rfl rfl, _, _, _, _, false, rfl, .ty "str", I.cT.ty hb1, I.cT.ns, false, rfl, iteF ?_⟩
              refine ⟨_, rfl, a, C, dx, _, _, rfl, ha1, I.c.cl, I.n.kind, rfl, _, rfl, a, C, dx, _, _, rfl, ha1, I.c.cl, I.n.word, rfl, (by show 2 ≤ sizeLine; decide), fun L1 hL1 => ?_⟩
              have sL := same_new (o := .lst [V.str "step", .str ""]) hL1
              refine ⟨(by show 2 ≤ sizeLine; decide), fun L2 hL2 => ?_⟩
              have sM := same_new (o := .lst [V.str "step", .str ""]) hL2
              refine ⟨.list [.str "step", .str ""], .list [.str "step", .str ""], .lst (SqL.of (sM _ _ upd_same)) (.cons (.str _) (.cons (.str _) .nil)), .lst (SqL.of upd_same) (.cons (.str _) (.cons (.str _) .nil)), kf.1, kf.1, _, rfl, ?_⟩
              rw [kf.2.1]
              have sLM := sL.trans sM
              refine iteF ⟨_, rfl, a, C, dx, _, _, rfl, sLM _ _ ha1, I.c.cl, I.n.step, rfl, _, rfl, p, _, 0, .ref r, rfl, rfl, SqT.same sLM t1, at_of (j := 0) rfl rfl, r, dxs, _, _, rfl, sLM _ _ hb1, I.cT.ty (sLM _ _ hb1), nf_own, r, .ref r, z', y', rfl, ⟨dxs, sLM _ _ hb1⟩, .inl ⟨r, z', y', rfl, ⟨dxs, sLM _ _ hb1⟩, true, by rw [decide_eq_true rfl, decide_eq_true rfl]; rfl, false, rfl, iteF ?_⟩⟩
              exact ⟨_, rfl, a, C, dx, _, _, rfl, sLM _ _ ha1, I.c.cl, I.n.step, rfl, _, _, _, _, true, rfl, .own cS, I.cT.ty (sLM _ _ hb1), kit_self, true, rfl, iteF (key _ _ ⟨rfl, s1.trans sLM⟩)⟩
        clear s1
        obtain ⟨rfl, s2⟩ := h
        refine ⟨_, rfl, a, C, dx, _, .ref pp, rfl, s2 _ _ ha, I.c.cl, I.n.parts, rfl, pp, es, rfl, .inr (SqT.same s2 tp), _, rfl, p, hd :: ms, rfl, .inr (SqT.same s2 t), _, _, rfl, rfl, rfl, _, rfl, ?_⟩
        have same : V.int ((es.length : Nat) : Int) = V.int ((((hd :: ms).length : Nat) : Int) - 1) := by
          rw [l]
          show V.int (ms.length : Int) = V.int (((ms.length + 1 : Nat) : Int) - 1)
          congr 1
          omega
        have no : (!decide (V.int ((es.length : Nat) : Int) = V.int ((((hd :: ms).length : Nat) : Int) - 1))) = false := by
          rw [decide_eq_true same]
          rfl
        simp only [no]
        refine iteF ?_
        refine ⟨_, rfl, a, C, dx, _, .ref pp, rfl, s2 _ _ ha, I.c.cl, I.n.parts, rfl, _, rfl, 1, rfl, ?_⟩
        refine noPart_read ?_
        refine slB_read (SqT.same s2 t) fun p3 H3 s3 t3 => ?_
        have s03 := s2.trans s3
        refine ⟨pp, p3, es, ms, rfl, .inr ⟨SqT.same s03 tp, t3, fun D hD => lc_zipT l (fun i H4 => Same H3 H4 ∧ H4 D = some (.lst (List.replicate i (V.bl true)))) ⟨same_new hD, upd_same⟩ (fun i H4 h => ⟨SqT.same (s03.trans h.1) tp, SqT.same h.1 t3⟩) (fun i x y T H4 hx hy h hT => ?_) (fun H4 h => ?_)⟩⟩
        · obtain ⟨s4, d4⟩ := h
          have s5 := s4.trans (same_new (o := .tup [x, y]) hT)
          have lt : i < es.length := (List.getElem?_eq_some_iff.mp hx).1
          have short := hh.le
          refine ⟨T, _, rfl, SqT.of upd_same, rfl, _, _, rfl, _, _, rfl, rfl, rfl, _, rfl, _, rfl, y, x, rfl, (g i y x hy hx).same (s03.trans s5), fun H5 s6 => ⟨_, s6 _ _ (same_new hT _ _ d4), by rw [List.length_replicate, sizeLine_eq]; omega, same_put hD (s5.trans s6), by rw [upd_same, List.replicate_succ']⟩⟩
        · obtain ⟨s4, d4⟩ := h
          refine ⟨D, List.replicate es.length true, rfl, SqL.of (by rw [List.map_replicate]; exact d4), ?_⟩
          rw [show (List.replicate es.length true).all id = true from by rw [List.all_eq_true]; intro b hb; exact (List.mem_replicate.mp hb).2]
          exact q _ (s03.trans s4)
end
end LK

/-! an instance that is called and may let an error out, told at the slots that stand -/
namespace LR
open PySem PySem.Spec PyProof.Rows L2
def tCallOS (C : Addr) (sp : Sp) (E : L2.St → XK) (tf : TE) (t : TA) : TE := fun σ H Q => tf σ H fun y H1 => ∃ a, y = V.ref a ∧ t σ H1 fun vs H2 => (∃ dx fs, H2 a = some (.ins C dx fs)) ∧ sp (V.ref a :: vs) H2 Q (E σ)
section
variable {X : Cx} {CX : CXT} {k : Nat} {C g : Addr} {sp : Sp} {E : L2.St → XK} {fe e : Expr} {es : List Expr} {tf : TE} {t : TA} {pos : Pos}
theorem pe_callOS (hf : PE X fe tf) (c : StX.CallO X.K C g) (F : FnR X.prog X.w X.K X.mg X.base CX k g sp) (room : Room k X.A) (out : ∀ σ, PassesAt CX X σ (E σ)) (ha : PA X (e :: es) t)
    (form : eval (.Call fe (e :: es) [] pos) X.env = (do callWith pos (← eval fe X.env) [] (backTo pos (starEach (e :: es) X.env)) (backToKw pos (keywordEach [] X.env))) := by rfl)
    (one : starEach (e :: es) X.env = (false, eval e X.env) :: starEach es X.env := by rfl) (plain : (backTo pos (starEach es X.env)).any (·.1) = false := by rfl) : PE X (.Call fe (e :: es) [] pos) (tCallOS C sp E tf t) := by
  refine ⟨fun pins s σ H Q I h => Call_ (thn (hf.run pins s σ H _ I h) fun u s1 got => ?_) form⟩
  obtain ⟨y, H1, I1, ry, a, rfl, q⟩ := got
  cases ry
  refine StX.callO_with (thn (ha.run pos pins s1 σ H1 _ I1 q) fun us s2 got2 => ?_) one plain
  obtain ⟨vs, H2, I2, r, at_, q2⟩ := got2
  obtain ⟨ox, od, J, data⟩ := StX.insC_at I2 (.inr at_)
  refine ⟨⟨C, ox, od, J, data⟩, wpAny_call (PySem.W.kco_code I2.kIn J data c.at_ c.fn c.fi (codeAny_mono (F X.A X.stack s2 H2 (.ref a :: us) (.ref a :: vs) Q (E σ) room I2.env0 (.cons rfl r) q2) fun res s' z => ?_))⟩
  cases res with
  | error er => exact out σ pins _ _ er s' I2 z
  | ok fl =>
    cases fl with
    | ret v => exact I2.after z
    | next => exact False.elim z
    | brk => exact False.elim z
    | cont => exact False.elim z
end
end LR

/-! x op y by the own method of x's class: y of this class, of another own class, a whole number; also where it may let an error out -/
namespace PySem.W
open PySem PySem.Calls PyProof.Rows
section
variable {prog : Program} {w : World} {A : Around} {E : Value → Shared → Prop} {s : Shared} {K : Frag} {x C L f : Addr} {h₀ : Heap} {m : Str → Option Value} {ox : Obj} {od : Option Obj}
/-- two own classes, the second no child of the first -/
theorem bin_two {op : Operator} {y D g : Addr} {oy : Obj} {od2 : Option Obj} {rc rd : Option Value} {Q : Value → Shared → Prop} (F : Fr h₀ L s.heap m) (X₀ : K.In h₀) (I : InstAt s.heap x ox C od) (J : InstAt s.heap y oy D od2) (hc : selfFirst K C = true) (hd : selfFirst K D = true) (ne : (C == D) = false)
    (hs : findIn K (.ref C) (PySem.dunder op.info.2) = some (some (.ref f))) (hf : isFn K (.ref f) = true) (hr : findIn K (.ref C) (dunderR op.info.2) = some rc) (hp : rc = none ∨ ∃ g : Addr, rc = some (.ref g))
    (hs2 : findIn K (.ref D) (PySem.dunder op.info.2) = some (some (.ref g))) (hr2 : findIn K (.ref D) (dunderR op.info.2) = some rd) (hp2 : rd = none ∨ ∃ g : Addr, rd = some (.ref g)) (hsub : subIn K (.ref D) (.ref C) = some false)
    (h : wpAny (model prog w) A (call (.ref f) [.ref x, .ref y]) (CmpBack Q) E s) : wpAny (model prog w) A (binaryOp op (.ref x) (.ref y)) Q E s := by
  have X := X₀.keeps F.keep
  obtain ⟨cd, rest, hcd, hm⟩ := ksp_first hc
  obtain ⟨cd2, rest2, hcd2, hm2⟩ := ksp_first hd
  rcases hi : op.info with ⟨sym, nm'⟩
  rw [hi] at hs hr hs2 hr2
  dsimp only at hs hr hs2 hr2
  have one := ksp_try X I hs hf h
  obtain ⟨hh, g', d, tt, os⟩ := s
  have L1 : Looks (model prog w) hh (typeOf (.ref x)) (.ref C) := I.type
  have L2 : Looks (model prog w) hh (typeOf (.ref y)) (.ref D) := J.type
  have L3 : Looks (model prog w) hh (fillsNumberSlot (.ref C) nm') true := fills_K X hcd hm hs
  have L4 : Looks (model prog w) hh (fillsNumberSlot (.ref D) nm') true := fills_K X hcd2 hm2 hs2
  have L5 : Looks (model prog w) hh (isSubtype (.ref D) (.ref C)) false := looks_subIn X hsub
  have L6 : Looks (model prog w) hh (numberSlotInPython (.ref C) nm') true := ksp_inPy X hs hr hp
  have L7 : Looks (model prog w) hh (numberSlotInPython (.ref D) nm') true := ksp_inPy X hs2 hr2 hp2
  have hne : (Value.ref C == Value.ref D) = false := Bool.eq_false_iff.mpr fun q => by
    have e : C = D := by
      have := beq_iff_eq.mp q
      cases this
      rfl
    rw [e, beq_self_eq_true] at ne
    cases ne
  simp only [binaryOp, hi]
  refine wpAny_holding (wpAny_bind ?_)
  unfold binaryOp1
  refine wpAny_bind (L1.at (wpAny_bind (L2.at (wpAny_bind (L3.at ?_)))))
  simp only [hne, Bool.false_eq_true, if_false]
  ksp_lk
  refine wpAny_mono one (fun r s' hr' => ?_) fun _ _ e => e
  obtain ⟨v, rfl, hq⟩ := hr'
  ksp_lk
  exact hq
end
end PySem.W
namespace LR
open PySem PySem.Spec PyProof.Rows L2
abbrev RS : Type := L2.St → V → V → Hp → VK → Prop
def OpRS (X : Cx) (f : Value → Value → Sem Value) (r : RS) : Prop := ∀ (pins : List (Addr × Obj)) (s : Shared) (σ : L2.St) (H : Hp) (x y : V) (v u : Value) (Q : VK), Inv X pins σ H s → RelV x v → RelV y u → r σ x y H Q → wpAny (model X.prog X.w) X.A (f v u) (EP X pins σ Q) X.xe s
def tOpS (r : RS) (ta tb : TE) : TE := fun σ H Q => ta σ H fun x H1 => tb σ H1 fun y H2 => r σ x y H2 Q
section
variable {X : Cx} {CX : CXT} {n : Nat} {f C : Addr} {fd : FuncData} {ps : List Str} {sp : Sp} {E : L2.St → XK} {op : Operator}
theorem OpRS.or {g : Value → Value → Sem Value} {r q : RS} (a : OpRS X g r) (b : OpRS X g q) : OpRS X g fun σ x y H Q => r σ x y H Q ∨ q σ x y H Q :=
  fun pins s σ H x y v u Q I rx ry h => h.elim (a pins s σ H x y v u Q I rx ry) (b pins s σ H x y v u Q I rx ry)
theorem pe_opS {a b : Expr} {ta tb : TE} {pos : Pos} {r : RS} (ho : OpRS X (binaryOp op) r) (ha : PE X a ta) (hb : PE X b tb) : PE X (.BinOp a op b pos) (tOpS r ta tb) := by
  refine ⟨fun pins s σ H Q I h => ?_⟩
  exact wpAny_BinOp (binT ha hb I h fun v u s2 x y H2 I2 rx ry q => ho pins s2 σ H2 x y v u Q I2 rx ry q)
/-- what is asked of an operator's method at its class -/
structure MOp (K : PySem.W.Frag) (C f : Addr) (op : Operator) : Prop where
  c : PySem.W.selfFirst K C = true
  s : PySem.W.findIn K (.ref C) (PySem.dunder op.info.2) = some (some (.ref f))
  f : PySem.W.isFn K (.ref f) = true
  r : PySem.W.findIn K (.ref C) (dunderR op.info.2) = some none
/-- y of the same class, or of the class D -/
theorem op_two {D g : Addr} (F : FnOk X.prog X.w X.K X.mg X.base CX n f fd ps sp) (M : MOp X.K C f op) (N : MOp X.K D g op) (ne : (C == D) = false) (sub : PySem.W.subIn X.K (.ref D) (.ref C) = some false) (hb : Binds X.K fd ps []) (hx : ∀ σ, PassesAt CX X σ (E σ)) (hr : Room n X.A) :
    OpRS X (binaryOp op) (fun σ x y H Q => AnIns C H x ∧ (AnIns C H y ∨ AnIns D H y) ∧ sp [x, y] H (fun v H' => (∃ r, v = V.ref r) ∧ Q v H') (E σ)) := by
  intro pins s σ H x y v u Q I rx ry h
  obtain ⟨⟨a, dx, fs, rfl, ha⟩, hy, h⟩ := h
  cases rx
  obtain ⟨mA, J, _⟩ := ins_get I.hok ha
  obtain ⟨od, J, _⟩ := J.look
  obtain ⟨m, hF⟩ := I.fr
  have run : wpAny (model X.prog X.w) X.A (call (.ref f) [.ref a, u]) (fun w' s' => ∃ r, w' = Value.ref r ∧ EP X pins σ Q w' s') X.xe s := by
    refine wpAny_mono (run_fnS F hr hb (hx σ) I (.cons (show RelV (V.ref a) (Value.ref a) from rfl) (.cons ry .nil)) h) (fun v s' q => ?_) fun _ _ z => z
    obtain ⟨y', H', I', ry', ⟨r, rfl⟩, q⟩ := q
    cases ry'
    exact ⟨r, rfl, .ref r, H', I', rfl, q⟩
  have run' : wpAny (model X.prog X.w) X.A (call (.ref f) [.ref a, u]) (PySem.W.CmpBack (EP X pins σ Q)) X.xe s := wpAny_mono run (fun v s' q => by
    obtain ⟨r, rfl, q⟩ := q
    exact q) fun _ _ z => z
  rcases hy with ⟨b, dx', fs', rfl, hb'⟩ | ⟨b, dx', fs', rfl, hb'⟩
  · cases ry
    obtain ⟨mB, J2, _⟩ := ins_get I.hok hb'
    obtain ⟨od2, J2, _⟩ := J2.look
    exact PySem.W.binop_K hF I.ok.mod.kin J J2.type M.c M.s M.f run'
  · cases ry
    obtain ⟨mB, J2, _⟩ := ins_get I.hok hb'
    obtain ⟨od2, J2, _⟩ := J2.look
    exact PySem.W.bin_two hF I.ok.mod.kin J J2 M.c N.c ne M.s M.f M.r (.inl rfl) N.s N.r (.inl rfl) sub run'
/-- y a whole number -/
theorem op_num {fo ro : Option Value} (F : FnOk X.prog X.w X.K X.mg X.base CX n f fd ps sp) (M : MOp X.K C f op) (h1 : PySem.W.findIn X.K (.type "int") (PySem.dunder op.info.2) = some fo) (h2 : PySem.W.findIn X.K (.type "int") (dunderR op.info.2) = some ro) (sub : PySem.W.subIn X.K (.type "int") (.ref C) = some false)
    (hb : Binds X.K fd ps []) (hx : ∀ σ, PassesAt CX X σ (E σ)) (hr : Room n X.A) :
    OpRS X (binaryOp op) (fun σ x y H Q => AnIns C H x ∧ (∃ i, y = V.int i) ∧ sp [x, y] H (fun v H' => (∃ r, v = V.ref r) ∧ Q v H') (E σ)) := by
  intro pins s σ H x y v u Q I rx ry h
  obtain ⟨⟨a, dx, fs, rfl, ha⟩, ⟨i, rfl⟩, h⟩ := h
  cases rx
  obtain ⟨t, rfl⟩ := ry
  obtain ⟨mA, J, _⟩ := ins_get I.hok ha
  obtain ⟨od, J, _⟩ := J.look
  obtain ⟨m, hF⟩ := I.fr
  refine PySem.W.ksp_binT hF I.ok.mod.kin J rfl M.c M.s M.f M.r (.inl rfl) h1 h2 sub ?_
  refine wpAny_mono (run_fnS F hr hb (hx σ) I (.cons (show RelV (V.ref a) (Value.ref a) from rfl) (.cons (show RelV (V.int i) (Value.int i t) from ⟨t, rfl⟩) .nil)) h) (fun v s' q => ?_) fun _ _ z => z
  obtain ⟨y', H', I', ry', ⟨r, rfl⟩, q⟩ := q
  cases ry'
  exact ⟨.ref r, H', I', rfl, q⟩
end
end LR

/-! defs with a star parameter that may let an error out; a list beside an empty one -/
namespace PySem.SeqAt
open AutoSeq1 (wpAny_loadPart')
open MeetsSeq MeetsSeq2 MeetsSeq3 SeqRoads2
section
variable {prog : Program} {w : World} {dd dd2 : Option Addr}
theorem lr_ne_lenIn (l b : Addr) (items items2 : Array Value) (n n2 : Nat) (sl sl2 : Array (Option Value)) (hsz : items.size ≠ items2.size) :
    MeetsIn prog w (Builtin.«list.__ne__» ⟨[.ref l, .ref b], []⟩)
      (fun A R s => s.heap.get? l = some { cls := .type "list", dict := dd, data := .seq items n, slots := sl } ∧ s.heap.get? b = some { cls := .type "list", dict := dd2, data := .seq items2 n2, slots := sl2 } ∧
        R (.ok (.ret (.bool true))) s) := by
  intro A R s h
  obtain ⟨hp, g, d, tk, os⟩ := s; obtain ⟨hl, hb, h⟩ := h
  have f3 := AutoSeq1.sub_list_list
  have hne : (items.size != items2.size) = true := by simpa using hsz
  wp_walk using wpAny_loadPart' hl, wpAny_loadPart' hb
  exact h
theorem lr_ne_end (l b : Addr) (n n2 : Nat) (sl sl2 : Array (Option Value)) :
    MeetsIn prog w (Builtin.«list.__ne__» ⟨[.ref l, .ref b], []⟩)
      (fun A R s => s.heap.get? l = some { cls := .type "list", dict := dd, data := .seq #[] n, slots := sl } ∧ s.heap.get? b = some { cls := .type "list", dict := dd2, data := .seq #[] n2, slots := sl2 } ∧
        R (.ok (.ret (.bool false))) s) := by
  intro A R s h
  obtain ⟨hp, g, d, tk, os⟩ := s; obtain ⟨hl, hb, h⟩ := h
  have f3 := AutoSeq1.sub_list_list
  wp_walk using wpAny_loadPart' hl, wpAny_loadPart' hb
  exact ⟨plainId_quiet plain_eq_loop _, codeAny_builtin entry_eq_loop (by
    rw [Around.under_plainId plain_eq_loop _]
    wp_walk using wpAny_loadPart' hl, wpAny_loadPart' hb
    exact h)⟩
theorem lr_rcN_len {A : Around} {s : Shared} {l b : Addr} {items items2 : Array Value} (hl : s.heap.IsList l items) (hb : s.heap.IsList b items2) (hsz : items.size ≠ items2.size) (hu : A.units < cLine)
    (E Q : Value → Shared → Prop) (h : Q (.bool true) s) : wpAny (model prog w) A (richCompare .NotEq (.ref l) (.ref b)) Q E s := by
  obtain ⟨⟨cls, dd, data, sl⟩, ho, hc, n, hd⟩ := id hl
  obtain ⟨⟨cls2, dd2, data2, sl2⟩, ho2, hc2, n2, hd2⟩ := id hb
  simp only at hc hd hc2 hd2
  subst hc hd hc2 hd2
  have ta : s.TypeIs (.ref l) "list" := ⟨_, ho, rfl⟩
  have tb : s.TypeIs (.ref b) "list" := ⟨_, ho2, rfl⟩
  exact wpAny_richCompare_same_room (op := .NotEq) ta tb F.slot_list_ne (call_meetsIn F.slot_list_ne ta F.entry_list_ne (F.args_list_ne_2 _ _) (lr_ne_lenIn l b items items2 n n2 sl sl2 hsz)
    ⟨ho, ho2, show Value.bool true ≠ Value.notImplemented ∧ Q (.bool true) s from ⟨(fun x => nomatch x), h⟩⟩) hu
theorem lr_rcN_end {A : Around} {s : Shared} {l b : Addr} (hl : s.heap.IsList l #[]) (hb : s.heap.IsList b #[]) (hu : A.units < cLine)
    (E Q : Value → Shared → Prop) (h : Q (.bool false) s) : wpAny (model prog w) A (richCompare .NotEq (.ref l) (.ref b)) Q E s := by
  obtain ⟨⟨cls, dd, data, sl⟩, ho, hc, n, hd⟩ := id hl
  obtain ⟨⟨cls2, dd2, data2, sl2⟩, ho2, hc2, n2, hd2⟩ := id hb
  simp only at hc hd hc2 hd2
  subst hc hd hc2 hd2
  have ta : s.TypeIs (.ref l) "list" := ⟨_, ho, rfl⟩
  have tb : s.TypeIs (.ref b) "list" := ⟨_, ho2, rfl⟩
  exact wpAny_richCompare_same_room (op := .NotEq) ta tb F.slot_list_ne (call_meetsIn F.slot_list_ne ta F.entry_list_ne (F.args_list_ne_2 _ _) (lr_ne_end l b n n2 sl sl2)
    ⟨ho, ho2, show Value.bool false ≠ Value.notImplemented ∧ Q (.bool false) s from ⟨(fun x => nomatch x), h⟩⟩) hu
end
end PySem.SeqAt
namespace LR
open PySem PySem.Spec PyProof.Rows L2
/-- xs != [] -/
def rNeEnd : R2 := fun x y H Q => ∃ a b xs, x = .ref a ∧ y = .ref b ∧ H a = some (.lst xs) ∧ H b = some (.lst []) ∧ Q (.bl (!xs.isEmpty)) H
theorem op_neEnd {X : Cx} (hu : X.A.units < cLine) : OpR X (compareOp .NotEq) rNeEnd := by
  intro pins s σ H x y v u Q I rx ry h
  obtain ⟨a, b, xs, rfl, rfl, ha, hb, q⟩ := h
  cases (show v = Value.ref a from rx)
  cases (show u = Value.ref b from ry)
  obtain ⟨us, r1, p1, _⟩ := I.list (SqL.of ha)
  obtain ⟨ws, r2, p2, _⟩ := I.list (SqL.of hb)
  cases r2
  cases xs with
  | nil =>
    cases r1
    exact SeqAt.lr_rcN_end p1.isList p2.isList hu _ _ ⟨.bl false, H, I, rfl, q⟩
  | cons x r =>
    cases r1 with
    | cons r0 r1 => exact SeqAt.lr_rcN_len p1.isList p2.isList (by simp) hu _ _ ⟨.bl true, H, I, rfl, q⟩
theorem cxUpN {P : Program} {w : World} : StX.CXUp (L2N.CX P w) := by
  rintro outer s H s2 H2 E e s' un kp ho ⟨a, B, H', cls, d, ea, fl, hok, ub, na, os, ag, he⟩
  refine ⟨a, B, H', cls, d, ea, fl, hok, ⟨fun b o q n hb => ub.keep b o (kp b o q) (un.free b o q n (by simp)) hb, fun b o q hb => ub.slot b o (kp b o q) hb, fun b o q n => ub.free b o (kp b o q) (un.free b o q n (by simp)),
    fun b o q hb => ub.there b o (kp b o q) hb, fun b xs q => ub.tups b xs (un.tups b xs q), fun b o xs q => ub.frzs b o xs (un.frzs b o xs q), fun b ps q => ?_⟩, na, os.trans ho, ag, he⟩
  obtain ⟨m1, e1⟩ := un.tbls b ps q
  obtain ⟨m2, e2⟩ := ub.tbls b _ e1
  exact ⟨m1 ++ m2, by rw [e2, Array.append_assoc]⟩
/-- a def with a star parameter that may let an error out -/
theorem okStarN {P : Program} {w : World} {K : PySem.W.Frag} {mg : Str → Option Value} {base : Heap} {x qual pv : Str} {st : Stmt} {f : Addr} {fd : FuncData} {N ps : List Str} {k : Nat} {sp : Sp} (F : Fun K x qual st f fd) (S : FnScope N (ps ++ [pv]) (defScope st))
    (hb : ∀ (kV doc pm : Value) (an : Option Addr) (cdv ct : Value) (us rest : List Value), us.length = ps.length → bindArgs (PySem.W.fnOf x qual (defArgs st) (defBody st) (defScope st) .none kV doc pm an cdv ct) ⟨us ++ rest, []⟩ = (newTuple rest >>= fun t => pure (ps.zip us ++ [(pv, t)])))
    (walk : ∀ (cdv : Value) (A : Around) (outer : List Env) (s : Shared) (H : Hp) (vs : List V) (Q : VK) (E : XK), Room k (A.deeper (envOfC qual (defScope st) s.heap.objs.size f cdv)) → sp vs H Q E →
      ∃ t, PSs (cxOf (L2N.CX P w) P w K mg base N qual (defScope st) f cdv A outer s H E) (defBody st) t ∧ t { nx := fun _ H' => Q .non H', rt := Q } (start N vs) H) :
    FnR P w K mg base (L2N.CX P w) (k + 1) f (fun vs H Q E => ∃ ws rest, vs = ws ++ rest ∧ ws.length = ps.length ∧ rest.length ≤ sizeLine ∧ ∀ p, H p = Option.none → sp (ws ++ [V.ref p]) (upd H p (.tup rest)) Q E) := by
  obtain ⟨oc, od, kV, doc, pm, an, cdv, ct, osl, rfl, lk, hcd⟩ := F.ex
  exact StX.fn_star lk hcd S cxUpN (hb kV doc pm an cdv ct) fun A outer s H vs Q E hr h => walk cdv A outer s H vs Q E hr h
/-- C(e, ..), whose __init__ has a star parameter and may let an error out -/
def tMakeRS (C : Addr) (sp : Sp) (E : L2.St → XK) (t : TA) : TE := fun σ H Q => t σ H fun vs H1 => ∀ x dx, H1 x = Option.none → H1 dx = Option.none → dx ≠ x →
  sp (V.ref x :: vs) (upd (upd H1 dx (.own x)) x (.ins C dx [])) (fun v H2 => v = .non ∧ Q (.ref x) H2) (E σ)
section
variable {X : Cx} {CX : CXT} {k : Nat} {f C : Addr} {sp : Sp} {E : L2.St → XK} {x : Str} {e : Expr} {es : List Expr} {t : TA} {p pos : Pos}
theorem pe_makeRS (M : Mk X.K C f) (F : FnR X.prog X.w X.K X.mg X.base CX k f sp) (hr : Room (k + 1) X.A) (hg : Gl X x) (hm : X.mg x = some (.ref C)) (out : ∀ σ, PassesAt CX X σ (E σ)) (ha : PA X (e :: es) t) (hdb : (x == ("__debug__" : Str)) = false := by decide)
    (he : starEach (e :: es) X.env = (false, eval e X.env) :: starEach es X.env := by rfl) (hpl : (backTo pos (starEach es X.env)).any (·.1) = false := by rfl) : PE X (.Call (.Name x p) (e :: es) [] pos) (tMakeRS C sp E t) := by
  refine ⟨fun pins s σ H Q I h => ?_⟩
  refine wpAny_Call_Name_kw (ld_glob I hg hm ?_ hdb)
  refine PySem.W.callWith_K (h₀ := X.base) I.ok.mod.kin M.kp (thn (ha.run pos pins s σ H _ I h) fun us s1 ⟨vs, H1, I1, r, q⟩ => ⟨I1.kIn, ?_⟩) he hpl
  have hq := q (s1.heap.objs.size + 1) s1.heap.objs.size (I1.hok.fresh (Nat.le_succ _)) (I1.hok.fresh (Nat.le_refl _)) (Nat.ne_of_lt (Nat.lt_succ_self _))
  have I2 := Inv.made (C := C) I1
  have r2 : Vals (V.ref (s1.heap.objs.size + 1) :: vs) (Value.ref (s1.heap.objs.size + 1) :: us) := .cons rfl r
  refine wpAny_call (make_map (f := f) I1.kIn M.makes M.init (beq_iff_eq.mp M.fn) (codeAny_mono (F _ X.stack _ _ (Value.ref (s1.heap.objs.size + 1) :: us) _ _ (E σ) (hr.make C us []) (I2.env0.make C us []) r2 hq) fun r s' hq' => ?_))
  cases r with
  | error e => exact out σ pins _ _ e s' I2 hq'
  | ok fl =>
    cases fl with
    | ret u =>
      obtain ⟨v, H', I3, rv, ev, q3⟩ := I2.after hq'
      subst ev
      exact ⟨rv, ⟨V.ref (s1.heap.objs.size + 1), H', I3, rfl, q3⟩⟩
    | next => exact False.elim hq'
    | brk => exact False.elim hq'
    | cont => exact False.elim hq'
end
end LR

/-! a tuple times a number, whatever they are; xs[::-1] of a tuple; C(*xs); C() -/
namespace LR
open PySem PySem.Spec PyProof.Rows L2
theorem mul_empty (l : Addr) (items : Array Value) (n : Nat) (dd : Option Addr) (sl : Array (Option Value)) (x : Int) (u : Tok) (c0 : (decide (x < -(2 ^ 63)) || decide (x ≥ 2 ^ 63)) = false) (c1 : (items.isEmpty || x == 1) = true) :
    Meets (Builtin.«tuple.__mul__» ⟨[.ref l, .int x u], []⟩) (fun _ R s => s.heap.get? l = some { cls := .type "tuple", dict := dd, data := .seq items n, slots := sl } ∧ R (.ok (.ret (Value.ref l))) s) :=
  .of_wp fun prog w A R s h => by
    obtain ⟨hp, g, d, tk, os⟩ := s
    obtain ⟨hl, h⟩ := h
    have f1 := AutoSeq1.idx_int
    wp_walk using wpAny_loadPart' hl
    repeat (first
      | (refine wpAny_ite_false (decide_eq_false (by rw [c0]; exact Bool.false_ne_true)) ?_; wp_walk using wpAny_loadPart' hl)
      | (refine wpAny_ite_true (decide_eq_true (by rw [c1])) ?_; wp_walk using wpAny_loadPart' hl))
    exact ⟨_, rfl, h⟩
theorem mul_none (l : Addr) (items : Array Value) (n : Nat) (dd : Option Addr) (sl : Array (Option Value)) (x : Int) (u : Tok) (c0 : (decide (x < -(2 ^ 63)) || decide (x ≥ 2 ^ 63)) = false) (c1 : (items.isEmpty || x == 1) = false) (c2 : (decide (x ≤ 0) || items.isEmpty) = true) :
    Meets (Builtin.«tuple.__mul__» ⟨[.ref l, .int x u], []⟩) (fun _ R s => s.heap.get? l = some { cls := .type "tuple", dict := dd, data := .seq items n, slots := sl } ∧
      R (.ok (.ret (Value.ref s.heap.objs.size))) { s with heap := s.heap.push { cls := Value.type "tuple", data := Data.seq #[] } }) :=
  .of_wp fun prog w A R s h => by
    obtain ⟨hp, g, d, tk, os⟩ := s
    obtain ⟨hl, h⟩ := h
    have f1 := AutoSeq1.idx_int
    wp_walk using wpAny_loadPart' hl
    repeat (first
      | (refine wpAny_ite_false (decide_eq_false (by rw [c0]; exact Bool.false_ne_true)) ?_; wp_walk using wpAny_loadPart' hl)
      | (refine wpAny_ite_false (decide_eq_false (by rw [c1]; exact Bool.false_ne_true)) ?_; wp_walk using wpAny_loadPart' hl)
      | (refine wpAny_ite_true (decide_eq_true (by rw [c2])) ?_; wp_walk using wpAny_loadPart' hl))
    exact ⟨_, rfl, h⟩
/-- from nought on: the same tuple, none of it, or so many of it -/
def rRepU (K : PySem.W.Frag) : R2 := fun x y H Q => ∃ l k xs, x = .ref l ∧ y = .int k ∧ SqT K H l xs ∧ 0 ≤ k ∧ k ≤ 1000 ∧ xs.length ≤ 1000 ∧ (∀ p, H p = none → Q (.ref p) (upd H p (.tup (List.replicate k.toNat xs).flatten))) ∧ ((xs = [] ∨ k = 1) → Q (.ref l) H)
section
variable {X : Cx}
theorem op_repU : OpR X (binaryOp .Mult) (rRepU X.K) := by
  intro pins s σ H x y v u Q I rx ry h
  obtain ⟨l, k, xs, rfl, rfl, hT, k0, k1, hz, q, q1⟩ := h
  by_cases many : xs ≠ [] ∧ 2 ≤ k
  · exact op_repT pins s σ H _ _ v u Q I rx ry ⟨l, k, xs, rfl, rfl, hT, many.1, many.2, k1, hz, q⟩
  cases rx
  obtain ⟨t, rfl⟩ := ry
  obtain ⟨its, r, ⟨⟨cls, dd, data, sl⟩, ho, hc, n, hd⟩, hs⟩ := I.tuple hT
  simp only at hc hd
  subst hc hd
  have hle : its.length = xs.length := r.length.symm
  have c0 : (decide (k < -(2 ^ 63)) || decide (k ≥ 2 ^ 63)) = false := by
    rw [decide_eq_false (by omega), decide_eq_false (by omega)] <;> rfl
  have way : ∀ {S : PySem.Spec}, Meets (Builtin.«tuple.__mul__» ⟨[.ref l, .int k t], []⟩) S → S X.A (wants (EP X pins σ Q) X.xe) s → wpAny (model X.prog X.w) X.A (binaryOp .Mult (.ref l) (.int k t)) (EP X pins σ Q) X.xe s := fun m h =>
    wpAny_binaryOp_repeat_ref (T := "tuple") (U := "int") (by decide) ⟨_, ho, rfl⟩ (fun s' => typeIs_int s' k t) noFill_tuple_mul F.fills_int_mul F.slot_int_rmul repeat_tuple F.slot_int_index.lookup
      (call_meets F.slot_int_rmul (typeIs_int s k t) F.entry_int_rmul (F.args_int_rmul_2 _ _) (int_rmul_tuple k t l its.toArray n dd sl) ⟨ho, rfl, ⟨_, ho, rfl⟩, call_meets F.slot_tuple_mul ⟨_, ho, rfl⟩ F.entry_tuple_mul (F.args_tuple_mul_2 _ _) m h⟩)
  by_cases e : xs = [] ∨ k = 1
  · have c1 : (its.toArray.isEmpty || k == 1) = true := by
      rcases e with e | e
      · have : its = [] := List.eq_nil_of_length_eq_zero (by rw [hle, e]; rfl)
        rw [this]
        rfl
      · rw [e, beq_self_eq_true, Bool.or_true]
    exact way (mul_empty l its.toArray n dd sl k t c0 c1) ⟨ho, .ref l, H, I, rfl, q1 e⟩
  · have k00 : k = 0 := by
      by_cases h2 : 2 ≤ k
      · exact absurd ⟨fun z => e (.inl z), h2⟩ many
      · have : k ≠ 1 := fun z => e (.inr z)
        omega
    have ne : its ≠ [] := fun z => e (.inl (List.eq_nil_of_length_eq_zero (by rw [← hle, z]; rfl)))
    have hi : its.toArray.isEmpty = false := by
      cases its with
      | nil => exact absurd rfl ne
      | cons a b => rfl
    subst k00
    refine way (mul_none l its.toArray n dd sl 0 t c0 (by rw [hi]; rfl) rfl) ⟨ho, ?_⟩
    refine ⟨.ref s.heap.objs.size, _, I.laid (t' := s.toks) (o := .tup []) (fun b ob q => Heap.get?_push_of_some _ q) (Nat.le_refl _) ?_, rfl, q _ (I.hok.fresh (Nat.le_refl _))⟩
    exact ⟨Nat.zero_le _, _, .nil, IsTup.new _ _⟩
/-- xs[::-1] of a tuple -/
def tRevT (K : PySem.W.Frag) (te : TE) : TE := fun σ H Q => te σ H fun x H1 => ∃ a xs, x = .ref a ∧ SqT K H1 a xs ∧ ∀ p, H1 p = none → Q (.ref p) (upd H1 p (.tup xs.reverse))
/-- C(*xs) -/
def tMakeS1 (K : PySem.W.Frag) (C : Addr) (sp : Sp) (E : XK) (te : TE) : TE := fun σ H Q => te σ H fun y H1 => ∃ a xs, y = V.ref a ∧ (SqT K H1 a xs ∨ SqL K H1 a xs) ∧ ∀ x dx, H1 x = Option.none → H1 dx = Option.none → dx ≠ x →
  sp (V.ref x :: xs) (upd (upd H1 dx (.own x)) x (.ins C dx [])) (fun v H2 => v = .non ∧ Q (.ref x) H2) E
variable {CX : CXT} {k : Nat} {f C : Addr} {sp : Sp} {E : XK} {x : Str} {e : Expr} {te : TE} {p sp_ pos : Pos}
theorem pe_makeS1 (M : Mk X.K C f) (F : FnR X.prog X.w X.K X.mg X.base CX k f sp) (hr : Room (k + 1) X.A) (hg : Gl X x) (hm : X.mg x = some (.ref C)) (hx : Passes CX X E) (he : PE X e te) (hd : (x == ("__debug__" : Str)) = false := by decide)
    (hst : starEach [.Starred e sp_] X.env = [(true, eval e X.env)] := by rfl) : PE X (.Call (.Name x p) [.Starred e sp_] [] pos) (tMakeS1 X.K C sp E te) := by
  refine ⟨fun pins s σ H Q I h => ?_⟩
  refine wpAny_Call_Name_kw (ld_glob I hg hm ?_ hd)
  refine PySem.W.callWith_S (h₀ := X.base) I.ok.mod.kin M.kp (thn (he.run pins s σ H _ I h) fun v s1 ⟨y, H1, I1, ry, a, xs, ey, hxs, q⟩ => ?_) hst
  subst ey
  obtain rfl : v = Value.ref a := ry
  exact StX.star_any I1 hxs fun us s2 I2 rv => ⟨I2.kIn, StX.run_makeR M F hr hx I2 rv q⟩
/-- C() -/
theorem pe_make0 (M : Mk X.K C f) (F : FnR X.prog X.w X.K X.mg X.base CX k f sp) (hr : Room (k + 1) X.A) (hg : Gl X x) (hm : X.mg x = some (.ref C)) (hx : Passes CX X E) (hd : (x == ("__debug__" : Str)) = false := by decide) :
    PE X (.Call (.Name x p) [] [] pos) (fun σ H Q => ∀ x dx, H x = Option.none → H dx = Option.none → dx ≠ x → sp [V.ref x] (upd (upd H dx (.own x)) x (.ins C dx [])) (fun v H2 => v = .non ∧ Q (.ref x) H2) E) := by
  refine ⟨fun pins s σ H Q I h => ?_⟩
  refine wpAny_Call_Name_kw (ld_glob I hg hm ?_ hd)
  exact PySem.W.callWith_K0 I.kIn M.kp (StX.run_makeR M F hr hx I .nil h)
end
end LR

/-! xs[::-1] of a tuple -/
namespace LR
open PySem PySem.Spec PyProof.Rows HT
section
variable {prog : Program} {w : World} {A : Around} {E : Value → Shared → Prop} {s : Shared}
theorem places_back (n : Nat) : Builtin.Slice.slicePlaces ((n : Int) - 1) (-1) (-1) = n := by
  unfold Builtin.Slice.slicePlaces
  rw [if_neg (by decide)]
  by_cases h : ((n : Int) - 1) > -1
  · rw [if_pos h]
    show (((n : Int) - 1 - (-1) - 1) / 1 + 1).toNat = n
    rw [Int.ediv_one]
    omega
  · rw [if_neg h]
    omega
theorem back_applied {sl : Addr} {t : Tok} {n : Nat} {Q : Int × Int × Nat → Shared → Prop} (hs : s.heap.IsSliceOf sl .none .none (.int (-1) t)) (h : Q ((n : Int) - 1, -1, n) s) : wpAny (model prog w) A (Builtin.Slice.sliceApplied (.ref sl) (pure (n : Int))) Q E s := by
  obtain ⟨os, hos, hcs, hds⟩ := id hs
  unfold Builtin.Slice.sliceApplied Builtin.Slice.sliceFields
  refine wpAny_bind (wpAny_bind (wpAny_field hos hds (x := .none) rfl (wpAny_bind (wpAny_field hos hds (x := .none) rfl (wpAny_bind (wpAny_field hos hds (x := .int (-1) t) rfl (wpAny_pure ?_)))))))
  refine wpAny_bind (slicePart_int ?_)
  show wpAny _ _ (if ((-1 : Int) == 0) = true then _ else _) _ _ s
  rw [if_neg (by decide)]
  refine wpAny_bind (slicePart_none (wpAny_bind (slicePart_none (wpAny_bind (wpAny_pure ?_)))))
  show wpAny _ _ (pure ((n : Int) - 1, (-1 : Int), Builtin.Slice.slicePlaces ((n : Int) - 1) (-1) (-1))) _ _ s
  rw [places_back]
  exact wpAny_pure h
theorem fm_congr {α β : Type} {f g : α → Option β} : ∀ {l : List α}, (∀ m ∈ l, f m = g m) → l.filterMap f = l.filterMap g
  | [], _ => rfl
  | a :: r, h => by
    rw [List.filterMap_cons, List.filterMap_cons, h a List.mem_cons_self, fm_congr fun m hm => h m (List.mem_cons_of_mem _ hm)]
theorem pick_back (xs : Array Value) : ((List.range xs.size).filterMap fun (m : Nat) => xs[(((xs.size : Int) - 1) + (m : Int) * (-1)).toNat]?).toArray = xs.toList.reverse.toArray := by
  congr 1
  have e : ∀ m ∈ List.range xs.size, (fun (m : Nat) => xs[(((xs.size : Int) - 1) + (m : Int) * (-1)).toNat]?) m = (fun (m : Nat) => xs.toList.reverse[m]?) m := fun m hm => by
    have lt := List.mem_range.mp hm
    show xs[(((xs.size : Int) - 1) + (m : Int) * (-1)).toNat]? = xs.toList.reverse[m]?
    rw [List.getElem?_reverse (by rw [Array.length_toList]; exact lt), Array.getElem?_toList]
    congr 1
    rw [Array.length_toList]
    omega
  rw [fm_congr e]
  have l : xs.size = xs.toList.reverse.length := by rw [List.length_reverse, Array.length_toList]
  rw [l]
  generalize xs.toList.reverse = ys
  induction ys with
  | nil => rfl
  | cons a r ih =>
    rw [List.length_cons, List.range_succ_eq_map, List.filterMap_cons]
    show a :: _ = _
    rw [List.filterMap_map]
    congr 1
theorem item_back {t sl : Addr} {items : Array Value} {tk : Tok} {Q : Value → Shared → Prop} (ht : IsTup s.heap t items) (hs : s.heap.IsSliceOf sl .none .none (.int (-1) tk)) (h : Q (.ref s.heap.objs.size) { s with heap := s.heap.push { cls := .type "tuple", data := .seq items.toList.reverse.toArray } })
    (hsz : items.size ≤ sizeLine) : wpAny (model prog w) A (getItem (.ref t) (.ref sl)) Q E s := by
  have fits : sizeOk (.seq items.toList.reverse.toArray) := by
    show items.toList.reverse.toArray.size ≤ sizeLine
    rw [List.size_toArray, List.length_reverse, Array.length_toList]
    exact hsz
  obtain ⟨os, hos, hcs, hds⟩ := id hs
  have hT : s.TypeIs (.ref sl) "slice" := ⟨os, hos, hcs⟩
  unfold getItem
  try with_reducible refine wpAny_holding ?_
  first | refine wpAny_bind (wpAny_pure ?_) | skip
  refine wpAny_bind (wpAny_sequenceKey ht.typeIs (by decide) ?_)
  refine wpAny_bind (wpAny_callSpecial?_slot (name := Str.ofString "__getitem__") ht.typeIs PyProof.Rows.slot_tuple_getitem
    (wpAny_call_entry PyProof.Rows.slot_tuple_getitem ht.typeIs entry_tuple_getitem ?_ (args_tuple_getitem _ _)))
  show wpAny _ _ (Builtin.Tuple.tupleItemsOf (.ref t) >>= _) _ _ s
  refine wpAny_bind (tupleItemsOf_ ht (wpAny_bind (wpAny_typeOf hT ?_)))
  rw [if_pos (by decide)]
  refine wpAny_bind (back_applied hs ?_)
  show wpAny _ _ (if ((((items.size : Int) - 1) == 0 && (-1 : Int) == 1) && items.size == items.size) = true then _ else _) _ _ s
  rw [if_neg (by rw [show ((-1 : Int) == 1) = false from rfl, Bool.and_false, Bool.false_and]; exact Bool.false_ne_true), pick_back]
  first
    | exact wpAny_bind (m := Builtin.Tuple.tupleExact _) (wpAny_newObj_type (wpAny_pure ⟨_, rfl, wpAny_pure h⟩) fits)
    | exact wpAny_bind (m := Builtin.Tuple.tupleExact _) (wpAny_newObj_type (wpAny_bind (wpAny_pure (wpAny_pure ⟨_, rfl, wpAny_pure h⟩))) fits)
    | exact wpAny_bind (wpAny_bind (m := Builtin.Tuple.tupleExact _) (wpAny_newObj_type (wpAny_pure (wpAny_pure ⟨_, rfl, wpAny_pure h⟩)) fits))
    | exact wpAny_bind (wpAny_bind (m := Builtin.Tuple.tupleExact _) (wpAny_newObj_type (wpAny_pure ⟨_, rfl, wpAny_pure h⟩) fits))
end
end LR
namespace LR
open PySem PySem.Spec PyProof.Rows L2
variable {X : Cx}
theorem pe_revT {e : Expr} {te : TE} {k : Nat} {p1 p2 p3 pos : Pos} (he : PE X e te) : PE X (.Subscript e (.Slice none none (some (.UnaryOp .USub (.Constant (.int 1) k p1) p2)) p3) pos) (tRevT X.K te) := by
  refine ⟨fun pins s σ H Q I h => Subscript_ (thn (he.run pins s σ H _ I h) fun v s1 got => ?_)⟩
  obtain ⟨x, H1, I1, r1, a, xs, rfl, hx, q⟩ := got
  cases r1
  have st : PO X (some (.UnaryOp .USub (.Constant (.int 1) k p1) p2)) (tPart (tUn (rU fun i => .int (-i)) (tC (.int 1)))) := po_some (pe_un un_neg pe_int)
  refine wpAny_Slice (thn (po_none.run pins s1 σ H1 (fun o G => o = none ∧ G = H1) I1 ⟨rfl, rfl⟩) fun vl s2 g2 => ?_)
  obtain ⟨_, _, I2, pl, rfl, rfl⟩ := g2
  refine thn (po_none.run pins s2 σ _ (fun o G => o = none ∧ G = _) I2 ⟨rfl, rfl⟩) fun vu s3 g3 => ?_
  obtain ⟨_, _, I3, pu, rfl, rfl⟩ := g3
  refine thn (st.run pins s3 σ _ (fun o G => o = some (-1) ∧ G = _) I3 ⟨1, rfl, -1, rfl, rfl, rfl⟩) fun vs s4 g4 => ?_
  obtain ⟨_, _, I4, pt, rfl, rfl⟩ := g4
  cases pl
  cases pu
  cases pt
  rename_i tk
  have I5 : Inv X pins σ _ { s4 with heap := s4.heap.push { cls := .type "slice", data := .fields #[.none, .none, .int (-1) tk] } } := I4.kept (t' := s4.toks) fun b ob z => Heap.get?_push_of_some _ z
  obtain ⟨its, r, ht, hz⟩ := I5.tuple hx
  show wpAny (model X.prog X.w) X.A (subscriptTail e (.Slice none none (some (.UnaryOp .USub (.Constant (.int 1) k p1) p2)) p3) (.ref a) (.ref s4.heap.objs.size)) (EP X pins σ Q) X.xe { s4 with heap := s4.heap.push { cls := .type "slice", data := .fields #[.none, .none, .int (-1) tk] } }
  refine tail_any (ops := [.ref a, .ref s4.heap.objs.size]) ht.typeIs PyProof.Rows.slot_tuple_getitem.lookup ?_ (by with_unfolding_all rfl)
  refine item_back ht (Heap.IsSliceOf.new _ _ _ _) ?_ (by rw [List.size_toArray, ← r.length]; exact hz)
  exact ⟨.ref _, _, I5.laid (t' := s4.toks) (o := .tup xs.reverse) (fun b ob z => Heap.get?_push_of_some _ z) (Nat.le_refl _) ⟨by rw [List.length_reverse]; exact hz, _, r.reverse, IsTup.new _ _⟩, rfl, q _ (I5.hok.fresh (Nat.le_refl _))⟩
end LR

namespace LK
open PySem PySem.Spec PyProof.Rows L2 LR
/-! ### chains of steps -/
/-- a step of one argument -/
def L1 (cS : Addr) (H : Hp) (v : V) : Prop := ∃ b z y, v = .ref b ∧ StepAt cS H b z y ∧ NameOk z ∧ WaysOk y ∧ y.length = 1
/-- may v be in a chain? -/
def LkV (K : PySem.W.Frag) (cS : Addr) (H : Hp) (v : V) (g : Bool) : Prop := (g = true ∧ L1 cS H v) ∨ (g = false ∧ ((∃ b z y, v = .ref b ∧ StepAt cS H b z y ∧ y.length ≤ 3 ∧ y.length ≠ 1) ∨ ∃ t, TyX K H v t ∧ PySem.W.kitOne K t (.ref cS) = some false))
structure Lks (K : PySem.W.Frag) (cS : Addr) (H : Hp) (xs : List V) (gs : List Bool) : Prop where
  l : xs.length = gs.length
  g : ∀ (i : Nat) v g, xs[i]? = some v → gs[i]? = some g → LkV K cS H v g
def ChAt (K : PySem.W.Frag) (C cS : Addr) (H : Hp) (a : Addr) (ss : List V) : Prop := ∃ dx p, H a = some (.ins C dx [("steps", .ref p)]) ∧ H p = some (.tup ss) ∧ ∀ v ∈ ss, L1 cS H v
theorem L1.same {cS : Addr} {H H' : Hp} {v : V} (s : Same H H') (h : L1 cS H v) : L1 cS H' v := by
  obtain ⟨b, z, y, e, ⟨dx, hb⟩, r⟩ := h
  exact ⟨b, z, y, e, ⟨dx, s _ _ hb⟩, r⟩
theorem LkV.same {K : PySem.W.Frag} {cS : Addr} {H H' : Hp} {v : V} {g : Bool} (s : Same H H') (h : LkV K cS H v g) : LkV K cS H' v g := by
  rcases h with ⟨e, h⟩ | ⟨e, ⟨b, z, y, e1, ⟨dx, hb⟩, r⟩ | ⟨t, ty, k⟩⟩
  · exact .inl ⟨e, h.same s⟩
  · exact .inr ⟨e, .inl ⟨b, z, y, e1, ⟨dx, s _ _ hb⟩, r⟩⟩
  · exact .inr ⟨e, .inr ⟨t, TyX.same s ty, k⟩⟩
theorem Lks.same {K : PySem.W.Frag} {cS : Addr} {H H' : Hp} {xs : List V} {gs : List Bool} (s : Same H H') (h : Lks K cS H xs gs) : Lks K cS H' xs gs := ⟨h.l, fun i v g a b => (h.g i v g a b).same s⟩
theorem ChAt.same {K : PySem.W.Frag} {C cS : Addr} {H H' : Hp} {a : Addr} {ss : List V} (s : Same H H') (h : ChAt K C cS H a ss) : ChAt K C cS H' a ss := by
  obtain ⟨dx, p, e, t, g⟩ := h
  exact ⟨dx, p, s _ _ e, s _ _ t, fun v hv => (g v hv).same s⟩
def outsC (C0 : Addr) (E : XK) (H : Hp) : Prop := ∀ d H', Same H H' → H' d = some (.xd [("word", .str "chain")]) → H d = none → E (.ref C0) (some d) H'
theorem outsC.same {C0 : Addr} {E : XK} {H H' : Hp} (s : Same H H') (h : outsC C0 E H) : outsC C0 E H' := fun d H2 s2 e n => h d H2 (s.trans s2) e (Same.free s n)
def spChX (K : PySem.W.Frag) (C0 cS C : Addr) : Sp := fun vs H Q E => ∃ (x dx p : Addr) (xs : List V) (gs : List Bool), vs = [.ref x, .ref p] ∧ H x = some (.ins C dx []) ∧ H p = some (.tup xs) ∧ Lks K cS H xs gs ∧ (false ∈ gs → outsC C0 E H) ∧
  (false ∉ gs → ∀ H', H' x = some (.ins C dx [("steps", .ref p)]) → Keep x H H' → Q .non H')
def spChRaw (K : PySem.W.Frag) (C0 cS C : Addr) : Sp := fun vs H Q E => ∃ ws rest, vs = ws ++ rest ∧ ws.length = ([("self" : Str)] : List Str).length ∧ rest.length ≤ sizeLine ∧ ∀ p, H p = Option.none → spChX K C0 cS C (ws ++ [V.ref p]) (upd H p (.tup rest)) Q E
/-- a chain is made, or refused -/
theorem chain_made {K : PySem.W.Frag} {C0 cS C : Addr} {H : Hp} {xs : List V} {gs : List Bool} {R : Addr → Hp → Prop} {E : XK} (h : Lks K cS H xs gs) (few : xs.length ≤ 1000) (bad : false ∈ gs → outsC C0 E H) (good : false ∉ gs → ∀ a H', Same H H' → ChAt K C cS H' a xs → R a H') :
    ∀ x dx, H x = Option.none → H dx = Option.none → dx ≠ x → spChRaw K C0 cS C (V.ref x :: xs) (upd (upd H dx (.own x)) x (.ins C dx [])) (fun v H2 => v = .non ∧ R x H2) E := by
  intro x dx nx nd ne
  refine ⟨[.ref x], xs, rfl, rfl, by rw [sizeLine_eq]; omega, fun p hp => ?_⟩
  have s1 := same_ins (o := .own x) (u := .ins C dx []) nx nd
  have s2 := s1.trans (same_new (o := .tup xs) hp)
  have px : p ≠ x := fun e => by rw [e, upd_same] at hp; cases hp
  refine ⟨x, dx, p, xs, gs, rfl, ?_, upd_same, h.same s2, fun e => (bad e).same s2, fun e H' hx k => ⟨rfl, ?_⟩⟩
  · rw [upd_ne px.symm]
    exact upd_same
  · have s3 : Same H H' := fun b o z => k b o (ne_of_none z nx) (s2 b o z)
    refine good e x H' s3 ⟨dx, p, hx, k _ _ px upd_same, fun v hv => ?_⟩
    obtain ⟨i, hi⟩ := List.getElem?_of_mem hv
    have lt := (List.getElem?_eq_some_iff.mp hi).1
    have hg : gs[i]? = some (gs[i]'(by rw [← h.l]; exact lt)) := List.getElem?_eq_getElem _
    rcases h.g i v _ hi hg with ⟨_, l1⟩ | ⟨e1, _⟩
    · exact l1.same s3
    · exact (e (by rw [← e1]; exact List.getElem_mem _)).elim
section
variable {P : Program} {w : World} {K : PySem.W.Frag} {mg : Str → Option Value} {base : Heap}
theorem scChInitX : FnScope ["self", "steps", "step"] ((["self"] : List Str) ++ (["steps"] : List Str)) (defScope sChainInit) := ⟨rfl, rfl, rfl, by decide +kernel, rfl, by decide +kernel, by decide +kernel⟩
theorem ok_chInitX {C0 cS C fL fE f : Addr} {fdL fdE fd : FuncData} (S : Std mg) (c : OwnCl K mg "Step" cS) (n2 : NoAttr K cS "ways") (L : LenM K cS fL fdL sStepLen "Step.__len__") (cl : Cls K C) (m : NoAttr K C "steps") (e0 : Er K mg 0 C0 fE fdE) (F : Fun K "__init__" "Chain.__init__" sChainInit f fd) :
    FnR P w K mg base (L2N.CX P w) 4 f (spChRaw K C0 cS C) := by
  have GE : FnOk P w K mg base CX0 1 fE fdE ["self", "word"] (spE0 C0 "word") := ok_err0X e0
  have GL : FnOk P w K mg base CX0 1 fL fdL ["self"] (spStLen cS) := ok_stLen S c.cl n2 L.F
  refine okStarN (ps := ["self"]) (pv := "steps") F scChInitX (fun kV doc pm an cdv ct => StX.bind_star1 (B := fun us => bindArgs (PySem.W.fnOf "__init__" "Chain.__init__" (defArgs sChainInit) (defBody sChainInit) (defScope sChainInit) .none kV doc pm an cdv ct) ⟨us, []⟩) (p1 := "self") (pv := "steps") (fun a => rfl) (fun a r rs => rfl)) (fun cdv A outer s H vs Q E hr h => ?_)
  obtain ⟨x, dx, p, xs, gs, rfl, hx, hp, hk, qb, qg⟩ := h
  have rm2 : Room 2 _ := hr.mono (by decide)
  refine ⟨_, pss_cons (ps_for PassesOwn.leaving rfl (pi_tup (pv 1)) (pg_name (i := 2) scChInitX.nd rfl (Or.inl rfl)) (pss_one (ps_if (PW.pt (pw_or (pt_not (pt_val (pe_callB call_isi (by rfl) S.isi (by decide +kernel) (pa_cons (pv 2) (pa_cons (pe_glob (v := .ref cS) rfl c.g rfl) pa_nil)))))
        (pw_or1 (pt_cmpR op_ne (pe_callB (LR.call_lenOwn (C := cS) (E := fun _ _ _ => False) GL L.at_ L.fn L.b pass0 rm2) (by rfl) S.len PySem.boot_len (pa_cons (pv 2) pa_nil)) pe_int (nomark _)))))
      (pss_one (L2N.ps_raise rfl (L2N.takes_of rfl rfl rfl rfl) (pmk_errN e0.T e0.ini e0.ti GE rm2 e0.b rfl e0.g (pa_cons pe_str pa_nil)))) pss_nil)))
    (pss_one (ps_fld (pv 0) (pv 1) rfl)), ?_⟩
  refine ⟨_, rfl, p, rfl, ⟨xs, SqT.of hp⟩, for_tup (xs := xs) (fun i σ' H' => (∃ o, σ' = [some (.ref x), some (.ref p), o]) ∧ H' = H ∧ ∀ j g, j < i → gs[j]? = some g → g = true) ⟨⟨_, rfl⟩, rfl, fun j g h => absurd h (by omega)⟩ (fun i σ' H' _ h => ?_) (fun i v σ' H' hv h => ?_) (fun σ' H' h => ?_)⟩
  · rw [h.2.1]
    exact SqT.of hp
  · obtain ⟨⟨o, rfl⟩, rfl, gd⟩ := h
    have lt := (List.getElem?_eq_some_iff.mp hv).1
    have hg : gs[i]? = some (gs[i]'(by rw [← hk.l]; exact lt)) := List.getElem?_eq_getElem _
    generalize gs[i]'(by rw [← hk.l]; exact lt) = g at hg
    rcases hk.g i v g hv hg with ⟨rfl, b, z, y, rfl, ⟨db, hb⟩, hz, hy, h1⟩ | ⟨rfl, ⟨b, z, y, rfl, ⟨db, hb⟩, h3, h1⟩ | ⟨t, ty, kt⟩⟩
    · refine ⟨_, rfl, _, _, _, _, true, rfl, .own cS, c.ty hb, kit_self, true, rfl, iteF ?_⟩
      refine ⟨_, rfl, b, db, _, rfl, hb, b, z, y, rfl, ⟨db, hb⟩, by omega, y.length, rfl, by omega, rfl, _, rfl, ?_⟩
      rw [h1]
      refine iteF ⟨⟨_, rfl⟩, rfl, fun j g lj hj => ?_⟩
      by_cases e : j < i
      · exact gd j g e hj
      · rw [show j = i by omega, hg] at hj
        exact (Option.some.inj hj).symm
    · refine ⟨_, rfl, _, _, _, _, true, rfl, .own cS, c.ty hb, kit_self, true, rfl, iteF ?_⟩
      refine ⟨_, rfl, b, db, _, rfl, hb, b, z, y, rfl, ⟨db, hb⟩, h3, y.length, rfl, by omega, rfl, _, rfl, ?_⟩
      rw [decide_eq_false (show ¬ V.int ((y.length : Nat) : Int) = V.int 1 by intro e; injection e with e; omega)]
      exact iteT (errX fun d H' s' hd nd => qb (List.mem_of_getElem? hg) d H' s' hd nd)
    · refine ⟨_, rfl, _, _, _, _, false, rfl, .own cS, ty, kt, false, rfl, iteT ?_⟩
      exact iteT (errX fun d H' s' hd nd => qb (List.mem_of_getElem? hg) d H' s' hd nd)
  · obtain ⟨⟨o, rfl⟩, rfl, gd⟩ := h
    refine ⟨_, rfl, _, rfl, x, C, dx, _, rfl, hx, cl, m, by decide, qg (fun e => ?_) _ upd_same Keep.put⟩
    obtain ⟨j, hj⟩ := List.getElem?_of_mem e
    have lt := (List.getElem?_eq_some_iff.mp hj).1
    have := gd j false (by rw [hk.l]; exact lt) hj
    cases this
end
end LK

namespace LK
open PySem PySem.Spec PyProof.Rows L2 LR
/-! ### chains put together, and repeated -/
/-- what a step or a chain brings, and whether it may be in a chain -/
def Brings (K : PySem.W.Frag) (C cS : Addr) (H : Hp) (y : V) (tt : List V) (gs : List Bool) : Prop := (∃ b, y = .ref b ∧ ChAt K C cS H b tt ∧ gs = tt.map fun _ => true) ∨
  ∃ b z w g, y = .ref b ∧ tt = [y] ∧ gs = [g] ∧ StepAt cS H b z w ∧ w.length ≤ 3 ∧ LkV K cS H y g
theorem Brings.same {K : PySem.W.Frag} {C cS : Addr} {H H' : Hp} {y : V} {tt : List V} {gs : List Bool} (s : Same H H') (h : Brings K C cS H y tt gs) : Brings K C cS H' y tt gs := by
  rcases h with ⟨b, e, c, g⟩ | ⟨b, z, w, g, e, et, eg, ⟨dx, hb⟩, l, k⟩
  · exact .inl ⟨b, e, c.same s, g⟩
  · exact .inr ⟨b, z, w, g, e, et, eg, ⟨dx, s _ _ hb⟩, l, k.same s⟩
theorem good_lks {K : PySem.W.Frag} {cS : Addr} {H : Hp} {ss : List V} (h : ∀ v ∈ ss, L1 cS H v) : Lks K cS H ss (ss.map fun _ => true) := by
  refine ⟨(List.length_map _).symm, fun i v g a b => ?_⟩
  rw [List.getElem?_map, a] at b
  cases b
  exact .inl ⟨rfl, h v (List.mem_of_getElem? a)⟩
theorem Lks.app {K : PySem.W.Frag} {cS : Addr} {H : Hp} {xs ys : List V} {gs hs : List Bool} (a : Lks K cS H xs gs) (b : Lks K cS H ys hs) : Lks K cS H (xs ++ ys) (gs ++ hs) := by
  refine ⟨by rw [List.length_append, List.length_append, a.l, b.l], fun i v g h1 h2 => ?_⟩
  by_cases l : i < xs.length
  · rw [List.getElem?_append_left l] at h1
    rw [List.getElem?_append_left (by rw [← a.l]; exact l)] at h2
    exact a.g i v g h1 h2
  · rw [List.getElem?_append_right (by omega)] at h1
    rw [List.getElem?_append_right (by rw [← a.l]; omega), ← a.l] at h2
    exact b.g _ v g h1 h2
theorem Brings.lks {K : PySem.W.Frag} {C cS : Addr} {H : Hp} {y : V} {tt : List V} {gs : List Bool} (h : Brings K C cS H y tt gs) : Lks K cS H tt gs := by
  rcases h with ⟨b, e, ⟨_, _, _, _, g⟩, rfl⟩ | ⟨b, z, w, g, e, rfl, rfl, _, _, k⟩
  · exact good_lks g
  · refine ⟨rfl, fun i v g' h1 h2 => ?_⟩
    cases i with
    | zero =>
      cases h1
      cases h2
      exact k
    | succ i => cases h1
theorem no_false {ss : List V} {gs : List Bool} : false ∈ (ss.map fun _ => true) ++ gs ↔ false ∈ gs := by
  constructor
  · intro h
    rcases List.mem_append.mp h with h | h
    · obtain ⟨_, _, e⟩ := List.mem_map.mp h
      cases e
    · exact h
  · exact fun h => List.mem_append_right _ h
def spJoin (K : PySem.W.Frag) (C0 C cS : Addr) : Sp := fun vs H Q E => ∃ (a : Addr) (y : V) (ss tt : List V) (gs : List Bool), vs = [.ref a, y] ∧ ChAt K C cS H a ss ∧ Brings K C cS H y tt gs ∧ ss.length + tt.length ≤ 1000 ∧ (false ∈ gs → outsC C0 E H) ∧
  (false ∉ gs → ∀ b H', Same H H' → ChAt K C cS H' b (ss ++ tt) → Q (.ref b) H')
def spRep (K : PySem.W.Frag) (C cS : Addr) : Sp := fun vs H Q _ => ∃ (a : Addr) (n : Nat) (ss : List V), vs = [.ref a, .int n] ∧ ChAt K C cS H a ss ∧ n ≤ 10 ∧ ss.length ≤ 60 ∧ ∀ b H', Same H H' → ChAt K C cS H' b (List.replicate n ss).flatten → Q (.ref b) H'
/-- the class Chain -/
structure ChM (K : PySem.W.Frag) (mg : Str → Option Value) (C cS fI : Addr) : Prop where
  c : OwnCl K mg "Chain" C
  cT : OwnCl K mg "Step" cS
  m : NoAttr K C "steps"
  M : Mk K C fI
  ne : PySem.W.kitOne K (.ref cS) (.ref C) = some false
  en : PySem.W.kitOne K (.ref C) (.ref cS) = some false
section
variable {P : Program} {w : World} {K : PySem.W.Frag} {mg : Str → Option Value} {base : Heap}
def nJn : List Str := ["chain", "other", "links", "every"]
theorem scJn : FnScope nJn ["chain", "other"] (defScope sJoined) := ⟨rfl, rfl, rfl, by decide +kernel, rfl, by decide +kernel, by decide +kernel⟩
theorem ok_joined {C0 C cS fI f : Addr} {fd : FuncData} (S : Std mg) (M : ChM K mg C cS fI) (GI : FnR P w K mg base (L2N.CX P w) 4 fI (spChRaw K C0 cS C)) (F : Fun K "_joined" "_joined" sJoined f fd) : FnOk P w K mg base (L2N.CX P w) 6 f fd ["chain", "other"] (spJoin K C0 C cS) := by
  refine okN F scJn (fun vs H Q E h => ?_) (fun cdv A outer s H vs Q E hr h => ?_)
  · obtain ⟨a, y, ss, tt, gs, rfl, _⟩ := h
    rfl
  · obtain ⟨a, y, ss, tt, gs, rfl, ⟨dx, p, ha, hp, hs⟩, hb, few, qb, qg⟩ := h
    refine ⟨_, pss_cons (ps_set (i := 2) scJn.nd rfl (Or.inl rfl) (pe_ifExp (pt_val (pe_callB call_isi (by rfl) S.isi (by decide +kernel) (pa_cons (pv 1) (pa_cons (pe_glob (v := .ref C) rfl M.c.g rfl) pa_nil)))) (pe_fld (pv 1) rfl) (pe_tup (pa_cons (pv 1) pa_nil))))
      (pss_cons (ps_set (i := 3) scJn.nd rfl (Or.inl rfl) (pe_op op_catA (pe_fld (pv 0) rfl) (pv 2)))
      (pss_one (ps_ret (LR.pe_makeS1 M.M GI hr rfl M.c.g (L2N.passes_call (L2N.takes_of rfl rfl rfl rfl) fun _ _ _ _ h => h) (pv 3))))), ?_⟩
    refine asg_key (fun v H1 => ∃ q, v = .ref q ∧ Same H H1 ∧ SqT K H1 q tt) (fun R key => ?_) (fun v H1 h => ?_)
    · rcases hb with ⟨b, rfl, ⟨db, pb, hb, tb, _⟩, _⟩ | ⟨b, z, w', g, rfl, rfl, _, ⟨db, hb⟩, _⟩
      · exact ⟨_, rfl, _, _, _, _, true, rfl, .own C, M.c.ty hb, kit_self, true, rfl, iteT ⟨_, rfl, b, C, db, _, .ref pb, rfl, hb, M.c.cl, M.m, rfl, key _ _ ⟨pb, rfl, Same.refl H, SqT.of tb⟩⟩⟩
      · exact ⟨_, rfl, _, _, _, _, false, rfl, .own C, M.cT.ty hb, M.ne, false, rfl, iteF ⟨_, rfl, (by show 1 ≤ sizeLine; decide), fun q hq => key _ _ ⟨q, rfl, same_new hq, SqT.of upd_same⟩⟩⟩
    obtain ⟨q, rfl, s1, tq⟩ := h
    refine gN_key ?_
    refine asg_key (fun v H2 => ∃ q, v = .ref q ∧ Same H H2 ∧ SqT K H2 q (ss ++ tt)) (fun R key => ?_) (fun v H2 h => ?_)
    · refine ⟨_, rfl, a, C, dx, _, .ref p, rfl, s1 _ _ ha, M.c.cl, M.m, rfl, _, rfl, p, q, ss, tt, rfl, rfl, SqT.of (s1 _ _ hp), tq, by rw [sizeLine_eq]; omega, fun e => key _ _ ⟨q, rfl, s1, by rw [e]; exact tq⟩, fun _ e => key _ _ ⟨p, rfl, s1, by rw [e, List.append_nil]; exact SqT.of (s1 _ _ hp)⟩, fun _ _ r hr' => key _ _ ⟨r, rfl, s1.trans (same_new hr'), SqT.of upd_same⟩⟩
    obtain ⟨q2, rfl, s2, tq2⟩ := h
    refine gN_key ?_
    refine ⟨_, rfl, q2, _, rfl, .inl tq2, chain_made (((good_lks hs).app hb.lks).same s2) (by rw [List.length_append]; omega) (fun e => (qb (no_false.mp e)).same s2) fun e b H' s' c => qg (fun z => e (no_false.mpr z)) b H' (s2.trans s') c⟩
theorem scRp : FnScope ["chain", "count", "links"] ["chain", "count"] (defScope sRepeated) := ⟨rfl, rfl, rfl, by decide +kernel, rfl, by decide +kernel, by decide +kernel⟩
theorem ok_repeated {C0 C cS fI f : Addr} {fd : FuncData} (S : Std mg) (M : ChM K mg C cS fI) (GI : FnR P w K mg base (L2N.CX P w) 4 fI (spChRaw K C0 cS C)) (F : Fun K "_repeated" "_repeated" sRepeated f fd) : FnOk P w K mg base (L2N.CX P w) 6 f fd ["chain", "count"] (spRep K C cS) := by
  refine okN F scRp (fun vs H Q E h => ?_) (fun cdv A outer s H vs Q E hr h => ?_)
  · obtain ⟨a, n, ss, rfl, _⟩ := h
    rfl
  · obtain ⟨a, n, ss, rfl, ⟨dx, p, ha, hp, hs⟩, n10, s60, q⟩ := h
    refine ⟨_, pss_cons (ps_set (i := 2) scRp.nd rfl (Or.inl rfl) (pe_op op_repU (pe_fld (pv 0) rfl) (pv 1)))
      (pss_one (ps_ret (LR.pe_makeS1 M.M GI hr rfl M.c.g (L2N.passes_call (L2N.takes_of rfl rfl rfl rfl) fun _ _ _ _ h => h) (pv 2)))), ?_⟩
    have all : ∀ v ∈ (List.replicate n ss).flatten, L1 cS H v := fun v hv => by
      obtain ⟨l, hl, hv⟩ := List.mem_flatten.mp hv
      rw [(List.mem_replicate.mp hl).2] at hv
      exact hs v hv
    have len : (List.replicate n ss).flatten.length ≤ 1000 := by
      rw [PyProof.Rows.lm_len_rep_flat]
      have := Nat.mul_le_mul n10 s60
      omega
    refine asg_key (fun v H2 => ∃ q, v = .ref q ∧ Same H H2 ∧ SqT K H2 q (List.replicate n ss).flatten) (fun R key => ?_) (fun v H2 h => ?_)
    · refine ⟨_, rfl, a, C, dx, _, .ref p, rfl, ha, M.c.cl, M.m, rfl, _, rfl, p, n, ss, rfl, rfl, SqT.of hp, by omega, by omega, by omega, fun r hr' => key _ _ ⟨r, rfl, same_new hr', ?_⟩, fun e => key _ _ ⟨p, rfl, Same.refl H, ?_⟩⟩
      · rw [Int.toNat_natCast]
        exact SqT.of upd_same
      · rcases e with rfl | e
        · have : (List.replicate n ([] : List V)).flatten = [] := by
            rw [← List.length_eq_zero_iff, PyProof.Rows.lm_len_rep_flat]
            rfl
          rw [this]
          exact SqT.of hp
        · have : n = 1 := by omega
          subst this
          have : (List.replicate 1 ss).flatten = ss := by simp
          rw [this]
          exact SqT.of hp
    obtain ⟨q2, rfl, s2, tq2⟩ := h
    refine gN_key ?_
    refine ⟨_, rfl, q2, _, rfl, .inl tq2, chain_made ((good_lks all).same s2) len (fun e => ?_) fun _ b H' s' c => q b H' (s2.trans s') c⟩
    obtain ⟨_, _, e⟩ := List.mem_map.mp e
    cases e
end
end LK

namespace LK
open PySem PySem.Spec PyProof.Rows L2 LR
/-! ### the operators of steps and chains -/
def spStMul (K : PySem.W.Frag) (C0 C cS : Addr) : Sp := fun vs H Q E => ∃ (a : Addr) (z w : Str) (g : Bool) (y : V) (tt : List V) (gs : List Bool), vs = [.ref a, y] ∧ StepAt cS H a z w ∧ w.length ≤ 3 ∧ LkV K cS H (.ref a) g ∧ Brings K C cS H y tt gs ∧ tt.length ≤ 500 ∧ ((g = false ∨ false ∈ gs) → outsC C0 E H) ∧
  (g = true → false ∉ gs → ∀ b H', Same H H' → ChAt K C cS H' b (.ref a :: tt) → Q (.ref b) H')
def spStPow (K : PySem.W.Frag) (C0 C cS : Addr) : Sp := fun vs H Q E => ∃ (a : Addr) (z w : Str) (g : Bool) (n : Nat), vs = [.ref a, .int n] ∧ StepAt cS H a z w ∧ w.length ≤ 3 ∧ LkV K cS H (.ref a) g ∧ n ≤ 10 ∧ (g = false → outsC C0 E H) ∧
  (g = true → ∀ b H', Same H H' → ChAt K C cS H' b (List.replicate n (.ref a)) → Q (.ref b) H')
def spIsInt : Sp := fun vs H Q _ => ∃ i : Int, vs = [.int i] ∧ Q (.bl true) H
theorem one_lks {K : PySem.W.Frag} {cS : Addr} {H : Hp} {v : V} {g : Bool} (h : LkV K cS H v g) : Lks K cS H [v] [g] := by
  refine ⟨rfl, fun i v g' h1 h2 => ?_⟩
  cases i with
  | zero =>
    cases h1
    cases h2
    exact h
  | succ i => cases h1
theorem flat_one4 {n : Nat} {v : V} : (List.replicate n [v]).flatten = List.replicate n v := by
  induction n with
  | zero => rfl
  | succ n ih => rw [List.replicate_succ, List.flatten_cons, ih]; rfl
theorem kitA2 {K : PySem.W.Frag} {t c d : Value} {r1 r2 : Bool} (h1 : PySem.W.kitOne K t c = some r1) (h2 : PySem.W.kitOne K t d = some r2) : PySem.W.kitAny K t [c, d] = some (r1 || r2) := by
  unfold PySem.W.kitAny
  rw [h1]
  cases r1 with
  | true => rfl
  | false =>
    show PySem.W.kitAny K t [d] = _
    unfold PySem.W.kitAny
    rw [h2]
    cases r2 <;> rfl
section
variable {P : Program} {w : World} {K : PySem.W.Frag} {mg : Str → Option Value} {base : Heap}
theorem scIsI : FnScope ["value"] ["value"] (defScope sIsInteger) := ⟨rfl, rfl, rfl, by decide +kernel, rfl, by decide +kernel, by decide +kernel⟩
theorem ok_isInt {f : Addr} {fd : FuncData} (S : Std mg) (F : Fun K "is_integer" "is_integer" sIsInteger f fd) : FnOk P w K mg base CX0 1 f fd ["value"] spIsInt := by
  refine F.ok scIsI (fun vs H Q E h => ?_) (fun cdv A outer s H vs Q E hr h => ?_)
  · obtain ⟨i, rfl, _⟩ := h
    rfl
  · obtain ⟨i, rfl, q⟩ := h
    refine ⟨_, pss_one (ps_ret (pe_and (pe_callB call_isi (by rfl) S.isi (by decide +kernel) (pa_cons (pv 0) (pa_cons (pe_bltn (v := .ty "int") (by rfl) S.int (by decide +kernel) rfl) pa_nil)))
      (pe_one (pe_not (pe_callB call_isi (by rfl) S.isi (by decide +kernel) (pa_cons (pv 0) (pa_cons (pe_bltn (v := .ty "bool") (by rfl) S.bool (by decide +kernel) rfl) pa_nil))))))), ?_⟩
    exact ⟨_, rfl, _, _, _, _, true, rfl, .ty "int", .base (.int i), kit_ty (by decide +kernel), true, rfl, iteT ⟨_, rfl, _, _, _, _, false, rfl, .ty "bool", .base (.int i), kit_ty (by decide +kernel), false, rfl, q⟩⟩
theorem scStM : FnScope ["self", "other"] ["self", "other"] (defScope sStepMul) := ⟨rfl, rfl, rfl, by decide +kernel, rfl, by decide +kernel, by decide +kernel⟩
theorem ok_stMul {C0 C cS fI fJ f : Addr} {fdJ fd : FuncData} (S : Std mg) (M : ChM K mg C cS fI) (GI : FnR P w K mg base (L2N.CX P w) 4 fI (spChRaw K C0 cS C)) (J1 : Df K mg "_joined" sJoined fJ fdJ ["chain", "other"]) (GJ : FnOk P w K mg base (L2N.CX P w) 6 fJ fdJ ["chain", "other"] (spJoin K C0 C cS))
    (F : Fun K "__mul__" "Step.__mul__" sStepMul f fd) : FnOk P w K mg base (L2N.CX P w) 7 f fd ["self", "other"] (spStMul K C0 C cS) := by
  refine okN F scStM (fun vs H Q E h => ?_) (fun cdv A outer s H vs Q E hr h => ?_)
  · obtain ⟨a, z, w, g, y, tt, gs, rfl, _⟩ := h
    rfl
  · obtain ⟨a, z, w', g, y, tt, gs, rfl, ⟨dx, ha⟩, hw, hk, hb, few, qb, qg⟩ := h
    have rm5 : Room 5 _ := hr.mono (by decide)
    refine ⟨_, pss_cons (ps_if (pt_not (pt_val (pe_callB call_isiT (by rfl) S.isi (by decide +kernel) (pa_cons (pv 1) (pa_cons (pe_tup (pa_cons (pe_glob (v := .ref cS) rfl M.cT.g rfl) (pa_cons (pe_glob (v := .ref C) rfl M.c.g rfl) pa_nil))) pa_nil))))) (pss_one ps_never) pss_nil)
      (pss_one (ps_ret (pe_call GJ hr rfl J1.g J1.F.kp J1.b .nil (L2N.passes_call (L2N.takes_of rfl rfl rfl rfl) fun _ _ _ _ h => h) (pa_cons (StX.pe_makeR M.M GI rm5 rfl M.c.g (L2N.passes_call (L2N.takes_of rfl rfl rfl rfl) fun _ _ _ _ h => h) (pa_cons (pv 0) pa_nil)) (pa_cons (pv 1) pa_nil))))), ?_⟩
    refine ⟨_, rfl, (by show 2 ≤ sizeLine; decide), fun p hp => ?_⟩
    have s1 := same_new (o := .tup [V.ref cS, V.ref C]) hp
    have isa : ∃ t b1 b2, TyX K (upd H p (.tup [V.ref cS, V.ref C])) y t ∧ PySem.W.kitOne K t (.ref cS) = some b1 ∧ PySem.W.kitOne K t (.ref C) = some b2 ∧ (b1 || b2) = true := by
      rcases hb with ⟨b, rfl, ⟨db, pb, hb, _⟩, _⟩ | ⟨b, z, w', g, rfl, rfl, _, ⟨db, hb⟩, _⟩
      · exact ⟨_, false, true, M.c.ty (s1 _ _ hb), M.en, kit_self, rfl⟩
      · exact ⟨_, true, false, M.cT.ty (s1 _ _ hb), kit_self, M.ne, rfl⟩
    obtain ⟨t, b1, b2, ty, k1, k2, k3⟩ := isa
    refine ⟨_, p, _, _, _, _, rfl, upd_same, .cons (.own cS) (.cons (.own C) .nil), ty, kitA2 k1 k2, _, rfl, ?_⟩
    rw [k3]
    refine iteF ⟨_, rfl, ?_⟩
    intro x dx' nx nd ne
    dsimp only
    refine chain_made (R := fun x H2 => tCons (tVar 1) tNil (L2.start ["self", "other"] [V.ref a, y]) H2 fun xs H3 => spJoin K C0 C cS (V.ref x :: xs ++ []) H3 Q E) (gs := [g]) (one_lks (hk.same s1)) (by show 1 ≤ 1000; decide) (fun e => (qb (.inl (List.mem_singleton.mp e).symm)).same s1) (fun e c H1 s2 hc => ?_) x dx' nx nd ne
    have s12 := s1.trans s2
    have gt : g = true := by
      cases g with
      | true => rfl
      | false => exact (e (List.mem_singleton.mpr rfl)).elim
    exact ⟨_, rfl, c, y, [.ref a], tt, gs, rfl, hc, hb.same s12, by show 1 + tt.length ≤ 1000; omega, fun e => (qb (.inr e)).same s12, fun e b H' s' hb' => qg gt e b H' (s12.trans s') hb'⟩
theorem scStP : FnScope ["self", "other"] ["self", "other"] (defScope sStepPow) := ⟨rfl, rfl, rfl, by decide +kernel, rfl, by decide +kernel, by decide +kernel⟩
theorem ok_stPow {C0 C cS fI fJ fN f : Addr} {fdJ fdN fd : FuncData} (S : Std mg) (M : ChM K mg C cS fI) (GI : FnR P w K mg base (L2N.CX P w) 4 fI (spChRaw K C0 cS C)) (J1 : Df K mg "_repeated" sRepeated fJ fdJ ["chain", "count"]) (GJ : FnOk P w K mg base (L2N.CX P w) 6 fJ fdJ ["chain", "count"] (spRep K C cS))
    (N1 : Df K mg "is_integer" sIsInteger fN fdN ["value"]) (F : Fun K "__pow__" "Step.__pow__" sStepPow f fd) : FnOk P w K mg base (L2N.CX P w) 7 f fd ["self", "other"] (spStPow K C0 C cS) := by
  have GN : FnOk P w K mg base CX0 1 fN fdN ["value"] spIsInt := ok_isInt S N1.F
  refine okN F scStP (fun vs H Q E h => ?_) (fun cdv A outer s H vs Q E hr h => ?_)
  · obtain ⟨a, z, w, g, n, rfl, _⟩ := h
    rfl
  · obtain ⟨a, z, w', g, n, rfl, ⟨dx, ha⟩, hw, hk, n10, qb, qg⟩ := h
    have rm5 : Room 5 _ := hr.mono (by decide)
    have rm1 : Room 1 _ := hr.mono (by decide)
    refine ⟨_, pss_cons (ps_if (pt_not (pt_val (pe_call GN rm1 rfl N1.g N1.F.kp N1.b .nil pass0 (pa_cons (pv 1) pa_nil)))) (pss_one ps_never) pss_nil)
      (pss_one (ps_ret (pe_call GJ hr rfl J1.g J1.F.kp J1.b .nil (L2N.passes_call (L2N.takes_of rfl rfl rfl rfl) fun _ _ _ _ h => h) (pa_cons (StX.pe_makeR M.M GI rm5 rfl M.c.g (L2N.passes_call (L2N.takes_of rfl rfl rfl rfl) fun _ _ _ _ h => h) (pa_cons (pv 0) pa_nil)) (pa_cons (pv 1) pa_nil))))), ?_⟩
    refine ⟨_, rfl, n, rfl, _, rfl, iteF ⟨_, rfl, ?_⟩⟩
    intro x dx' nx nd ne
    dsimp only
    refine chain_made (R := fun x H2 => tCons (tVar 1) tNil (L2.start ["self", "other"] [V.ref a, V.int n]) H2 fun xs H3 => spRep K C cS (V.ref x :: xs ++ []) H3 Q E) (gs := [g]) (one_lks hk) (by show 1 ≤ 1000; decide) (fun e => qb (List.mem_singleton.mp e).symm) (fun e c H1 s2 hc => ?_) x dx' nx nd ne
    have gt : g = true := by
      cases g with
      | true => rfl
      | false => exact (e (List.mem_singleton.mpr rfl)).elim
    refine ⟨_, rfl, c, n, [.ref a], rfl, hc, n10, (by show 1 ≤ 60; decide), fun b H' s' hb' => qg gt b H' (s2.trans s') ?_⟩
    rw [flat_one4] at hb'
    exact hb'
theorem scChM : FnScope ["self", "other"] ["self", "other"] (defScope sChainMul) := ⟨rfl, rfl, rfl, by decide +kernel, rfl, by decide +kernel, by decide +kernel⟩
theorem ok_chMul {C0 C cS fI fJ f : Addr} {fdJ fd : FuncData} (S : Std mg) (M : ChM K mg C cS fI) (J1 : Df K mg "_joined" sJoined fJ fdJ ["chain", "other"]) (GJ : FnOk P w K mg base (L2N.CX P w) 6 fJ fdJ ["chain", "other"] (spJoin K C0 C cS))
    (F : Fun K "__mul__" "Chain.__mul__" sChainMul f fd) : FnOk P w K mg base (L2N.CX P w) 7 f fd ["self", "other"] (spJoin K C0 C cS) := by
  refine okN F scChM (fun vs H Q E h => ?_) (fun cdv A outer s H vs Q E hr h => ?_)
  · obtain ⟨a, y, ss, tt, gs, rfl, _⟩ := h
    rfl
  · obtain ⟨a, y, ss, tt, gs, rfl, hc, hb, few, qb, qg⟩ := h
    refine ⟨_, pss_cons (ps_if (pt_not (pt_val (pe_callB call_isiT (by rfl) S.isi (by decide +kernel) (pa_cons (pv 1) (pa_cons (pe_tup (pa_cons (pe_glob (v := .ref cS) rfl M.cT.g rfl) (pa_cons (pe_glob (v := .ref C) rfl M.c.g rfl) pa_nil))) pa_nil))))) (pss_one ps_never) pss_nil)
      (pss_one (ps_ret (pe_call GJ hr rfl J1.g J1.F.kp J1.b .nil (L2N.passes_call (L2N.takes_of rfl rfl rfl rfl) fun _ _ _ _ h => h) (pa_cons (pv 0) (pa_cons (pv 1) pa_nil))))), ?_⟩
    refine ⟨_, rfl, (by show 2 ≤ sizeLine; decide), fun p hp => ?_⟩
    have s1 := same_new (o := .tup [V.ref cS, V.ref C]) hp
    have isa : ∃ t b1 b2, TyX K (upd H p (.tup [V.ref cS, V.ref C])) y t ∧ PySem.W.kitOne K t (.ref cS) = some b1 ∧ PySem.W.kitOne K t (.ref C) = some b2 ∧ (b1 || b2) = true := by
      rcases hb with ⟨b, rfl, ⟨db, pb, hb, _⟩, _⟩ | ⟨b, z, w', g, rfl, rfl, _, ⟨db, hb⟩, _⟩
      · exact ⟨_, false, true, M.c.ty (s1 _ _ hb), M.en, kit_self, rfl⟩
      · exact ⟨_, true, false, M.cT.ty (s1 _ _ hb), kit_self, M.ne, rfl⟩
    obtain ⟨t, b1, b2, ty, k1, k2, k3⟩ := isa
    refine ⟨_, p, _, _, _, _, rfl, upd_same, .cons (.own cS) (.cons (.own C) .nil), ty, kitA2 k1 k2, _, rfl, ?_⟩
    rw [k3]
    exact iteF ⟨_, rfl, _, rfl, a, y, ss, tt, gs, rfl, hc.same s1, hb.same s1, few, fun e => (qb e).same s1, fun e b H' s' hb' => qg e b H' (s1.trans s') hb'⟩
theorem scChP : FnScope ["self", "other"] ["self", "other"] (defScope sChainPow) := ⟨rfl, rfl, rfl, by decide +kernel, rfl, by decide +kernel, by decide +kernel⟩
theorem ok_chPow {C cS fJ fN f : Addr} {fdJ fdN fd : FuncData} (S : Std mg) (J1 : Df K mg "_repeated" sRepeated fJ fdJ ["chain", "count"]) (GJ : FnOk P w K mg base (L2N.CX P w) 6 fJ fdJ ["chain", "count"] (spRep K C cS))
    (N1 : Df K mg "is_integer" sIsInteger fN fdN ["value"]) (F : Fun K "__pow__" "Chain.__pow__" sChainPow f fd) : FnOk P w K mg base (L2N.CX P w) 7 f fd ["self", "other"] (spRep K C cS) := by
  have GN : FnOk P w K mg base CX0 1 fN fdN ["value"] spIsInt := ok_isInt S N1.F
  refine okN F scChP (fun vs H Q E h => ?_) (fun cdv A outer s H vs Q E hr h => ?_)
  · obtain ⟨a, n, ss, rfl, _⟩ := h
    rfl
  · obtain ⟨a, n, ss, rfl, h⟩ := h
    have rm1 : Room 1 _ := hr.mono (by decide)
    refine ⟨_, pss_cons (ps_if (pt_not (pt_val (pe_call GN rm1 rfl N1.g N1.F.kp N1.b .nil pass0 (pa_cons (pv 1) pa_nil)))) (pss_one ps_never) pss_nil)
      (pss_one (ps_ret (pe_call GJ hr rfl J1.g J1.F.kp J1.b .nil (L2N.passes_call (L2N.takes_of rfl rfl rfl rfl) fun _ _ _ _ h => h) (pa_cons (pv 0) (pa_cons (pv 1) pa_nil))))), ?_⟩
    exact ⟨_, rfl, n, rfl, _, rfl, iteF ⟨_, rfl, _, rfl, a, n, ss, rfl, h⟩⟩
end
end LK

namespace LK
open PySem PySem.Spec PyProof.Rows L2 LR
/-! ### a chain called, its length, its text -/
/-- e is x under the steps ss, the first outermost -/
def Nest (K : PySem.W.Frag) (cE cS : Addr) : Hp → List V → V → V → Prop
  | _, [], x, e => e = x
  | H, s :: r, x, e => ∃ e' n, Nest K cE cS H r x e' ∧ ExP K cE cS H e "step" "" s [e'] n
theorem Nest.same {K : PySem.W.Frag} {cE cS : Addr} {H H' : Hp} (s : Same H H') : ∀ {ss : List V} {x e : V}, Nest K cE cS H ss x e → Nest K cE cS H' ss x e
  | [], _, _, h => h
  | _ :: _, _, _, ⟨e', n, h, ex⟩ => ⟨e', n, Nest.same s h, ex.same s⟩
def outsP (C2 : Addr) (E : XK) (H1 : Hp) : Prop := ∀ d H', Same H1 H' → H' d = some (.xd [("word", .str "part")]) → H1 d = none → E (.ref C2) (some d) H'
def spChCall (K : PySem.W.Frag) (C2 cE C cS : Addr) : Sp := fun vs H Q E => ∃ (a : Addr) (v : V) (ss : List V), vs = [.ref a, v] ∧ ChAt K C cS H a ss ∧ ss.length ≤ 20 ∧ AsEx K cE cS H v (fun x H1 => Same H H1 ∧ IsEx cE cS H1 (x, 1) ∧ ∀ e H2, Same H1 H2 → Nest K cE cS H2 ss x e → Q e H2) (fun H1 => outsP C2 E H1)
/-- the names of steps -/
def NmOf (cS : Addr) (H : Hp) (ss : List V) (zs : List Str) : Prop := ss.length = zs.length ∧ ∀ (i : Nat) v z, ss[i]? = some v → zs[i]? = some z → ∃ b y, v = .ref b ∧ StepAt cS H b z y
theorem NmOf.same {cS : Addr} {H H' : Hp} {ss : List V} {zs : List Str} (s : Same H H') (h : NmOf cS H ss zs) : NmOf cS H' ss zs := ⟨h.1, fun i v z a b => by
  obtain ⟨c, y, e, ⟨dx, hb⟩⟩ := h.2 i v z a b
  exact ⟨c, y, e, ⟨dx, s _ _ hb⟩⟩⟩
def spChLen (K : PySem.W.Frag) (C cS : Addr) : Sp := fun vs H Q _ => ∃ (a : Addr) (ss : List V), vs = [.ref a] ∧ ChAt K C cS H a ss ∧ ss.length ≤ 1000 ∧ Q (.int ss.length) H
def spChStr (K : PySem.W.Frag) (C cS : Addr) : Sp := fun vs H Q _ => ∃ (a : Addr) (ss : List V) (zs : List Str), vs = [.ref a] ∧ ChAt K C cS H a ss ∧ NmOf cS H ss zs ∧ ss.length ≤ 100 ∧ (∀ z ∈ zs, z.length ≤ 4) ∧ ∀ H', Same H H' → Q (.str (Txt.join " " zs)) H'
theorem sum_len {zs : List Str} (h : ∀ z ∈ zs, z.length ≤ 4) : (zs.map (fun x => x.length)).sum ≤ 4 * zs.length := by
  induction zs with
  | nil => exact Nat.le_refl _
  | cons z r ih =>
    have := h z List.mem_cons_self
    have := ih fun z hz => h z (List.mem_cons_of_mem _ hz)
    simp only [List.map_cons, List.sum_cons, List.length_cons]
    omega
section
variable {P : Program} {w : World} {K : PySem.W.Frag} {mg : Str → Option Value} {base : Heap}
def nCC : List Str := ["self", "part", "expr", "step"]
theorem scCC : FnScope nCC ["self", "part"] (defScope sChainCall) := ⟨rfl, rfl, rfl, by decide +kernel, rfl, by decide +kernel, by decide +kernel⟩
theorem ok_chCall {C2 cE C cS fP fA fI f : Addr} {fdP fdA fd : FuncData} (S : Std mg) (M : ChM K mg C cS fI) (P1 : Df K mg "part_expr" sPartExpr fP fdP ["value"]) (GP : FnOk P w K mg base (L2N.CX P w) 6 fP fdP ["value"] (spPartX K C2 cE cS)) (A1 : Df K mg "applied" sApplied fA fdA ["step", "parts"])
    (GA : FnOk P w K mg base CX0 4 fA fdA ["step", "parts"] (spApplied K cE cS)) (F : Fun K "__call__" "Chain.__call__" sChainCall f fd) : FnOk P w K mg base (L2N.CX P w) 7 f fd ["self", "part"] (spChCall K C2 cE C cS) := by
  refine okN F scCC (fun vs H Q E h => ?_) (fun cdv A outer s H vs Q E hr h => ?_)
  · obtain ⟨a, v, ss, rfl, _⟩ := h
    rfl
  · obtain ⟨a, v, ss, rfl, ⟨dx, p, ha, hp, hs⟩, few, h⟩ := h
    have rm4 : Room 4 _ := hr.mono (by decide)
    refine ⟨_, pss_cons (ps_set (i := 2) scCC.nd rfl (Or.inl rfl) (pe_call GP hr rfl P1.g P1.F.kp P1.b .nil (L2N.passes_call (L2N.takes_of rfl rfl rfl rfl) fun _ _ _ _ h => h) (pa_cons (pv 1) pa_nil)))
      (pss_cons (ps_for PassesOwn.leaving rfl (pi_tup (LR.pe_revT (pe_fld (pv 0) rfl))) (pg_name (i := 3) scCC.nd rfl (Or.inl rfl)) (pss_one (ps_set (i := 2) scCC.nd rfl (Or.inl rfl) (pe_call GA rm4 rfl A1.g A1.F.kp A1.b .nil pass0 (pa_cons (pv 3) (pa_cons (pe_lst (pa_cons (pv 2) pa_nil)) pa_nil))))))
      (pss_one (ps_ret (pv 2)))), ?_⟩
    refine ⟨_, rfl, v, rfl, h.map (fun x H1 s1 _ q => ?_) (fun H1 s1 q => q)⟩
    obtain ⟨_, hx, q⟩ := q
    refine ⟨_, rfl, a, C, dx, _, .ref p, rfl, s1 _ _ ha, M.c.cl, M.m, rfl, p, ss, rfl, SqT.of (s1 _ _ hp), fun r hr' => ?_⟩
    have s2 := same_new (o := .tup ss.reverse) hr'
    refine ⟨r, rfl, ⟨_, SqT.of upd_same⟩, for_tup (xs := ss.reverse) (fun i σ' H' => ∃ e o, σ' = [some (.ref a), some v, some e, o] ∧ Same (upd H1 r (.tup ss.reverse)) H' ∧ IsEx cE cS H' (e, 1 + i) ∧ Nest K cE cS H' (ss.drop (ss.length - i)) x e) ⟨x, none, rfl, Same.refl _, hx.same s2, ?_⟩ (fun i σ' H' _ h => ?_) (fun i u σ' H' hu h => ?_) (fun σ' H' h => ?_)⟩
    · rw [Nat.sub_zero, List.drop_length]
      rfl
    · obtain ⟨_, _, _, s3, _⟩ := h
      exact SqT.of (s3 _ _ upd_same)
    · obtain ⟨e, o, rfl, s3, he, nest⟩ := h
      have lt := (List.getElem?_eq_some_iff.mp hu).1
      rw [List.length_reverse] at lt
      rw [List.getElem?_reverse lt] at hu
      obtain ⟨b, z, y, rfl, ⟨db, hb⟩, _⟩ := hs u (List.mem_of_getElem? hu)
      have s13 := (s1.trans s2).trans s3
      refine ⟨_, rfl, _, rfl, (by show 1 ≤ sizeLine; decide), fun l hl => ?_⟩
      have s4 := same_new (o := .lst [e]) hl
      refine ⟨_, l, [(e, 1 + i)], rfl, ⟨b, z, y, rfl, ⟨db, s4 _ _ (s13 _ _ hb)⟩⟩, SqL.of upd_same, fun u hu => ?_, ?_, (by show 1 < 64; decide), fun e2 H2 s5 ex => ?_⟩
      · rw [List.mem_singleton.mp hu]
        exact he.same s4
      · have : tot [(e, 1 + i)] = 1 + i := by simp [tot]
        rw [this]
        omega
      · have t1 : tot [(e, 1 + i)] = 1 + i := by simp [tot]
        rw [t1] at ex
        refine ⟨e2, _, rfl, (s3.trans s4).trans s5, ?_, ?_⟩
        · rw [show 1 + (i + 1) = 1 + (1 + i) by omega]
          exact ex.is
        · have dl : ss.drop (ss.length - (i + 1)) = .ref b :: ss.drop (ss.length - i) := by
            have l2 : ss.length - (i + 1) < ss.length := by omega
            rw [List.drop_eq_getElem_cons l2]
            have e1 : ss[ss.length - (i + 1)] = V.ref b := by
              have := List.getElem?_eq_getElem l2
              rw [show ss.length - 1 - i = ss.length - (i + 1) by omega, this] at hu
              exact Option.some.inj hu
            rw [e1, show ss.length - (i + 1) + 1 = ss.length - i by omega]
          rw [dl]
          exact ⟨e, _, nest.same (s4.trans s5), ex⟩
    · obtain ⟨e, o, rfl, s3, he, nest⟩ := h
      rw [List.length_reverse, Nat.sub_self, List.drop_zero] at nest
      exact ⟨_, rfl, q e H' (s2.trans s3) nest⟩
theorem scCL : FnScope ["self"] ["self"] (defScope sChainLen) := ⟨rfl, rfl, rfl, by decide +kernel, rfl, by decide +kernel, by decide +kernel⟩
theorem ok_chLen {C cS f : Addr} {fd : FuncData} (S : Std mg) (cl : Cls K C) (m : NoAttr K C "steps") (F : Fun K "__len__" "Chain.__len__" sChainLen f fd) : FnOk P w K mg base CX0 1 f fd ["self"] (spChLen K C cS) := by
  refine F.ok scCL (fun vs H Q E h => ?_) (fun cdv A outer s H vs Q E hr h => ?_)
  · obtain ⟨a, ss, rfl, _⟩ := h
    rfl
  · obtain ⟨a, ss, rfl, ⟨dx, p, ha, hp, hs⟩, few, q⟩ := h
    exact ⟨_, pss_one (ps_ret (pe_callB call_len_seq (by rfl) S.len PySem.boot_len (pa_cons (pe_fld (pv 0) rfl) pa_nil))), _, rfl, a, C, dx, _, .ref p, rfl, ha, cl, m, rfl, p, ss, rfl, .inr (SqT.of hp), q⟩
theorem scCStr : FnScope ["self", "step"] ["self"] (defScope sChainStr) := ⟨rfl, rfl, rfl, by decide +kernel, rfl, by decide +kernel, by decide +kernel⟩
theorem ok_chStr {C cS f : Addr} {fd : FuncData} (S : Std mg) (cl : Cls K C) (m : NoAttr K C "steps") (clS : Cls K cS) (s1 : NoAttr K cS "name") (F : Fun K "__str__" "Chain.__str__" sChainStr f fd) : FnOk P w K mg base CX0 1 f fd ["self"] (spChStr K C cS) := by
  refine F.ok scCStr (fun vs H Q E h => ?_) (fun cdv A outer s H vs Q E hr h => ?_)
  · obtain ⟨a, ss, zs, rfl, _⟩ := h
    rfl
  · obtain ⟨a, ss, zs, rfl, ⟨dx, p, ha, hp, hs⟩, nm, few, z4, q⟩ := h
    refine ⟨_, pss_one (ps_ret (pe_join pe_str (pe_lc (own := [("step", 1)]) (g := gName 1) (tt := tYes) (te := tFld K (tVar 1) "name") rfl scCStr.nd (pi_tup (pe_fld (pv 0) rfl)) (blkOk_by (N := ["self", "step"]) (sc := defScope sChainStr) (by decide +kernel))
          (fun _ _ _ _ _ => pg_name (i := 1) scCStr.nd rfl (Or.inl rfl)) (fun _ _ _ _ _ => pts_nil) (fun _ _ _ _ _ => pe_fld (pv 1) rfl)))), ?_⟩
    refine ⟨⟨_, rfl⟩, _, rfl, a, C, dx, _, .ref p, rfl, ha, cl, m, rfl, p, rfl, ⟨_, SqT.of hp⟩, fun D hD => lc_tup (xs := ss) (fun i H4 => Same H H4 ∧ H4 D = some (.lst ((zs.take i).map V.str))) ⟨same_new hD, upd_same⟩ (fun i H4 _ h => SqT.of (h.1 _ _ hp)) (fun i v H4 hv h => ?_) (fun H4 h => ?_)⟩
    · obtain ⟨s4, d4⟩ := h
      have lt := (List.getElem?_eq_some_iff.mp hv).1
      have hz : zs[i]? = some (zs[i]'(by rw [← nm.1]; exact lt)) := List.getElem?_eq_getElem _
      generalize zs[i]'(by rw [← nm.1]; exact lt) = z at hz
      obtain ⟨b, y, rfl, ⟨db, hb⟩⟩ := nm.2 i v z hv hz
      refine ⟨rfl, _, rfl, b, cS, db, _, .str z, rfl, s4 _ _ hb, clS, s1, rfl, _, d4, by rw [List.length_map, List.length_take, sizeLine_eq]; omega, same_put hD s4, ?_⟩
      rw [upd_same, List.take_add_one, hz, List.map_append]
      rfl
    · obtain ⟨s4, d4⟩ := h
      rw [nm.1, List.take_length] at d4
      have l1 := sum_len z4
      have l2 := nm.1
      have o1 : (" " : Str).length = 1 := by decide +kernel
      exact ⟨_, D, zs, rfl, rfl, .inl (SqL.of d4), by rw [o1]; omega, q H4 s4⟩
end
end LK

namespace LK
open PySem PySem.Spec PyProof.Rows L2 LR
/-! ### things that are steps or are not -/
def El (K : PySem.W.Frag) (cS : Addr) (H : Hp) (v : V) : Option (Str × Str) → Prop
  | some zy => ∃ a, v = .ref a ∧ StepAt cS H a zy.1 zy.2 ∧ NameOk zy.1 ∧ WaysOk zy.2
  | none => ∃ t, TyX K H v t ∧ PySem.W.kitOne K t (.ref cS) = some false
def Els (K : PySem.W.Frag) (cS : Addr) (H : Hp) (xs : List V) (os : List (Option (Str × Str))) : Prop := xs.length = os.length ∧ ∀ (i : Nat) v o, xs[i]? = some v → os[i]? = some o → El K cS H v o
theorem El.same {K : PySem.W.Frag} {cS : Addr} {H H' : Hp} {v : V} {o : Option (Str × Str)} (s : Same H H') (h : El K cS H v o) : El K cS H' v o := by
  cases o with
  | none =>
    obtain ⟨t, ty, k⟩ := h
    exact ⟨t, TyX.same s ty, k⟩
  | some zy =>
    obtain ⟨a, e, q, z, y⟩ := h
    exact ⟨a, e, q.same s, z, y⟩
theorem Els.same {K : PySem.W.Frag} {cS : Addr} {H H' : Hp} {xs : List V} {os : List (Option (Str × Str))} (s : Same H H') (h : Els K cS H xs os) : Els K cS H' xs os := ⟨h.1, fun i v o e1 e2 => (h.2 i v o e1 e2).same s⟩
theorem Els.at {K : PySem.W.Frag} {cS : Addr} {H : Hp} {xs : List V} {os : List (Option (Str × Str))} (h : Els K cS H xs os) {i : Nat} {v : V} (hv : xs[i]? = some v) : ∃ o, os[i]? = some o ∧ El K cS H v o := by
  have lt := (List.getElem?_eq_some_iff.mp hv).1
  have e : os[i]? = some (os[i]'(by have := h.1; omega)) := List.getElem?_eq_getElem _
  exact ⟨_, e, h.2 i v _ hv e⟩
theorem El.isi {K : PySem.W.Frag} {mg : Str → Option Value} {cS : Addr} {H : Hp} {v : V} {o : Option (Str × Str)} (c : OwnCl K mg "Step" cS) (h : El K cS H v o) : ∃ t, TyX K H v t ∧ PySem.W.kitOne K t (.ref cS) = some o.isSome := by
  cases o with
  | none => exact h
  | some zy =>
    obtain ⟨a, rfl, ⟨dx, e⟩, _⟩ := h
    exact ⟨_, c.ty e, kit_self⟩
/-- one or two different steps -/
def areB (n : Nat) (os : List (Option (Str × Str))) : Bool := (os.length == n) && (os.all Option.isSome && ((n == 1) || !(os[0]? == os[1]?)))
def spAreB (K : PySem.W.Frag) (cS : Addr) : Sp := fun vs H Q _ => ∃ (p : Addr) (n : Nat) (xs : List V) (os : List (Option (Str × Str))), vs = [.ref p, .int n] ∧ (n = 1 ∨ n = 2) ∧ H p = some (.tup xs) ∧ Els K cS H xs os ∧ xs.length ≤ 20 ∧ ∀ H', Same H H' → Q (.bl (areB n os)) H'
theorem all_take {os : List (Option (Str × Str))} {i : Nat} {o : Option (Str × Str)} (h : os[i]? = some o) : (os.take (i + 1)).map Option.isSome = (os.take i).map Option.isSome ++ [o.isSome] := by
  rw [List.take_add_one, h, List.map_append]
  rfl
section
variable {P : Program} {w : World} {K : PySem.W.Frag} {mg : Str → Option Value} {base : Heap}
theorem ok_areB {cS f eS : Addr} {fd dS : FuncData} (S : Std mg) (c : OwnCl K mg "Step" cS) (n1 : NoAttr K cS "name") (n2 : NoAttr K cS "ways") (qS : EqM K cS sStepEq "Step.__eq__" eS dS) (ne : PySem.W.findIn K (.ref cS) "__ne__" = some (some (.builtin "object.__ne__")))
    (F : Fun K "_are_steps" "_are_steps" sAreSteps f fd) : FnOk P w K mg base CX0 3 f fd ["steps", "count"] (spAreB K cS) := by
  have GE : FnOk P w K mg base CX0 1 eS dS ["self", "other"] (spEqB K cS) := ok_stepEqB S c n1 n2 qS.F
  refine F.ok scAreSteps (fun vs H Q E h => ?_) (fun cdv A outer s H vs Q E hr h => ?_)
  · obtain ⟨p, n, xs, os, rfl, _⟩ := h
    rfl
  · obtain ⟨p, n, xs, os, rfl, hn, hp, he, h20, q⟩ := h
    refine ⟨_, pss_cons (ps_if (PW.pt (pw_or (pt_cmpR op_ne (pe_callB call_len_seq (by rfl) S.len PySem.boot_len (pa_cons (pv 0) pa_nil)) (pv 1) (nomark _))
          (pw_or1 (pt_not (pt_val (pe_callB (cr_all rfl) (by rfl) S.all (by decide +kernel) (pa_cons (pe_lc (own := [("step", 2)]) (g := gName 2) (tt := tYes) (te := tCB (rIsi K) (tCons (tVar 2) (tCons (tC (.ref cS)) tNil))) rfl scAreSteps.nd
            (pi_tup (pv 0)) (blkOk_by (N := ["steps", "count", "step"]) (sc := defScope sAreSteps) (by decide +kernel)) (fun _ _ _ _ _ => pg_name (i := 2) scAreSteps.nd rfl (Or.inl rfl)) (fun _ _ _ _ _ => pts_nil)
            (fun _ _ _ _ _ => pe_callB (id := "isinstance") call_isi (by rfl) S.isi (by decide +kernel) (pa_cons (pv 2) (pa_cons (pe_glob (v := .ref cS) rfl c.g rfl) pa_nil)))) pa_nil))))))) (pss_one (ps_ret pe_bl)) pss_nil)
      (pss_one (ps_ret (pe_or (pe_cmpR op_eq (pv 1) pe_int (nomark _)) (pe_one (pe_cmpR (op_neOwn GE qS.at_ qS.fn ne c.ob qS.b pass0 hr) (pe_ix ix_tup (pv 0) pe_int (fun _ _ => rfl)) (pe_ix ix_tup (pv 0) pe_int (fun _ _ => rfl)) (nomark _)))))), ?_⟩
    refine ⟨_, rfl, p, _, rfl, .inr (SqT.of hp), _, rfl, rfl, _, rfl, ?_⟩
    have le := he.1
    by_cases hl : os.length = n
    · have e1 : (V.int ((xs.length : Nat) : Int)) = V.int (n : Int) := by rw [le, hl]
      rw [decide_eq_true e1]
      refine iteF ?_
      refine ⟨_, rfl, p, rfl, ⟨_, SqT.of hp⟩, fun D hD => lc_tup (xs := xs) (fun i H4 => Keep D H H4 ∧ H4 D = some (.lst (((os.take i).map Option.isSome).map V.bl))) ⟨Keep.new hD, upd_same⟩ (fun i H4 _ h => SqT.of (h.1 _ _ (ne_of_none hp hD) hp)) (fun i v H4 hv h => ?_) (fun H4 h => ?_)⟩
      · obtain ⟨k4, d4⟩ := h
        obtain ⟨o, ho, el⟩ := he.at hv
        obtain ⟨t, ty, kt⟩ := El.isi c el
        have sD : Same (L2.del H4 D) H4 := fun b o e => by
          by_cases hb : b = D
          · rw [hb, del_same] at e
            cases e
          · rw [del_ne hb] at e
            exact e
        have sH : Same H H4 := fun b o e => k4 b o (ne_of_none e hD) e
        refine ⟨rfl, _, rfl, _, _, _, _, o.isSome, rfl, .own cS, TyX.same sH ty, kt, _, d4, ?_, fun b o n e => ?_, ?_⟩
        · rw [List.length_map, List.length_map, List.length_take]
          exact small1000 (by omega)
        · rw [upd_ne n]
          exact k4 b o n e
        · rw [upd_same, all_take ho, List.map_append]
          rfl
      · obtain ⟨k4, d4⟩ := h
        have sH : Same H H4 := fun b o e => k4 b o (ne_of_none e hD) e
        refine ⟨D, os.map Option.isSome, rfl, SqL.of (by rw [d4, le, List.take_length]), _, rfl, ?_⟩
        have hp4 := sH _ _ hp
        have ea : (os.map Option.isSome).all id = os.all Option.isSome := by rw [List.all_map]; rfl
        rw [ea]
        cases ha : os.all Option.isSome with
        | false =>
          refine iteT ?_
          have : areB n os = false := by
            unfold areB
            rw [ha, Bool.false_and, Bool.and_false]
          rw [← this]
          exact q _ sH
        | true =>
          refine iteF ?_
          refine ⟨_, rfl, rfl, _, rfl, ?_⟩
          rcases hn with rfl | rfl
          · rw [decide_eq_true (show V.int ((1 : Nat) : Int) = V.int 1 from rfl)]
            refine iteT ?_
            have : areB 1 os = true := by
              unfold areB
              rw [ha, hl]
              rfl
            rw [← this]
            exact q _ sH
          · rw [decide_eq_false (show ¬ V.int ((2 : Nat) : Int) = V.int 1 from fun e => by injection e with e; omega)]
            refine iteF ?_
            match os, hl, ha, he, q with
            | [some zy, some zy'], _, _, he, q =>
              match xs, he.1, he, hp4 with
              | [v0, v1], _, he, hp4 =>
                obtain ⟨a0, rfl, ⟨d0, h0⟩, _, _⟩ := (he.2 0 v0 (some zy) rfl rfl).same sH
                obtain ⟨a1, rfl, ⟨d1, h1⟩, _, _⟩ := (he.2 1 v1 (some zy') rfl rfl).same sH
                refine ⟨_, rfl, p, _, 0, .ref a0, rfl, rfl, SqT.of hp4, rfl, _, rfl, p, _, 1, .ref a1, rfl, rfl, SqT.of hp4, rfl, ?_⟩
                refine ⟨a0, d0, _, .ref cS, rfl, h0, c.ty h1, nf_own, a0, .ref a1, zy.1, zy.2, rfl, ⟨d0, h0⟩, .inl ⟨a1, zy'.1, zy'.2, rfl, ⟨d1, h1⟩, _, rfl, ?_⟩⟩
                have e : areB 2 [some zy, some zy'] = !(decide (zy.1 = zy'.1) && decide (zy.2 = zy'.2)) := by
                  obtain ⟨z, y⟩ := zy
                  obtain ⟨z', y'⟩ := zy'
                  unfold areB
                  simp only [List.length_cons, List.length_nil, List.all_cons, List.all_nil, Option.isSome_some, Bool.and_true, List.getElem?_cons_zero, List.getElem?_cons_succ]
                  by_cases hz : z = z'
                  · by_cases hy : y = y'
                    · simp [hz, hy]
                    · simp [hz, hy]
                  · simp [hz]
                rw [← e]
                exact q _ sH
            | [none, _], _, ha, _, _ => cases ha
            | [some _, none], _, ha, _, _ => cases ha
    · have e1 : ¬ (V.int ((xs.length : Nat) : Int)) = V.int (n : Int) := fun e => hl (by injection e with e; omega)
      rw [decide_eq_false e1]
      refine iteT ?_
      have : areB n os = false := by
        unfold areB
        rw [show (os.length == n) = false by simpa using hl, Bool.false_and]
      rw [← this]
      exact q _ fun _ _ e => e
end
end LK

namespace LK
open PySem PySem.Spec PyProof.Rows L2 LR
/-! ### steps compared, whatever the answer -/
def stepR (cS : Addr) : Addr → Addr → Bool → Hp → Prop := fun a b r H => ∃ z y z' y', StepAt cS H a z y ∧ StepAt cS H b z' y' ∧ r = (decide (z = z') && decide (y = y'))
def DStep (cS : Addr) : EqvB := DInsB cS (stepR cS)
theorem mon_step {cS : Addr} : MonB (DStep cS) := mon_insB fun a b r H H' e h => by
  obtain ⟨z, y, z', y', h1, h2, e'⟩ := h
  exact ⟨z, y, z', y', h1.same e, h2.same e, e'⟩
theorem StepAt.inj {C : Addr} {H : Hp} {a : Addr} {z y z' y' : Str} (h : StepAt C H a z y) (h' : StepAt C H a z' y') : z = z' ∧ y = y' := by
  obtain ⟨d, h⟩ := h
  obtain ⟨d', h'⟩ := h'
  rw [h] at h'
  injection h' with h'
  injection h' with _ _ h'
  injection h' with h1 h2
  injection h2 with h2 _
  injection h1 with _ h1
  injection h2 with _ h2
  injection h1 with h1
  injection h2 with h2
  exact ⟨h1, h2⟩
theorem eqGB_step {X : Cx} {eS : Addr} {dS : FuncData} {cS : Addr} (S : Std X.mg) (c : OwnCl X.K X.mg "Step" cS) (n1 : NoAttr X.K cS "name") (n2 : NoAttr X.K cS "ways") (qS : EqM X.K cS sStepEq "Step.__eq__" eS dS) : EqGB X 1 (DStep cS) := by
  have G : FnOk X.prog X.w X.K X.mg X.base CX0 1 eS dS ["self", "other"] (spEqR (stepR cS)) := (ok_stepEqB S c n1 n2 qS.F).imp fun vs H Q E h => by
    obtain ⟨a, b, r, rfl, ⟨z, y, z', y', h1, h2, rfl⟩, q⟩ := h
    exact ⟨a, .ref b, z, y, rfl, h1, .inl ⟨b, z', y', rfl, h2, q H Ext.rfl'⟩⟩
  refine RcGB.eqG (rcGB_ins G qS.at_ qS.fn qS.b pass0) fun x y r H d => ?_
  obtain ⟨a, b, _, _, _, _, hx, hy, _, _, z, w, z', w', h1, h2, hr⟩ := d
  refine ⟨a, b, hx, hy, fun e => ?_⟩
  subst e
  obtain ⟨rfl, rfl⟩ := h1.inj h2
  rw [hr]
  simp
theorem ans_dec {α : Type} [DecidableEq α] {as bs : List α} {xs ys : List V} (h1 : xs.length = as.length) (h2 : ys.length = bs.length) {f : Nat → Bool} (hf : ∀ (i : Nat) a b, as[i]? = some a → bs[i]? = some b → f i = decide (a = b)) : ansB xs ys f = decide (as = bs) := by
  by_cases h : as = bs
  · subst h
    rw [decide_eq_true rfl, ansB_yes]
    · simp [h1, h2]
    · intro i l1 l2
      rw [hf i _ _ (List.getElem?_eq_getElem (by omega)) (List.getElem?_eq_getElem (by omega))]
      exact decide_eq_true rfl
  · rw [decide_eq_false h]
    by_cases hl : as.length = bs.length
    · have : ∃ i, i < as.length ∧ as[i]? ≠ bs[i]? := by
        refine Classical.byContradiction fun no => h (List.ext_getElem? fun i => ?_)
        by_cases hi : i < as.length
        · exact Classical.byContradiction fun q => no ⟨i, hi, q⟩
        · rw [List.getElem?_eq_none (by omega), List.getElem?_eq_none (by omega)]
      obtain ⟨i, hi, hne⟩ := this
      refine ansB_no (i := i) (by omega) (by omega) ?_
      rw [hf i _ _ (List.getElem?_eq_getElem hi) (List.getElem?_eq_getElem (by omega))]
      refine decide_eq_false fun e => hne ?_
      rw [List.getElem?_eq_getElem hi, List.getElem?_eq_getElem (by omega), e]
    · unfold ansB
      rw [show (xs.length == ys.length) = false by simp [h1, h2, hl], Bool.and_false]
def zyEq (zs zs' : List (Str × Str)) (i : Nat) : Bool := match zs[i]?, zs'[i]? with
  | some a, some b => decide (a.1 = b.1) && decide (a.2 = b.2)
  | _, _ => false
theorem zyEq_of {zs zs' : List (Str × Str)} {i : Nat} {a b : Str × Str} (h : zs[i]? = some a) (h' : zs'[i]? = some b) : zyEq zs zs' i = (decide (a.1 = b.1) && decide (a.2 = b.2)) := by
  unfold zyEq
  rw [h, h']
theorem zy_dec {a b : Str × Str} : (decide (a.1 = b.1) && decide (a.2 = b.2)) = decide (a = b) := by
  obtain ⟨x, y⟩ := a
  obtain ⟨x', y'⟩ := b
  by_cases h : x = x'
  · by_cases h' : y = y'
    · simp [h, h']
    · simp [h, h']
  · simp [h]
theorem els_prs {K : PySem.W.Frag} {cS : Addr} {H : Hp} {xs ys : List V} {zs zs' : List (Str × Str)} (h : Els K cS H xs (zs.map some)) (h' : Els K cS H ys (zs'.map some)) : PrsB (DStep cS) xs ys (zyEq zs zs') H ∧ ansB xs ys (zyEq zs zs') = decide (zs = zs') := by
  have l1 : xs.length = zs.length := by have := h.1; rwa [List.length_map] at this
  have l2 : ys.length = zs'.length := by have := h'.1; rwa [List.length_map] at this
  refine ⟨fun i x y e1 e2 => ?_, ans_dec l1 l2 fun i a b ha hb => by rw [zyEq_of ha hb, zy_dec]⟩
  have i1 := (List.getElem?_eq_some_iff.mp e1).1
  have i2 := (List.getElem?_eq_some_iff.mp e2).1
  have g1 : zs[i]? = some (zs[i]'(by omega)) := List.getElem?_eq_getElem _
  have g2 : zs'[i]? = some (zs'[i]'(by omega)) := List.getElem?_eq_getElem _
  obtain ⟨a, rfl, ⟨da, ha⟩, _⟩ := h.2 i x (some (zs[i]'(by omega))) e1 (by rw [List.getElem?_map, g1]; rfl)
  obtain ⟨b, rfl, ⟨db, hb⟩, _⟩ := h'.2 i y (some (zs'[i]'(by omega))) e2 (by rw [List.getElem?_map, g2]; rfl)
  exact ⟨a, b, da, db, _, _, rfl, rfl, ha, hb, _, _, _, _, ⟨da, ha⟩, ⟨db, hb⟩, zyEq_of g1 g2⟩
end LK

namespace LK
open PySem PySem.Spec PyProof.Rows L2 LR
/-! ### chains compared -/
/-- a chain of the steps of these names and ways -/
def ChZ (K : PySem.W.Frag) (C cS : Addr) (H : Hp) (a : Addr) (ss : List V) (zs : List (Str × Str)) : Prop := ChAt K C cS H a ss ∧ Els K cS H ss (zs.map some)
theorem ChZ.same {K : PySem.W.Frag} {C cS : Addr} {H H' : Hp} {a : Addr} {ss : List V} {zs : List (Str × Str)} (s : Same H H') (h : ChZ K C cS H a ss zs) : ChZ K C cS H' a ss zs := ⟨h.1.same s, h.2.same s⟩
/-- steps have names and ways -/
theorem els_of {K : PySem.W.Frag} {cS : Addr} {H : Hp} : ∀ {ss : List V}, (∀ v ∈ ss, L1 cS H v) → ∃ zs : List (Str × Str), Els K cS H ss (zs.map some)
  | [], _ => ⟨[], rfl, fun i v o h => nomatch h⟩
  | s :: r, g => by
    obtain ⟨zs, l, h⟩ := els_of (K := K) fun v hv => g v (List.mem_cons_of_mem _ hv)
    obtain ⟨b, z, y, e, st, no, wo, _⟩ := g s List.mem_cons_self
    refine ⟨(z, y) :: zs, by rw [List.map_cons, List.length_cons, List.length_cons, l], fun i v o h1 h2 => ?_⟩
    cases i with
    | zero =>
      cases h1
      cases h2
      exact ⟨b, e, st, no, wo⟩
    | succ i => exact h i v o h1 h2
theorem nm_of {K : PySem.W.Frag} {cS : Addr} {H : Hp} {ss : List V} {zs : List (Str × Str)} (h : Els K cS H ss (zs.map some)) : NmOf cS H ss (zs.map fun e => e.1) := by
  refine ⟨by rw [List.length_map, h.1, List.length_map], fun i v z h1 h2 => ?_⟩
  rw [List.getElem?_map] at h2
  obtain ⟨e, he, rfl⟩ := Option.map_eq_some_iff.mp h2
  obtain ⟨b, eb, st, _⟩ := h.2 i v (some e) h1 (by rw [List.getElem?_map, he]; rfl)
  exact ⟨b, e.2, eb, st⟩
def spChEq (K : PySem.W.Frag) (C cS : Addr) : Sp := fun vs H Q _ => ∃ (a : Addr) (y : V) (ss : List V) (zs : List (Str × Str)), vs = [.ref a, y] ∧ ChZ K C cS H a ss zs ∧ ((∃ b tt zs', y = .ref b ∧ ChZ K C cS H b tt zs' ∧ ∀ H', Same H H' → Q (.bl (decide (zs = zs'))) H') ∨ ∃ t, TyX K H y t ∧ PySem.W.kitOne K t (.ref C) = some false ∧ Q (.bl false) H)
section
variable {P : Program} {w : World} {K : PySem.W.Frag} {mg : Str → Option Value} {base : Heap}
theorem scCEq : FnScope ["self", "other"] ["self", "other"] (defScope sChainEq) := ⟨rfl, rfl, rfl, by decide +kernel, rfl, by decide +kernel, by decide +kernel⟩
theorem ok_chEq {C cS eS fI f : Addr} {dS fd : FuncData} (S : Std mg) (M : ChM K mg C cS fI) (s1 : NoAttr K cS "name") (s2 : NoAttr K cS "ways") (qS : EqM K cS sStepEq "Step.__eq__" eS dS) (F : Fun K "__eq__" "Chain.__eq__" sChainEq f fd) : FnOk P w K mg base CX0 3 f fd ["self", "other"] (spChEq K C cS) := by
  refine F.ok scCEq (fun vs H Q E h => ?_) (fun cdv A outer s H vs Q E hr h => ?_)
  · obtain ⟨a, y, ss, zs, rfl, _⟩ := h
    rfl
  · obtain ⟨a, y, ss, zs, rfl, ⟨⟨dx, p, ha, hp, hs⟩, he⟩, h⟩ := h
    refine ⟨_, pss_one (ps_ret (pe_and (pe_callB call_isi (by rfl) S.isi (by decide +kernel) (pa_cons (pv 1) (pa_cons (pe_glob (v := .ref C) rfl M.c.g rfl) pa_nil)))
      (pe_one (pe_cmpR (op_eqGB (rcGB_tup mon_step (eqGB_step (X := (cxOf CX0 P w K mg base ["self", "other"] "Chain.__eq__" (defScope sChainEq) f cdv A outer s H E).nox) S M.cT s1 s2 qS)) hr) (pe_fld (pv 0) rfl) (pe_fld (pv 1) rfl) (nomark _))))), ?_⟩
    rcases h with ⟨b, tt, zs', rfl, ⟨⟨dy, p', hb, hp', hs'⟩, he'⟩, q⟩ | ⟨t, ty, kt, q⟩
    · refine ⟨_, rfl, _, _, _, _, true, rfl, .own C, M.c.ty hb, kit_self, true, rfl, iteT ?_⟩
      refine ⟨_, rfl, a, C, dx, _, .ref p, rfl, ha, M.c.cl, M.m, rfl, _, rfl, b, C, dy, _, .ref p', rfl, hb, M.c.cl, M.m, rfl, ?_⟩
      obtain ⟨pr, an⟩ := els_prs he he'
      refine ⟨_, ⟨p, p', ss, tt, _, rfl, rfl, SqT.of hp, SqT.of hp', pr, rfl⟩, fun H' e => ?_⟩
      rw [an]
      exact q H' e
    · exact ⟨_, rfl, _, _, _, _, false, rfl, .own C, ty, kt, false, rfl, iteF q⟩
end
end LK

namespace LK
open PySem PySem.Spec PyProof.Rows L2 LR
/-! ### the law: powers, chains of a list, steps drawn -/
/-- a chain, or a step that counts as one -/
def Pow0 (K : PySem.W.Frag) (C cS : Addr) (H : Hp) (a : Addr) (ss : List V) : Prop := ChAt K C cS H a ss ∨ (ss = [.ref a] ∧ L1 cS H (.ref a))
theorem Pow0.same {K : PySem.W.Frag} {C cS : Addr} {H H' : Hp} {a : Addr} {ss : List V} (s : Same H H') (h : Pow0 K C cS H a ss) : Pow0 K C cS H' a ss := h.imp (ChAt.same s) fun ⟨e, l⟩ => ⟨e, l.same s⟩
def spPower (K : PySem.W.Frag) (C cS : Addr) : Sp := fun vs H Q _ => ∃ (a : Addr) (n : Nat) (ss : List V), vs = [.ref a, .int n] ∧ Pow0 K C cS H a ss ∧ n ≤ 8 ∧ ss.length ≤ 60 ∧ ∀ b H', Same H H' → ChAt K C cS H' b (List.replicate n ss).flatten → Q (.ref b) H'
/-- what is asked of the operators -/
structure ChOps (K : PySem.W.Frag) (mg : Str → Option Value) (C cS fI mS mC pS pC : Addr) (gS gC hS hC : FuncData) : Prop where
  M : ChM K mg C cS fI
  ms : MOp K cS mS .Mult
  mc : MOp K C mC .Mult
  ps : MOp K cS pS .Pow
  pc : MOp K C pC .Pow
  bs : Binds K gS ["self", "other"] []
  bc : Binds K gC ["self", "other"] []
  cs : Binds K hS ["self", "other"] []
  cc : Binds K hC ["self", "other"] []
  ne : (cS == C) = false
  en : (C == cS) = false
  u1 : PySem.W.subIn K (.ref C) (.ref cS) = some false
  u2 : PySem.W.subIn K (.ref cS) (.ref C) = some false
  i1 : PySem.W.subIn K (.type "int") (.ref cS) = some false
  i2 : PySem.W.subIn K (.type "int") (.ref C) = some false
  p1 : ∃ fo, PySem.W.findIn K (.type "int") (PySem.dunder Operator.Pow.info.2) = some fo
  p2 : ∃ ro, PySem.W.findIn K (.type "int") (dunderR Operator.Pow.info.2) = some ro
/-- thing ** number -/
def rPow (K : PySem.W.Frag) (C0 C cS : Addr) (E : L2.St → XK) : RS := fun σ x y H Q => (AnIns cS H x ∧ (∃ i, y = V.int i) ∧ spStPow K C0 C cS [x, y] H (fun v H' => (∃ r, v = V.ref r) ∧ Q v H') (E σ)) ∨ (AnIns C H x ∧ (∃ i, y = V.int i) ∧ spRep K C cS [x, y] H (fun v H' => (∃ r, v = V.ref r) ∧ Q v H') (E σ))
theorem pow_read {K : PySem.W.Frag} {C0 C cS : Addr} {E : L2.St → XK} {σ : L2.St} {H : Hp} {a : Addr} {ss : List V} {n : Nat} {Q : VK} (h : Pow0 K C cS H a ss) (hn : n ≤ 10) (l : ss.length ≤ 60) (q : ∀ b H', Same H H' → ChAt K C cS H' b (List.replicate n ss).flatten → Q (.ref b) H') : rPow K C0 C cS E σ (.ref a) (.int (n : Nat)) H Q := by
  rcases h with ⟨dx, p, ha, hp, hs⟩ | ⟨rfl, l1⟩
  · exact .inr ⟨⟨a, dx, _, rfl, ha⟩, ⟨_, rfl⟩, a, n, ss, rfl, ⟨dx, p, ha, hp, hs⟩, hn, l, fun b H' s c => ⟨⟨b, rfl⟩, q b H' s c⟩⟩
  · have l1' := l1
    obtain ⟨b, z, y, e, ⟨dx, hb⟩, no, wo, hy⟩ := l1
    cases e
    exact .inl ⟨⟨a, dx, _, rfl, hb⟩, ⟨_, rfl⟩, a, z, y, true, n, rfl, ⟨dx, hb⟩, by omega, .inl ⟨rfl, l1'⟩, hn, (fun e => nomatch e), fun _ b H' s c => ⟨⟨b, rfl⟩, q b H' s (by rw [flat_one4]; exact c)⟩⟩
theorem op_pow {X : Cx} {C0 C cS fI mS mC pS pC : Addr} {gS gC hS hC : FuncData} {E : L2.St → XK} (O : ChOps X.K X.mg C cS fI mS mC pS pC gS gC hS hC) (GS : FnOk X.prog X.w X.K X.mg X.base (L2N.CX X.prog X.w) 7 pS hS ["self", "other"] (spStPow X.K C0 C cS))
    (GC : FnOk X.prog X.w X.K X.mg X.base (L2N.CX X.prog X.w) 7 pC hC ["self", "other"] (spRep X.K C cS)) (out : ∀ σ, PassesAt (L2N.CX X.prog X.w) X σ (E σ)) (hr : Room 7 X.A) : OpRS X (binaryOp .Pow) (rPow X.K C0 C cS E) := by
  obtain ⟨fo, e1⟩ := O.p1
  obtain ⟨ro, e2⟩ := O.p2
  exact OpRS.or (op_num GS O.ps e1 e2 O.i1 O.cs out hr) (op_num GC O.pc e1 e2 O.i2 O.cc out hr)
def spLChain (K : PySem.W.Frag) (C0 C cS : Addr) : Sp := fun vs H Q E => ∃ (l : Addr) (xs : List V) (gs : List Bool), vs = [.ref l] ∧ H l = some (.lst xs) ∧ xs.length ≤ 3 ∧ Lks K cS H xs gs ∧ (false ∈ gs → outsC C0 E H) ∧ (false ∉ gs → ∀ a H', Same H H' → ChAt K C cS H' a xs → Q (.ref a) H')
section
variable {P : Program} {w : World} {K : PySem.W.Frag} {mg : Str → Option Value} {base : Heap}
theorem scPw : FnScope ["_law_thing", "_law_many"] ["_law_thing", "_law_many"] (defScope sPower) := ⟨rfl, rfl, rfl, by decide +kernel, rfl, by decide +kernel, by decide +kernel⟩
theorem ok_power {C0 C cS fI mS mC pS pC f : Addr} {gS gC hS hC fd : FuncData} (S : Std mg) (O : ChOps K mg C cS fI mS mC pS pC gS gC hS hC) (GS : FnOk P w K mg base (L2N.CX P w) 7 pS hS ["self", "other"] (spStPow K C0 C cS)) (GC : FnOk P w K mg base (L2N.CX P w) 7 pC hC ["self", "other"] (spRep K C cS))
    (F : Fun K "_law_power" "_law_power" sPower f fd) : FnOk P w K mg base CX0 8 f fd ["_law_thing", "_law_many"] (spPower K C cS) := by
  refine F.ok scPw (fun vs H Q E h => ?_) (fun cdv A outer s H vs Q E hr h => ?_)
  · obtain ⟨a, n, ss, rfl, _⟩ := h
    rfl
  · obtain ⟨a, n, ss, rfl, hc, n8, l60, q⟩ := h
    have OP := op_pow (X := (cxOf CX0 P w K mg base ["_law_thing", "_law_many"] "_law_power" (defScope sPower) f cdv A outer s H E).nox) (E := fun _ _ _ _ => False) O GS GC (fun σ => L2N.passAt tk0 σ) hr
    refine ⟨_, pss_cons (ps_if (pt_cmpR op_lt (pv 1) pe_int (nomark _)) (pss_one (ps_ret (pe_ix ix_list (pe_lst (pa_cons (pe_opS OP (pv 0) pe_int) (pa_cons (pe_opS OP (pv 0) pe_int) (pa_cons (pe_opS OP (pv 0) pe_int) pa_nil)))) (pv 1) (fun _ _ => rfl)))) pss_nil)
      (pss_cons (ps_if (pt_cmpR op_lt (pv 1) pe_int (nomark _)) (pss_one (ps_ret (pe_ix ix_list (pe_lst (pa_cons (pe_opS OP (pv 0) pe_int) (pa_cons (pe_opS OP (pv 0) pe_int) (pa_cons (pe_opS OP (pv 0) pe_int) pa_nil)))) (pe_op op_sub (pv 1) pe_int) (fun _ _ => rfl)))) pss_nil)
      (pss_one (ps_ret (pe_ix ix_list (pe_lst (pa_cons (pe_opS OP (pv 0) pe_int) (pa_cons (pe_opS OP (pv 0) pe_int) (pa_cons (pe_opS OP (pv 0) pe_int) pa_nil)))) (pe_op op_sub (pv 1) pe_int) (fun _ _ => rfl))))), ?_⟩
    -- three powers made, one taken
    have three : ∀ (σ : L2.St) (b : Nat) (R : VK), b ≤ 6 → σ[0]? = some (some (.ref a)) → (∀ l (xs : List V) H', Same H H' → H' l = some (.lst xs) → xs.length = 3 → (∀ i v, xs[i]? = some v → ∃ c, v = .ref c ∧ ChAt K C cS H' c (List.replicate (b + i) ss).flatten) → R (.ref l) H') →
        tLst (tCons (tOpS (rPow K C0 C cS fun _ _ _ _ => False) (tVar 0) (tC (.int (b : Nat)))) (tCons (tOpS (rPow K C0 C cS fun _ _ _ _ => False) (tVar 0) (tC (.int ((b + 1 : Nat) : Int)))) (tCons (tOpS (rPow K C0 C cS fun _ _ _ _ => False) (tVar 0) (tC (.int ((b + 2 : Nat) : Int)))) tNil))) σ H R := fun σ b R hb hσ key => by
      refine ⟨_, hσ, ?_⟩
      show rPow K C0 C cS (fun _ _ _ _ => False) σ (.ref a) (.int (b : Nat)) H _
      refine pow_read hc (by omega) l60 fun c1 H1 s1 h1 => ⟨_, hσ, ?_⟩
      show rPow K C0 C cS (fun _ _ _ _ => False) σ (.ref a) (.int ((b + 1 : Nat) : Int)) H1 _
      refine pow_read (hc.same s1) (by omega) l60 fun c2 H2 s2 h2 => ⟨_, hσ, ?_⟩
      show rPow K C0 C cS (fun _ _ _ _ => False) σ (.ref a) (.int ((b + 2 : Nat) : Int)) H2 _
      refine pow_read ((hc.same s1).same s2) (by omega) l60 fun c3 H3 s3 h3 => ⟨(by show 3 ≤ sizeLine; decide), fun l hl => ?_⟩
      have s4 := same_new (o := .lst [V.ref c1, .ref c2, .ref c3]) hl
      refine key l [.ref c1, .ref c2, .ref c3] _ (((s1.trans s2).trans s3).trans s4) upd_same rfl fun i v hv => ?_
      match i with
      | 0 =>
        cases hv
        exact ⟨c1, rfl, h1.same ((s2.trans s3).trans s4)⟩
      | 1 =>
        cases hv
        exact ⟨c2, rfl, h2.same (s3.trans s4)⟩
      | 2 =>
        cases hv
        exact ⟨c3, rfl, h3.same s4⟩
      | k + 3 => simp at hv
    refine ⟨_, rfl, _, _, rfl, rfl, _, rfl, ?_⟩
    by_cases c3 : (n : Int) < 3
    · rw [decide_eq_true c3]
      refine iteT ?_
      dsimp only [tRet, tOp]
      refine three _ 0 _ (by omega) rfl fun l xs H' s' hl lx g => ?_
      have hv : xs[n]? = some (xs[n]'(by omega)) := List.getElem?_eq_getElem _
      obtain ⟨c, e, hc'⟩ := g n _ hv
      rw [Nat.zero_add] at hc'
      refine ⟨_, rfl, l, xs, n, _, rfl, rfl, SqL.of hl, at_of (j := n) rfl hv, ?_⟩
      rw [e]
      exact q c H' s' hc'
    · rw [decide_eq_false c3]
      refine iteF ⟨_, rfl, _, _, rfl, rfl, _, rfl, ?_⟩
      by_cases c6 : (n : Int) < 6
      · rw [decide_eq_true c6]
        refine iteT ?_
        dsimp only [tRet, tOp]
        refine three _ 3 _ (by omega) rfl fun l xs H' s' hl lx g => ?_
        have hv : xs[n - 3]? = some (xs[n - 3]'(by omega)) := List.getElem?_eq_getElem _
        obtain ⟨c, e, hc'⟩ := g (n - 3) _ hv
        rw [show 3 + (n - 3) = n by omega] at hc'
        refine ⟨_, rfl, _, _, rfl, rfl, l, xs, (n : Int) - 3, _, rfl, rfl, SqL.of hl, at_of (j := n - 3) (by omega) hv, ?_⟩
        rw [e]
        exact q c H' s' hc'
      · rw [decide_eq_false c6]
        refine iteF ?_
        dsimp only [tNext, tRet, tOp]
        refine three _ 6 _ (by omega) rfl fun l xs H' s' hl lx g => ?_
        have hv : xs[n - 6]? = some (xs[n - 6]'(by omega)) := List.getElem?_eq_getElem _
        obtain ⟨c, e, hc'⟩ := g (n - 6) _ hv
        rw [show 6 + (n - 6) = n by omega] at hc'
        refine ⟨_, rfl, _, _, rfl, rfl, l, xs, (n : Int) - 6, _, rfl, rfl, SqL.of hl, at_of (j := n - 6) (by omega) hv, ?_⟩
        rw [e]
        exact q c H' s' hc'
theorem scLCh : FnScope ["_law_some"] ["_law_some"] (defScope sLChain) := ⟨rfl, rfl, rfl, by decide +kernel, rfl, by decide +kernel, by decide +kernel⟩
theorem ok_lChain {C0 C cS fI f : Addr} {fd : FuncData} (S : Std mg) (M : ChM K mg C cS fI) (GI : FnR P w K mg base (L2N.CX P w) 4 fI (spChRaw K C0 cS C)) (F : Fun K "_law_chain" "_law_chain" sLChain f fd) : FnOk P w K mg base (L2N.CX P w) 6 f fd ["_law_some"] (spLChain K C0 C cS) := by
  refine okN F scLCh (fun vs H Q E h => ?_) (fun cdv A outer s H vs Q E hr h => ?_)
  · obtain ⟨l, xs, gs, rfl, _⟩ := h
    rfl
  · obtain ⟨l, xs, gs, rfl, hl, few, hk, qb, qg⟩ := h
    have out : Passes (L2N.CX P w) (cxOf (L2N.CX P w) P w K mg base ["_law_some"] "_law_chain" (defScope sLChain) f cdv A outer s H E) E := L2N.passes_call (L2N.takes_of rfl rfl rfl rfl) fun _ _ _ _ h => h
    refine ⟨_, pss_cons (ps_if (pt_cmpR op_eq (pe_callB call_len_seq (by rfl) S.len PySem.boot_len (pa_cons (pv 0) pa_nil)) pe_int (nomark _)) (pss_one (ps_ret (LR.pe_make0 M.M GI hr rfl M.c.g out))) pss_nil)
      (pss_cons (ps_if (pt_cmpR op_eq (pe_callB call_len_seq (by rfl) S.len PySem.boot_len (pa_cons (pv 0) pa_nil)) pe_int (nomark _)) (pss_one (ps_ret (StX.pe_makeR M.M GI hr rfl M.c.g out (pa_cons (pe_ix ix_list (pv 0) pe_int (fun _ _ => rfl)) pa_nil)))) pss_nil)
      (pss_cons (ps_if (pt_cmpR op_eq (pe_callB call_len_seq (by rfl) S.len PySem.boot_len (pa_cons (pv 0) pa_nil)) pe_int (nomark _)) (pss_one (ps_ret (StX.pe_makeR M.M GI hr rfl M.c.g out (pa_cons (pe_ix ix_list (pv 0) pe_int (fun _ _ => rfl)) (pa_cons (pe_ix ix_list (pv 0) pe_int (fun _ _ => rfl)) pa_nil))))) pss_nil)
      (pss_one (ps_ret (StX.pe_makeR M.M GI hr rfl M.c.g out (pa_cons (pe_ix ix_list (pv 0) pe_int (fun _ _ => rfl)) (pa_cons (pe_ix ix_list (pv 0) pe_int (fun _ _ => rfl)) (pa_cons (pe_ix ix_list (pv 0) pe_int (fun _ _ => rfl)) pa_nil)))))))), ?_⟩
    have all := chain_made (R := fun a H' => Q (.ref a) H') hk (by omega) qb qg
    match xs, few with
    | [], _ => exact ⟨_, rfl, l, [], rfl, .inl (SqL.of hl), rfl, _, rfl, iteT all⟩
    | [x], _ => exact ⟨_, rfl, l, [x], rfl, .inl (SqL.of hl), rfl, _, rfl, iteF ⟨_, rfl, l, [x], rfl, .inl (SqL.of hl), rfl, _, rfl, iteT ⟨_, rfl, l, _, 0, x, rfl, rfl, SqL.of hl, at_of (j := 0) rfl rfl, all⟩⟩⟩
    | [x, y], _ => exact ⟨_, rfl, l, [x, y], rfl, .inl (SqL.of hl), rfl, _, rfl, iteF ⟨_, rfl, l, [x, y], rfl, .inl (SqL.of hl), rfl, _, rfl, iteF ⟨_, rfl, l, [x, y], rfl, .inl (SqL.of hl), rfl, _, rfl, iteT ⟨_, rfl, l, _, 0, x, rfl, rfl, SqL.of hl, at_of (j := 0) rfl rfl, _, rfl, l, _, 1, y, rfl, rfl, SqL.of hl, at_of (j := 1) rfl rfl, all⟩⟩⟩⟩
    | [x, y, u], _ => exact ⟨_, rfl, l, [x, y, u], rfl, .inl (SqL.of hl), rfl, _, rfl, iteF ⟨_, rfl, l, [x, y, u], rfl, .inl (SqL.of hl), rfl, _, rfl, iteF ⟨_, rfl, l, [x, y, u], rfl, .inl (SqL.of hl), rfl, _, rfl, iteF ⟨_, rfl, l, _, 0, x, rfl, rfl, SqL.of hl, at_of (j := 0) rfl rfl, _, rfl, l, _, 1, y, rfl, rfl, SqL.of hl, at_of (j := 1) rfl rfl, _, rfl, l, _, 2, u, rfl, rfl, SqL.of hl, at_of (j := 2) rfl rfl, all⟩⟩⟩⟩
end
end LK

namespace LK
open PySem PySem.Spec PyProof.Rows L2 LR
/-! ### the law: steps drawn, steps that clash -/
/-- a step, or anything that is none -/
def StV (K : PySem.W.Frag) (cS : Addr) (H : Hp) (v : V) : Prop := (∃ b z y, v = .ref b ∧ StepAt cS H b z y) ∨ ∃ t, TyX K H v t ∧ PySem.W.kitOne K t (.ref cS) = some false
theorem StV.same {K : PySem.W.Frag} {cS : Addr} {H H' : Hp} {v : V} (s : Same H H') (h : StV K cS H v) : StV K cS H' v := by
  rcases h with ⟨b, z, y, e, ⟨dx, hb⟩⟩ | ⟨t, ty, k⟩
  · exact .inl ⟨b, z, y, e, ⟨dx, s _ _ hb⟩⟩
  · exact .inr ⟨t, TyX.same s ty, k⟩
def spLSteps (cS : Addr) : Sp := fun vs H Q _ => ∃ (l Sx : Addr) (ss : List V) (most : Nat), vs = [.ref l, .ref Sx, .int most] ∧ Feed H l ∧ Sx ≠ l ∧ H Sx = some (.lst ss) ∧ 0 < ss.length ∧ ss.length ≤ 20 ∧ most ≤ 3 ∧
  ∀ D xs H', xs.length ≤ most → H D = none → D ≠ l → H' D = some (.lst xs) → (∀ v ∈ xs, v ∈ ss) → Feed H' l → Keep l H H' → Q (.ref D) H'
def spClash (K : PySem.W.Frag) (cS : Addr) : Sp := fun vs H Q _ => ∃ (v : V) (p : Addr) (xs : List V), vs = [v, .ref p] ∧ StV K cS H v ∧ H p = some (.lst xs) ∧ xs.length ≤ 100 ∧ (∀ u ∈ xs, StV K cS H u) ∧ ∀ b H', Same H H' → Q (.bl b) H'
section
variable {P : Program} {w : World} {K : PySem.W.Frag} {mg : Str → Option Value} {base : Heap}
def nLS4 : List Str := ["_law_feed_here", "_law_steps_here", "_law_most", "_law_k"]
theorem scLS4 : FnScope nLS4 ["_law_feed_here", "_law_steps_here", "_law_most"] (defScope sLSteps) := ⟨rfl, rfl, rfl, by decide +kernel, rfl, by decide +kernel, by decide +kernel⟩
theorem ok_lSteps {cS fD fP f : Addr} {fdD fdP fd : FuncData} (S : Std mg) (D : Df K mg "_law_draw" sDraw fD fdD ["_law_feed_here", "_law_many"]) (PK : Df K mg "_law_pick" sPick fP fdP ["_law_feed_here", "_law_items"]) (F : Fun K "_law_steps" "_law_steps" sLSteps f fd) :
    FnOk P w K mg base CX0 3 f fd ["_law_feed_here", "_law_steps_here", "_law_most"] (spLSteps cS) := by
  have GD : FnOk P w K mg base CX0 1 fD fdD ["_law_feed_here", "_law_many"] spDraw := ok_draw S D.F
  have GP : FnOk P w K mg base CX0 2 fP fdP ["_law_feed_here", "_law_items"] (spPick K) := ok_pick S PK.F D
  refine F.ok scLS4 (fun vs H Q E h => ?_) (fun cdv A outer s H vs Q E hr h => ?_)
  · obtain ⟨l, Sx, ss, most, rfl, _⟩ := h
    rfl
  · obtain ⟨l, Sx, ss, most, rfl, hf, nS, hS, s0, s20, m3, q⟩ := h
    have rm1 : Room 1 _ := hr.mono (by decide)
    refine ⟨_, pss_one (ps_ret (pe_lc (own := [("_law_k", 3)]) (g := gName 3) (tt := tYes) rfl scLS4.nd (pi_range1 (by rfl) S.range (pa_cons (pe_call GD rm1 rfl D.g D.F.kp D.b .nil pass0 (pa_cons (pv 0) (pa_cons (pe_op op_add (pv 2) pe_int) pa_nil))) pa_nil))
        (blkOk_by (N := nLS4) (sc := defScope sLSteps) (by decide +kernel)) (fun _ _ _ _ _ => pg_name (i := 3) scLS4.nd rfl (Or.inl rfl)) (fun _ _ _ _ _ => pts_nil)
        (fun _ _ _ _ _ => pe_call GP hr rfl PK.g PK.F.kp PK.b .nil pass0 (pa_cons (pv 0) (pa_cons (pv 1) pa_nil))))), ?_⟩
    refine ⟨_, rfl, _, rfl, _, _, rfl, rfl, l, (most : Int) + 1, rfl, hf, by omega, by omega, fun d H1 d0 d1 f1 k1 => ?_⟩
    have hS1 := k1 _ _ nS hS
    refine ⟨d, rfl, by omega, by omega, fun D2 hD2 => lc_range (lo := 0) (n := d.toNat) (fun i H4 => Feed H4 l ∧ Keep l H1 H4 ∧ ∃ xs, H4 D2 = some (.lst xs) ∧ xs.length = i ∧ ∀ v ∈ xs, v ∈ ss) ⟨f1.same (same_new hD2), Keep.new hD2, [], upd_same, rfl, fun _ h => nomatch h⟩ (fun i H4 hi h => ?_) (fun H4 h => ?_)⟩
    · obtain ⟨f4, k4, xs, d4, lx, gx⟩ := h
      have n2 : D2 ≠ l := (f1.ne hD2).symm
      refine ⟨rfl, _, rfl, _, rfl, l, .ref Sx, (fun v => v ∈ ss), rfl, f4, .inr ⟨Sx, ss, rfl, nS, SqL.of (k4 _ _ nS hS1), s0, by omega, fun v hv => hv⟩, fun v H5 hv f5 k5 => ?_⟩
      refine ⟨xs, k5 _ _ n2 d4, by rw [lx, sizeLine_eq]; omega, f5.keep Keep.put n2.symm, fun b o nb e => ?_, xs ++ [v], upd_same, by rw [List.length_append, lx]; rfl, fun u hu => ?_⟩
      · rw [upd_ne (ne_of_none e hD2)]
        exact k5 _ _ nb (k4 _ _ nb e)
      · rcases List.mem_append.mp hu with hu | hu
        · exact gx u hu
        · rw [List.mem_singleton.mp hu]
          exact hv
    · obtain ⟨f4, k4, xs, d4, lx, gx⟩ := h
      exact q D2 xs H4 (by omega) (old_none k1 f1 hD2) (f1.ne hD2).symm d4 gx f4 (k1.trans k4)
def nCl4 : List Str := ["_law_one", "_law_others", "_law_other"]
theorem scCl4 : FnScope nCl4 ["_law_one", "_law_others"] (defScope sClashes) := ⟨rfl, rfl, rfl, by decide +kernel, rfl, by decide +kernel, by decide +kernel⟩
theorem ok_clash {cS fQ f : Addr} {fdQ fd : FuncData} (S : Std mg) (cT : OwnCl K mg "Step" cS) (s1 : NoAttr K cS "name") (s2 : NoAttr K cS "ways") (q : EqM K cS sStepEq "Step.__eq__" fQ fdQ) (ne : PySem.W.findIn K (.ref cS) "__ne__" = some (some (.builtin "object.__ne__")))
    (F : Fun K "_law_clashes" "_law_clashes" sClashes f fd) : FnOk P w K mg base CX0 3 f fd ["_law_one", "_law_others"] (spClash K cS) := by
  have GQ : FnOk P w K mg base CX0 1 fQ fdQ ["self", "other"] (spEqB K cS) := ok_stepEqB S cT s1 s2 q.F
  refine F.ok scCl4 (fun vs H Q E h => ?_) (fun cdv A outer s H vs Q E hr h => ?_)
  · obtain ⟨v, p, xs, rfl, _⟩ := h
    rfl
  · obtain ⟨v, p, xs, rfl, hv, hp, few, gx, k⟩ := h
    have rm2 : Room 2 _ := hr
    have rm1 : Room 1 _ := hr.mono (by decide)
    refine ⟨_, pss_cons (ps_if (pt_not (pt_val (pe_callB call_isi (by rfl) S.isi (by decide +kernel) (pa_cons (pv 0) (pa_cons (pe_glob (v := .ref cS) rfl cT.g rfl) pa_nil))))) (pss_one (ps_ret pe_bl)) pss_nil)
      (pss_one (ps_ret (pe_cmpR (op_neEnd rm1.units0) (pe_lc (own := [("_law_other", 2)]) (g := gName 2) (te := tC (.int 1)) rfl scCl4.nd (pi_list (pv 1)) (blkOk_by (N := nCl4) (sc := defScope sClashes) (by decide +kernel)) (fun _ _ _ _ _ => pg_name (i := 2) scCl4.nd rfl (Or.inl rfl))
          (fun _ _ _ _ _ => pts_one (PW.pt (pw_and (pt_val (pe_callB (show CallR _ _ (rIsi K) from call_isi) (by rfl) S.isi (by decide +kernel) (pa_cons (pv 2) (pa_cons (pe_glob (v := .ref cS) rfl cT.g rfl) pa_nil))))
            (pw_and (pt_cmpR op_eq (show PE _ _ (tFld K (tVar 2) "name") from pe_fld (pv 2) rfl) (show PE _ _ (tFld K (tVar 0) "name") from pe_fld (pv 0) rfl) (nomark _))
            (pw_and1 (pt_cmpR (show OpR _ _ (fun x y H Q => ∃ a dx fs t, x = V.ref a ∧ H a = some (.ins cS dx fs) ∧ TyX K H y t ∧ PySem.W.notFirst K cS t = true ∧ spEqB K cS [V.ref a, y] H (fun v H' => ∃ b, v = .bl b ∧ Q (.bl (!b)) H') (fun _ _ _ => False)) from op_neOwn (C := cS) GQ q.at_ q.fn ne cT.ob q.b pass0 rm2) (pv 2) (pv 0) (nomark _))))))) (fun _ _ _ _ _ => pe_int)) (pe_lst pa_nil) (nomark _)))), ?_⟩
    rcases hv with ⟨b, z, y, rfl, ⟨db, hb⟩⟩ | ⟨t, ty, kt⟩
    · refine ⟨_, rfl, _, _, _, _, true, rfl, .own cS, cT.ty hb, kit_self, true, rfl, iteF ?_⟩
      refine ⟨_, rfl, p, rfl, ⟨_, SqL.of hp⟩, fun D hD => lc_list (xs := xs) (fun i H4 => Same H H4 ∧ ∃ ys, H4 D = some (.lst ys) ∧ ys.length ≤ i) ⟨same_new hD, [], upd_same, Nat.le_refl _⟩ (fun i H4 _ h => SqL.of (h.1 _ _ hp)) (fun i u H4 hu h => ?_) (fun H4 h => ?_)⟩
      · obtain ⟨s4, ys, d4, ly⟩ := h
        have lt := (List.getElem?_eq_some_iff.mp hu).1
        have out : Same H H4 ∧ ∃ ys, H4 D = some (.lst ys) ∧ ys.length ≤ i + 1 := ⟨s4, ys, d4, by omega⟩
        have put : ∀ {R : V → Hp → Prop}, R (.int 1) H4 → R (.int 1) H4 := fun h => h
        rcases (gx u (List.mem_of_getElem? hu)).same s4 with ⟨c, z', y', rfl, ⟨dc, hc⟩⟩ | ⟨t, ty, kt⟩
        · refine ⟨rfl, _, rfl, _, _, _, _, true, rfl, .own cS, cT.ty hc, kit_self, true, rfl, iteT ?_⟩
          refine ⟨_, rfl, c, cS, dc, _, _, rfl, hc, cT.cl, s1, rfl, _, rfl, b, cS, db, _, _, rfl, s4 _ _ hb, cT.cl, s1, rfl, rfl, _, rfl, ite2 (fun _ => ?_) (fun _ => iteF out)⟩
          refine ⟨_, rfl, _, rfl, c, dc, _, _, rfl, hc, cT.ty (s4 _ _ hb), nf_own, c, .ref b, z', y', rfl, ⟨dc, hc⟩, .inl ⟨b, z, y, rfl, ⟨db, s4 _ _ hb⟩, _, rfl, _, rfl, ite2 (fun _ => ?_) (fun _ => out)⟩⟩
          exact ⟨ys, d4, by rw [sizeLine_eq]; omega, same_put hD s4, ys ++ [.int 1], upd_same, by rw [List.length_append]; show ys.length + 1 ≤ i + 1; omega⟩
        · exact ⟨rfl, _, rfl, _, _, _, _, false, rfl, .own cS, ty, kt, false, rfl, iteF (iteF out)⟩
      · obtain ⟨s4, ys, d4, ly⟩ := h
        exact ⟨(by show 0 ≤ sizeLine; decide), fun pe hpe => ⟨D, pe, ys, rfl, rfl, same_new hpe _ _ d4, upd_same, k _ _ (s4.trans (same_new hpe))⟩⟩
    · exact ⟨_, rfl, _, _, _, _, false, rfl, .own cS, ty, kt, false, rfl, iteT (k false H (Same.refl H))⟩
end
end LK

namespace LK
open PySem PySem.Spec PyProof.Rows L2 LR
/-! ### the law: is a chain right -/
theorem fn_any {P : Program} {w : World} {K : PySem.W.Frag} {mg : Str → Option Value} {base : Heap} {CX : CXT} {k : Nat} {f : Addr} {fd : FuncData} {ps : List Str} {ι : Type} {sp : ι → Sp} (F : ∀ i, FnOk P w K mg base CX k f fd ps (sp i)) (i0 : ι) : FnOk P w K mg base CX k f fd ps (fun vs H Q E => ∃ i, sp i vs H Q E) :=
  ⟨fun vs H Q E ⟨i, h⟩ => (F i).len vs H Q E h, fun A outer s H args us vs Q E hr he hb hv ⟨i, h⟩ => (F i).run A outer s H args us vs Q E hr he hb hv h⟩
/-- the law's model of steps over the name y -/
def MdN (K : PySem.W.Frag) : Hp → List V → V → Prop
  | H, [], m => ∃ p, m = .ref p ∧ SqT K H p [.str "name", .str "y"]
  | H, s :: r, m => ∃ p m', m = .ref p ∧ SqT K H p [s, m'] ∧ MdN K H r m'
theorem MdN.same {K : PySem.W.Frag} {H H' : Hp} (s : Same H H') : ∀ {ss : List V} {m : V}, MdN K H ss m → MdN K H' ss m
  | [], _, ⟨p, e, t⟩ => ⟨p, e, SqT.same s t⟩
  | _ :: _, _, ⟨p, m', e, t, h⟩ => ⟨p, m', e, SqT.same s t, h.same s⟩
theorem y_ok : NameOk "y" := ⟨by decide +kernel, by decide +kernel, by decide +kernel, by decide +kernel, by decide +kernel, by decide +kernel⟩
theorem x_ok : NameOk "x" := ⟨by decide +kernel, by decide +kernel, by decide +kernel, by decide +kernel, by decide +kernel, by decide +kernel⟩
theorem up_ok : WaysOk "+" := ⟨by decide +kernel, by decide +kernel, by decide +kernel⟩
theorem nest_is {K : PySem.W.Frag} {cE cS : Addr} {H : Hp} {x : V} (hx : ExP K cE cS H x "name" "y" .non [] 1) : ∀ {ss : List V} {m e : V}, (∀ v ∈ ss, L1 cS H v) → MdN K H ss m → Nest K cE cS H ss x e → ExM K cE cS (ss.length + 1) H m e
  | [], m, e, _, ⟨p, q, t⟩, n => by
    cases n
    exact ⟨p, q, .inl ⟨"y", t, y_ok, hx⟩⟩
  | s :: r, m, e, g, ⟨p, m', q, t, h⟩, ⟨e', k, n, ex⟩ => by
    have ih := nest_is hx (fun v hv => g v (List.mem_cons_of_mem _ hv)) h n
    obtain ⟨b, z, y, rfl, st, no, wo, l1⟩ := g s List.mem_cons_self
    refine ⟨p, q, .inr ⟨.ref b, [m'], [e'], k, t, .inr ⟨b, z, y, rfl, st, no, wo, l1⟩, rfl, fun i u v h1 h2 => ?_, .inr ⟨⟨b, rfl⟩, ex⟩⟩⟩
    cases i with
    | zero =>
      cases h1
      cases h2
      exact ih
    | succ i => cases h1
/-- a chain's methods -/
structure ChMe (K : PySem.W.Frag) (C fCall fLen fStr fEq : Addr) (dCall dLen dStr dEq : FuncData) : Prop where
  o : StX.CallO K C fCall
  b : Binds K dCall ["self", "part"] []
  l : LenM K C fLen dLen sChainLen "Chain.__len__"
  sF : Fun K "__str__" "Chain.__str__" sChainStr fStr dStr
  sb : Binds K dStr ["self"] []
  sa : PySem.W.findIn K (.ref C) "__str__" = some (some (.ref fStr))
  sn : PySem.W.isFn K (.ref fStr) = true
  q : EqM K C sChainEq "Chain.__eq__" fEq dEq
def spRt4 (K : PySem.W.Frag) (C cS : Addr) : Sp := fun vs H Q _ => ∃ (a Lx : Addr) (ss : List V), vs = [.ref a, .ref Lx] ∧ ChAt K C cS H a ss ∧ H Lx = some (.lst ss) ∧ ss.length ≤ 20 ∧ ∀ H', Same H H' → Q (.bl true) H'
section
variable {P : Program} {w : World} {K : PySem.W.Frag} {mg : Str → Option Value} {base : Heap}
def nRt4 : List Str := ["_law_chain_here", "_law_steps_here", "_law_step", "_law_model"]
theorem scRt4 : FnScope nRt4 ["_law_chain_here", "_law_steps_here"] (defScope sRight) := ⟨rfl, rfl, rfl, by decide +kernel, rfl, by decide +kernel, by decide +kernel⟩
theorem ok_right4 {k : Kinds} {C2 cE C cS fI fCall fLen fStr fEq fS fM fX iS f : Addr} {dCall dLen dStr dEq fdS fdM fdX jS fd : FuncData} {fQ : Addr} {fdQ : FuncData} (S : Std mg) (M : ChM K mg C cS fI) (Me : ChMe K C fCall fLen fStr fEq dCall dLen dStr dEq) (s1 : NoAttr K cS "name") (s2 : NoAttr K cS "ways") (qS : EqM K cS sStepEq "Step.__eq__" fQ fdQ)
    (u2 : PySem.W.subIn K (.ref cS) (.ref C) = some false) (tC_ : PySem.W.kitOne K (.type "tuple") (.ref C) = some false) (kes : PySem.W.kitOne K (.type "str") (.ref cE) = some false) (kc : k.cS = cS)
    (GC : FnOk P w K mg base (L2N.CX P w) 7 fCall dCall ["self", "part"] (spChCall K C2 cE C cS)) (A1 : Df K mg "_law_same" sSame fS fdS ["_law_found", "_law_due"]) (GS : FnOk P w K mg base CX0 5 fS fdS ["_law_found", "_law_due"] (spSame K k 2))
    (MS : Mk K cS iS) (GI0 : FnOk P w K mg base CX0 2 iS jS ["self", "name", "ways"] (spStInit cS)) (bS : Binds K jS ["self", "name", "ways"] [])
    (N1 : Df K mg "named" sNamed fM fdM ["word"]) (GM : FnOk P w K mg base CX0 4 fM fdM ["word"] (spNamed K cE)) (I1 : Df K mg "_law_is" sIs fX fdX ["_law_expr", "_law_model"]) (GX : ∀ n, FnOk P w K mg base CX0 (n + 4) fX fdX ["_law_expr", "_law_model"] (spIs K cE cS n))
    (F : Fun K "_law_right" "_law_right" sRight f fd) : FnOk P w K mg base CX0 27 f fd ["_law_chain_here", "_law_steps_here"] (spRt4 K C cS) := by
  have GL : FnOk P w K mg base CX0 1 fLen dLen ["self"] (spChLen K C cS) := ok_chLen S M.c.cl M.m Me.l.F
  have GT : FnOk P w K mg base CX0 1 fStr dStr ["self"] (spChStr K C cS) := ok_chStr S M.c.cl M.m M.cT.cl s1 Me.sF
  have GE : FnOk P w K mg base CX0 3 fEq dEq ["self", "other"] (spChEq K C cS) := ok_chEq S M s1 s2 qS Me.q.F
  have GIs : FnOk P w K mg base CX0 25 fX fdX ["_law_expr", "_law_model"] (fun vs H Q E => ∃ i : Fin 22, spIs K cE cS i vs H Q E) := fn_any (fun i => (GX i).mono (by have := i.2; omega)) 0
  have CR : FnR P w K mg base (L2N.CX P w) 7 fCall (fun vs H Q E => spChCall K C2 cE C cS (vs ++ []) H Q E) := GC.raw Me.b .nil
  refine F.ok scRt4 (fun vs H Q E h => ?_) (fun cdv A outer s H vs Q E hr h => ?_)
  · obtain ⟨a, Lx, ss, rfl, _⟩ := h
    rfl
  · obtain ⟨a, Lx, ss, rfl, hc, hL, s20, q⟩ := h
    have rm2 : Room 2 _ := hr.mono (by decide)
    have rm3 : Room 3 _ := hr.mono (by decide)
    have rm4 : Room 4 _ := hr.mono (by decide)
    have rm5 : Room 5 _ := hr.mono (by decide)
    have rm7 : Room 7 _ := hr.mono (by decide)
    have rm25 : Room 25 _ := hr.mono (by decide)
    refine ⟨_, pss_cons (ps_if (PW.pt (pw_or (pt_not (pt_val (pe_callB call_isi (by rfl) S.isi (by decide +kernel) (pa_cons (pv 0) (pa_cons (pe_glob (v := .ref C) rfl M.c.g rfl) pa_nil)))))
          (pw_or (pt_not (pt_val (pe_call GS rm5 rfl A1.g A1.F.kp A1.b .nil pass0 (pa_cons (pe_fld (pv 0) rfl) (pa_cons (pe_callTy call_tuple_of (by rfl) S.tuple (by decide +kernel) (pa_cons (pv 1) pa_nil)) pa_nil)))))
          (pw_or1 (pt_cmpR op_ne (pe_callB (LR.call_lenOwn (C := C) (E := fun _ _ _ => False) GL Me.l.at_ Me.l.fn Me.l.b pass0 rm2) (by rfl) S.len PySem.boot_len (pa_cons (pv 0) pa_nil)) (pe_callB call_len_seq (by rfl) S.len PySem.boot_len (pa_cons (pv 1) pa_nil)) (nomark _)))))) (pss_one (ps_ret pe_bl)) pss_nil)
      (pss_cons (ps_if (PW.pt (pw_or (pt_cmpR op_ne (pe_callTy (LR.call_strOwn (C := C) (E := fun _ _ _ => False) GT Me.sa Me.sn Me.sb pass0 rm3) (by rfl) S.str (by decide +kernel) (pa_cons (pv 0) pa_nil)) (pe_join pe_str (pe_lc (own := [("_law_step", 2)]) (g := gName 2) (tt := tYes) (te := tFld K (tVar 2) "name") rfl scRt4.nd (pi_list (pv 1)) (blkOk_by (N := nRt4) (sc := defScope sRight) (by decide +kernel))
            (fun _ _ _ _ _ => pg_name (i := 2) scRt4.nd rfl (Or.inl rfl)) (fun _ _ _ _ _ => pts_nil) (fun _ _ _ _ _ => pe_fld (pv 2) rfl))) (nomark _))
          (pw_or (pt_cmpR (LR.op_eqOwn (C := C) (E := fun _ _ _ => False) GE Me.q.at_ Me.q.fn Me.q.b pass0 rm3) (pv 0) (pe_callTy call_tuple_of (by rfl) S.tuple (by decide +kernel) (pa_cons (pv 1) pa_nil)) (nomark _))
          (pw_or1 (pt_cmpR (LR.op_eqOwn (C := C) (E := fun _ _ _ => False) GE Me.q.at_ Me.q.fn Me.q.b pass0 rm3) (pv 0) (pe_make MS GI0 rm3 rfl M.cT.g bS .nil pass0 (pa_cons pe_str (pa_cons pe_str pa_nil))) (nomark _)))))) (pss_one (ps_ret pe_bl)) pss_nil)
      (pss_cons (ps_set (i := 3) scRt4.nd rfl (Or.inl rfl) (pe_tup (pa_cons pe_str (pa_cons pe_str pa_nil))))
      (pss_cons (ps_for PassesOwn.never rfl (pi_list (pe_revL (pv 1))) (pg_name (i := 2) scRt4.nd rfl (Or.inl rfl)) (pss_one (ps_set (i := 3) scRt4.nd rfl (Or.inl rfl) (pe_tup (pa_cons (pv 2) (pa_cons (pv 3) pa_nil))))))
      (pss_one (ps_ret (pe_and (pe_call GIs rm25 rfl I1.g I1.F.kp I1.b .nil pass0 (pa_cons (LR.pe_callOS (E := fun _ _ _ _ => False) (pv 0) Me.o CR rm7 (fun σ => L2N.passAt tk0 σ) (pa_cons pe_str pa_nil)) (pa_cons (pv 3) pa_nil)))
        (pe_one (pe_call GIs rm25 rfl I1.g I1.F.kp I1.b .nil pass0 (pa_cons (LR.pe_callOS (E := fun _ _ _ _ => False) (pv 0) Me.o CR rm7 (fun σ => L2N.passAt tk0 σ) (pa_cons (pe_call GM rm4 rfl N1.g N1.F.kp N1.b .nil pass0 (pa_cons pe_str pa_nil)) pa_nil)) (pa_cons (pv 3) pa_nil)))))))))), ?_⟩
    have hc0 := hc
    obtain ⟨dx, p, ha, hp, hs⟩ := hc
    obtain ⟨zs, hz⟩ := els_of (K := K) hs
    have nm := nm_of hz
    have n4 : ∀ z ∈ zs.map (fun e => e.1), z.length ≤ 4 := fun z hz' => by
      obtain ⟨e, he, rfl⟩ := List.mem_map.mp hz'
      obtain ⟨j, hj⟩ := List.getElem?_of_mem he
      have lt := (List.getElem?_eq_some_iff.mp hj).1
      have l1 := hz.1
      rw [List.length_map] at l1
      obtain ⟨b, _, _, no, _⟩ := hz.2 j (ss[j]'(by omega)) (some e) (List.getElem?_eq_getElem _) (by rw [List.getElem?_map, hj]; rfl)
      exact no.len
    refine if_key (fun b H' => b = false ∧ Same H H') (fun R key => ?_) (fun H1 h => by cases h.1) (fun H1 h => ?_)
    · refine ⟨_, rfl, _, _, _, _, true, rfl, .own C, M.c.ty ha, kit_self, true, rfl, iteF ?_⟩
      refine ⟨_, rfl, a, C, dx, _, .ref p, rfl, ha, M.c.cl, M.m, rfl, _, rfl, Lx, ss, rfl, .inl ⟨SqL.of hL, fun p2 hp2 => ?_⟩⟩
      have t1 := same_new (o := .tup ss) hp2
      refine ⟨.ref p, .ref p2, rfl, .inr ⟨p, p2, ss, ss, rfl, rfl, rfl, s20, .inr ⟨t1 _ _ hp, upd_same⟩, fun i x y h1 h2 => ?_⟩, fun H1 s1' => ⟨_, rfl, iteF ?_⟩⟩
      · rw [h1] at h2
        cases h2
        obtain ⟨b, z, y', rfl, st, no, wo, _⟩ := (hs x (List.mem_of_getElem? h1)).same t1
        rw [← kc] at st
        exact .inl ⟨.step st no wo, rfl⟩
      · have t2 := t1.trans s1'
        exact ⟨_, rfl, a, dx, _, rfl, t2 _ _ ha, a, ss, rfl, hc0.same t2, by omega, ss.length, rfl, by omega, _, rfl, Lx, ss, rfl, .inl (SqL.of (t2 _ _ hL)), rfl, _, rfl, by rw [decide_eq_true rfl]; exact key _ _ ⟨rfl, t2⟩⟩
    obtain ⟨_, t1⟩ := h
    dsimp only [tNext]
    have hc1 := hc0.same t1
    have hL1 := t1 _ _ hL
    have ha1 := t1 _ _ ha
    have hz1 := hz.same t1
    have nm1 := nm.same t1
    refine if_key (fun b H' => b = false ∧ Same H1 H') (fun R key => ?_) (fun H2 h => by cases h.1) (fun H2 h => ?_)
    · refine ⟨_, rfl, a, dx, _, rfl, ha1, a, ss, zs.map (fun e => e.1), rfl, hc1, nm1, by omega, n4, fun H2 u2' => ⟨_, rfl, ⟨_, rfl⟩, _, rfl, Lx, rfl, ⟨_, SqL.of (u2' _ _ hL1)⟩, fun D hD => lc_list (xs := ss) (fun i H4 => Same H2 H4 ∧ H4 D = some (.lst ((((zs.map fun e => e.1)).take i).map V.str))) ⟨same_new hD, upd_same⟩ (fun i H4 _ h => SqL.of (h.1 _ _ (u2' _ _ hL1))) (fun i v H4 hv h => ?_) (fun H4 h => ?_)⟩⟩
      · obtain ⟨s4, d4⟩ := h
        have lt := (List.getElem?_eq_some_iff.mp hv).1
        have hq : (zs.map fun e => e.1)[i]? = some ((zs.map fun e => e.1)[i]'(by rw [← nm.1]; exact lt)) := List.getElem?_eq_getElem _
        generalize (zs.map fun e => e.1)[i]'(by rw [← nm.1]; exact lt) = z at hq
        obtain ⟨b, y, rfl, ⟨db, hb⟩⟩ := nm1.2 i v z hv hq
        refine ⟨rfl, _, rfl, b, cS, db, _, .str z, rfl, s4 _ _ (u2' _ _ hb), M.cT.cl, s1, rfl, _, d4, by rw [List.length_map, List.length_take, sizeLine_eq]; omega, same_put hD s4, ?_⟩
        rw [upd_same, List.take_add_one, hq, List.map_append]
        rfl
      · obtain ⟨s4, d4⟩ := h
        rw [nm.1, List.take_length] at d4
        have l1 := sum_len n4
        have l2 := nm.1
        have o1 : (" " : Str).length = 1 := by decide +kernel
        have t3 := u2'.trans s4
        refine ⟨_, D, _, rfl, rfl, .inl (SqL.of d4), by rw [o1]; omega, rfl, _, rfl, ?_⟩
        rw [decide_eq_true rfl]
        refine iteF ⟨_, rfl, _, rfl, Lx, ss, rfl, .inl ⟨SqL.of (t3 _ _ hL1), fun p2 hp2 => ?_⟩⟩
        have t4 := t3.trans (same_new (o := .tup ss) hp2)
        refine ⟨a, dx, _, .type "tuple", rfl, t4 _ _ ha1, .base (.tup upd_same), nf_tup, a, .ref p2, ss, zs, rfl, ⟨hc1.same t4, hz1.same t4⟩, .inr ⟨_, .base (.tup upd_same), tC_, false, rfl, false, rfl, iteF ?_⟩⟩
        refine ⟨_, rfl, ?_⟩
        intro x dx' nx nd ne
        refine ⟨x, dx', "x", "+", rfl, upd_same, x_ok, up_ok, fun H5 st k5 => ⟨rfl, ?_⟩⟩
        have t5 := t4.trans (same_of_keep (H1 := (upd H4 p2 (.tup ss))) nx nd k5)
        obtain ⟨dst, hst⟩ := st
        have nf : PySem.W.notFirst K C (.ref cS) = true := by
          unfold PySem.W.notFirst
          rw [u2]
          simp
        exact ⟨a, dx, _, .ref cS, rfl, t5 _ _ ha1, M.cT.ty hst, nf, a, .ref x, ss, zs, rfl, ⟨hc1.same t5, hz1.same t5⟩, .inr ⟨_, M.cT.ty hst, M.ne, false, rfl, false, rfl, key _ _ ⟨rfl, t5⟩⟩⟩
    obtain ⟨_, t2⟩ := h
    dsimp only [tNext]
    have t02 := t1.trans t2
    refine ⟨(by show 2 ≤ sizeLine; decide), fun p0 hp0 => ?_⟩
    have t3 := t02.trans (same_new (o := .tup [V.str "name", .str "y"]) hp0)
    have h0 : (upd H2 p0 (.tup [V.str "name", .str "y"])) p0 = some (.tup [V.str "name", .str "y"]) := upd_same
    generalize upd H2 p0 (.tup [V.str "name", .str "y"]) = H3 at t3 h0 ⊢
    refine gN_key ?_
    dsimp only
    refine seq_key (fun σ' H' => ∃ m o, σ' = [some (.ref a), some (.ref Lx), o, some m] ∧ Same H3 H' ∧ MdN K H' ss m) (fun key => ?_) (fun σ' H4 h => ?_)
    · refine ⟨_, rfl, Lx, ss, rfl, SqL.of (t3 _ _ hL), fun r hr' => ?_⟩
      have t4 := same_new (o := .lst ss.reverse) hr'
      refine ⟨r, rfl, ⟨_, SqL.of upd_same⟩, for_list (xs := ss.reverse) (fun i σ' H' => ∃ m o, σ' = [some (.ref a), some (.ref Lx), o, some m] ∧ Same (upd H3 r (.lst ss.reverse)) H' ∧ MdN K H' (ss.drop (ss.length - i)) m) ⟨.ref p0, none, rfl, Same.refl _, ?_⟩ (fun i σ' H' _ h => ?_) (fun i u σ' H' hu h => ?_) (fun σ' H' h => ?_)⟩
      · rw [Nat.sub_zero, List.drop_length]
        exact ⟨p0, rfl, SqT.of (t4 _ _ h0)⟩
      · obtain ⟨_, _, _, s3, _⟩ := h
        exact SqL.of (s3 _ _ upd_same)
      · obtain ⟨m, o, rfl, s3, md⟩ := h
        have lt := (List.getElem?_eq_some_iff.mp hu).1
        rw [List.length_reverse] at lt
        rw [List.getElem?_reverse lt] at hu
        refine ⟨_, rfl, _, rfl, (by show 2 ≤ sizeLine; decide), fun p3 hp3 => ⟨.ref p3, _, rfl, s3.trans (same_new hp3), ?_⟩⟩
        have l2 : ss.length - (i + 1) < ss.length := by omega
        have dl : ss.drop (ss.length - (i + 1)) = u :: ss.drop (ss.length - i) := by
          rw [List.drop_eq_getElem_cons l2]
          have e1 : ss[ss.length - (i + 1)] = u := by
            have := List.getElem?_eq_getElem l2
            rw [show ss.length - 1 - i = ss.length - (i + 1) by omega, this] at hu
            exact Option.some.inj hu
          rw [e1, show ss.length - (i + 1) + 1 = ss.length - i by omega]
        rw [dl]
        exact ⟨p3, m, rfl, SqT.of upd_same, md.same (same_new hp3)⟩
      · obtain ⟨m, o, rfl, s3, md⟩ := h
        rw [List.length_reverse, Nat.sub_self, List.drop_zero] at md
        exact key _ _ ⟨m, o, rfl, t4.trans s3, md⟩
    obtain ⟨m, o, rfl, t4, md⟩ := h
    have t04 := t3.trans t4
    have hc4 := hc0.same t04
    have ha4 := t04 _ _ ha
    have l22 : ss.length + 1 < 22 := by omega
    -- the chain on a text
    refine ⟨_, rfl, a, rfl, ⟨dx, _, ha4⟩, a, .str "y", ss, rfl, hc4, s20, .inr ⟨_, .base (.str "y"), kes, .inl ⟨"y", rfl, by decide +kernel⟩, (fun nb => by rw [nameB_ok y_ok] at nb; cases nb), fun z e ok v' H5 s5 ex => ⟨s5, ex.is, fun e6 H6 s6 nest => ?_⟩⟩⟩
    injection e with e
    subst e
    have s56 := s5.trans s6
    refine ⟨_, rfl, ⟨ss.length + 1, l22⟩, m, e6, rfl, nest_is (ex.same s6) (fun v hv => ((hs v hv).same t04).same s56) (md.same s56) nest, fun H7 s7 => ⟨_, rfl, iteT ?_⟩⟩
    -- and on the name's expression
    have s57 := s56.trans s7
    have t07 := t04.trans s57
    refine ⟨_, rfl, a, rfl, "y", rfl, y_ok, fun a8 H8 _ ex8 s8 => ⟨⟨dx, _, s8 _ _ (t07 _ _ ha)⟩, a, .ref a8, ss, rfl, hc0.same (t07.trans s8), s20, .inl ⟨(ex8 cS).is.ins, Same.refl _, (ex8 cS).is, fun e9 H9 s9 nest => ?_⟩⟩⟩
    have s89 := (s57.trans s8).trans s9
    have exy : ExP K cE cS H8 (.ref a8) "name" "y" .non [] 1 := ex8 cS
    exact ⟨_, rfl, ⟨ss.length + 1, l22⟩, m, e9, rfl, nest_is (exy.same s9) (fun v hv => ((hs v hv).same t04).same s89) (md.same s89) nest, fun H10 s10 => q H10 ((t04.trans s89).trans s10)⟩
end
end LK

namespace LK
open PySem PySem.Spec PyProof.Rows L2 LR
/-! ### the law: what is refused -/
def spTold4 (K : PySem.W.Frag) (C cS : Addr) : Sp := fun vs H Q _ => ∃ (l : Addr) (xs : List V) (gs : List Bool), vs = [.ref l] ∧ H l = some (.lst xs) ∧ xs.length ≤ 3 ∧ Lks K cS H xs gs ∧ (false ∈ gs → ∀ p H', Same H H' → H' p = some (.tup [.str "refused", .str "chain"]) → Q (.ref p) H') ∧ (false ∉ gs → ∀ a H', Same H H' → ChAt K C cS H' a xs → Q (.ref a) H')
def spBad4 (K : PySem.W.Frag) (cE C cS : Addr) : Sp := fun vs H Q _ => ∃ (a : Addr) (v : V) (ss : List V) (t : Value), vs = [.ref a, v] ∧ ChAt K C cS H a ss ∧ ss.length ≤ 20 ∧ TyX K H v t ∧ PySem.W.kitOne K t (.ref cE) = some false ∧ Seen K H v ∧ nameB v = false ∧ ∀ H', Same H H' → Q (.str "part") H'
section
variable {P : Program} {w : World} {K : PySem.W.Frag} {mg : Str → Option Value} {base : Heap}
theorem scTold4 : FnScope ["_law_some", "_law_found", "_law_e"] ["_law_some"] (defScope sTold) := ⟨rfl, rfl, rfl, by decide +kernel, rfl, by decide +kernel, by decide +kernel⟩
theorem ok_told4 {C cS fT fR f B : Addr} {fdT fdR fd : FuncData} {CC cE : Nat → Addr} {cD : Nat → FuncData} (S : Std mg) (G : Errs K mg CC B cE cD) (ex : PySem.W.exmOne K (.ref (CC 0)) (.ref B) = some true)
    (RF : Df K mg "_law_refused" sRefused fR fdR ["_law_e"]) (RT : Df K mg "_law_chain" sLChain fT fdT ["_law_some"]) (GT : FnOk P w K mg base (L2N.CX P w) 6 fT fdT ["_law_some"] (spLChain K (CC 0) C cS))
    (F : Fun K "_law_told" "_law_told" sTold f fd) : FnOk P w K mg base CX0 7 f fd ["_law_some"] (spTold4 K C cS) := by
  have e0 := G.er 0 (by decide)
  have GR : FnE P w K mg base 1 fR fdR ["_law_e"] (spRefE K CC) := ok_refusedE S G RF.F
  refine F.ok scTold4 (fun vs H Q E h => ?_) (fun cdv A outer s H vs Q E hr h => ?_)
  · obtain ⟨l, xs, gs, rfl, _⟩ := h
    rfl
  · obtain ⟨l, xs, gs, rfl, hl, few, hk, qn, qs⟩ := h
    refine ⟨_, pss_cons (ps_set (i := 1) scTold4.nd rfl (Or.inl rfl) pe_str)
      (pss_cons (L2N.ps_try_as (i := 2) (Wout := fun _ _ _ _ => False) rfl rfl scTold4.nd rfl rfl ⟨rfl, by decide, .inl G.base.g⟩ tk0
        (fun W pn xe tk _ => pss_one (ps_set (i := 1) scTold4.nd rfl (Or.inl rfl) (pe_callS GT hr rfl RT.g RT.F.kp RT.b (fun σ => L2N.passAt tk σ) (pa_cons (pv 0) pa_nil))))
        (fun a oe cls d pn zn fl => pss_one (ps_if (pt_cmpR (show OpR _ _ (rEqD K) from op_eqD hr.units) (show PE _ _ (tRefE K CC a cls d 2) from pe_refE (X := (cxOf CX0 P w K mg base ["_law_some", "_law_found", "_law_e"] "_law_told" (defScope sTold) f cdv A outer s H E).nox.suite a ((a, oe) :: pn)) (cls := cls) (d := d) GR ⟨(hr.mono (show 1 ≤ 6 by decide)).dp, (hr.mono (show 1 ≤ 6 by decide)).un⟩ (hot_of rfl zn fl) List.mem_cons_self zn.zc fl RF.g RF.F.kp RF.b (i := 2)) (pe_lst (pa_cons pe_int pa_nil)) (nomark _))
          (pss_one (ps_set (i := 1) scTold4.nd rfl (Or.inl rfl) (pe_tup (pa_cons pe_str (pa_cons (pe_xf e0.X e0.no zn.zc fl (pv 2)) pa_nil))))) pss_nil)))
      (pss_one (ps_ret (pv 1)))), ?_⟩
    refine ⟨_, rfl, l, xs, gs, rfl, hl, few, hk, fun e d H' s1 hd nd => ?_, fun e a H' s1 hc => ⟨_, rfl, qs e a H' s1 hc⟩⟩
    refine ⟨true, ex, fun _ a ha => ?_, fun z => nomatch z⟩
    refine ⟨_, rfl, rfl, CC 0, (fun j => decide (0 = j)), rfl, ⟨fun dx' e => ⟨_, by cases e; exact hd⟩⟩, e0.E, fun j hj => G.k1 0 j (by decide) hj, fun p H2 s2 hp => ?_⟩
    rw [ix_one 0 (by decide)] at hp
    refine ⟨by show 1 ≤ sizeLine; decide, fun p2 hp2 => ?_⟩
    have s3 := same_new (o := .lst [.int 0]) hp2
    refine ⟨.list [.int 0], .list [.int 0], dp_one (s3 _ _ hp), dp_one upd_same, rfl, rfl, _, rfl, ?_⟩
    rw [show PyData.eqv (.list [.int 0]) (.list [.int 0]) = true by decide +kernel]
    have s4 := s2.trans s3
    refine iteT ⟨_, rfl, rfl, rfl, d, _, _, rfl, s4 _ _ hd, rfl, by show 2 ≤ sizeLine; decide, fun p3 hp3 => ?_⟩
    exact ⟨_, rfl, qn e p3 _ ((s1.trans s4).trans (same_new hp3)) upd_same⟩
def nBd4 : List Str := ["_law_chain_here", "_law_thing", "_law_found", "_law_e"]
theorem scBd4 : FnScope nBd4 ["_law_chain_here", "_law_thing"] (defScope sBadPart) := ⟨rfl, rfl, rfl, by decide +kernel, rfl, by decide +kernel, by decide +kernel⟩
theorem ok_bad4 {cX C cS fCall fR f B : Addr} {dCall fdR fd : FuncData} {CC cE : Nat → Addr} {cD : Nat → FuncData} (S : Std mg) (G : Errs K mg CC B cE cD) (ex : PySem.W.exmOne K (.ref (CC 2)) (.ref B) = some true) (o : StX.CallO K C fCall) (b : Binds K dCall ["self", "part"] [])
    (GC : FnOk P w K mg base (L2N.CX P w) 7 fCall dCall ["self", "part"] (spChCall K (CC 2) cX C cS)) (RF : Df K mg "_law_refused" sRefused fR fdR ["_law_e"]) (F : Fun K "_law_bad_part" "_law_bad_part" sBadPart f fd) : FnOk P w K mg base CX0 8 f fd ["_law_chain_here", "_law_thing"] (spBad4 K cX C cS) := by
  have e2 := G.er 2 (by decide)
  have GR : FnE P w K mg base 1 fR fdR ["_law_e"] (spRefE K CC) := ok_refusedE S G RF.F
  have CR : FnR P w K mg base (L2N.CX P w) 7 fCall (fun vs H Q E => spChCall K (CC 2) cX C cS (vs ++ []) H Q E) := GC.raw b .nil
  refine F.ok scBd4 (fun vs H Q E h => ?_) (fun cdv A outer s H vs Q E hr h => ?_)
  · obtain ⟨a, v, ss, t, rfl, _⟩ := h
    rfl
  · obtain ⟨a, v, ss, t, rfl, hc, s20, ty, kt, seen, nb, q⟩ := h
    refine ⟨_, pss_cons (ps_set (i := 2) scBd4.nd rfl (Or.inl rfl) pe_str)
      (pss_cons (L2N.ps_try_as (i := 3) (Wout := fun _ _ _ _ => False) rfl rfl scBd4.nd rfl rfl ⟨rfl, by decide, .inl G.base.g⟩ tk0
        (fun W pn xe tk _ => pss_cons (ps_expr (LR.pe_callOS (pv 0) o CR hr (fun σ => L2N.passAt tk σ) (pa_cons (pv 1) pa_nil))) (pss_one (ps_set (i := 2) scBd4.nd rfl (Or.inl rfl) pe_str)))
        (fun a oe cls d pn zn fl => pss_one (ps_if (pt_cmpR (show OpR _ _ (rEqD K) from op_eqD hr.units) (show PE _ _ (tRefE K CC a cls d 3) from pe_refE (X := (cxOf CX0 P w K mg base nBd4 "_law_bad_part" (defScope sBadPart) f cdv A outer s H E).nox.suite a ((a, oe) :: pn)) (cls := cls) (d := d) GR ⟨(hr.mono (show 1 ≤ 7 by decide)).dp, (hr.mono (show 1 ≤ 7 by decide)).un⟩ (hot_of rfl zn fl) List.mem_cons_self zn.zc fl RF.g RF.F.kp RF.b (i := 3)) (pe_lst (pa_cons pe_int pa_nil)) (nomark _))
          (pss_one (ps_set (i := 2) scBd4.nd rfl (Or.inl rfl) (pe_xf e2.X e2.no zn.zc fl (pv 3)))) pss_nil)))
      (pss_one (ps_ret (pv 2)))), ?_⟩
    obtain ⟨dx, pp, ha, _⟩ := id hc
    refine ⟨_, rfl, a, rfl, _, rfl, ⟨dx, _, ha⟩, a, v, ss, rfl, hc, s20, .inr ⟨t, ty, kt, seen, fun _ H1 s1 d H' s2 hd nd => ?_, fun z e ok => ?_⟩⟩
    · refine ⟨true, ex, fun _ a' ha' => ?_, fun z => nomatch z⟩
      refine ⟨_, rfl, rfl, CC 2, (fun j => decide (2 = j)), rfl, ⟨fun dx' e => ⟨_, by cases e; exact hd⟩⟩, e2.E, fun j hj => G.k1 2 j (by decide) hj, fun p H2 s3 hp => ?_⟩
      rw [ix_one 2 (by decide)] at hp
      refine ⟨by show 1 ≤ sizeLine; decide, fun p2 hp2 => ?_⟩
      have s4 := same_new (o := .lst [.int 2]) hp2
      refine ⟨.list [.int 2], .list [.int 2], dp_one (s4 _ _ hp), dp_one upd_same, rfl, rfl, _, rfl, ?_⟩
      rw [show PyData.eqv (.list [.int 2]) (.list [.int 2]) = true by decide +kernel]
      have s5 := s3.trans s4
      exact iteT ⟨_, rfl, rfl, rfl, d, _, _, rfl, s5 _ _ hd, rfl, _, rfl, q _ ((s1.trans s2).trans s5)⟩
    · rw [e, nameB_ok ok] at nb
      cases nb
end
end LK

namespace LK
open PySem PySem.Spec PyProof.Rows L2 LR
/-! ### the law: a wide step in no chain -/
def rMul (K : PySem.W.Frag) (C0 C cS : Addr) (E : L2.St → XK) : RS := fun σ x y H Q => (AnIns cS H x ∧ (AnIns cS H y ∨ AnIns C H y) ∧ spStMul K C0 C cS [x, y] H (fun v H' => (∃ r, v = V.ref r) ∧ Q v H') (E σ)) ∨ (AnIns C H x ∧ (AnIns C H y ∨ AnIns cS H y) ∧ spJoin K C0 C cS [x, y] H (fun v H' => (∃ r, v = V.ref r) ∧ Q v H') (E σ))
theorem op_mul4 {X : Cx} {C0 C cS fI mS mC pS pC : Addr} {gS gC hS hC : FuncData} {E : L2.St → XK} (O : ChOps X.K X.mg C cS fI mS mC pS pC gS gC hS hC) (GS : FnOk X.prog X.w X.K X.mg X.base (L2N.CX X.prog X.w) 7 mS gS ["self", "other"] (spStMul X.K C0 C cS))
    (GC : FnOk X.prog X.w X.K X.mg X.base (L2N.CX X.prog X.w) 7 mC gC ["self", "other"] (spJoin X.K C0 C cS)) (out : ∀ σ, PassesAt (L2N.CX X.prog X.w) X σ (E σ)) (hr : Room 7 X.A) : OpRS X (binaryOp .Mult) (rMul X.K C0 C cS E) :=
  OpRS.or (op_two GS O.ms O.mc O.ne O.u1 O.bs out hr) (op_two GC O.mc O.ms O.en O.u2 O.bc out hr)
theorem Brings.ins {K : PySem.W.Frag} {C cS : Addr} {H : Hp} {y : V} {tt : List V} {gs : List Bool} (h : Brings K C cS H y tt gs) : AnIns cS H y ∨ AnIns C H y := by
  rcases h with ⟨b, e, ⟨dx, p, hb, _⟩, _⟩ | ⟨b, z, w, g, e, _, _, ⟨dx, hb⟩, _⟩
  · exact .inr ⟨b, dx, _, e, hb⟩
  · exact .inl ⟨b, dx, _, e, hb⟩
/-- x * y, whatever they are -/
theorem mul_read {K : PySem.W.Frag} {C0 C cS : Addr} {E : L2.St → XK} {σ : L2.St} {H : Hp} {x y : V} {ss tt : List V} {gs hs : List Bool} {Q : VK} (hx : Brings K C cS H x ss gs) (hy : Brings K C cS H y tt hs) (l1 : ss.length ≤ 400) (l2 : tt.length ≤ 400) (bad : (false ∈ gs ∨ false ∈ hs) → outsC C0 (E σ) H)
    (good : false ∉ gs → false ∉ hs → ∀ b H', Same H H' → ChAt K C cS H' b (ss ++ tt) → Q (.ref b) H') : rMul K C0 C cS E σ x y H Q := by
  have iy := hy.ins
  rcases hx with ⟨b, rfl, hc, rfl⟩ | ⟨b, z, w, g, rfl, rfl, rfl, ⟨dx, hb⟩, l3, k⟩
  · have hc0 := hc
    obtain ⟨dx, p, hb, _⟩ := hc
    have nf : false ∉ (ss.map fun _ => true) := fun e => by
      obtain ⟨_, _, e⟩ := List.mem_map.mp e
      cases e
    exact .inr ⟨⟨b, dx, _, rfl, hb⟩, iy.symm, b, y, ss, tt, hs, rfl, hc0, hy, by omega, fun e => bad (.inr e), fun e c H' s h => ⟨⟨c, rfl⟩, good nf e c H' s h⟩⟩
  · refine .inl ⟨⟨b, dx, _, rfl, hb⟩, iy, b, z, w, g, y, tt, hs, rfl, ⟨dx, hb⟩, l3, k, hy, by omega, fun e => bad (e.imp (fun e => by rw [e]; exact List.mem_singleton.mpr rfl) id), fun e1 e c H' s h => ⟨⟨c, rfl⟩, good (fun z => ?_) e c H' s h⟩⟩
    rw [e1] at z
    cases List.mem_singleton.mp z
def spRef4 (K : PySem.W.Frag) (C cS : Addr) : Sp := fun vs H Q _ => ∃ (a : Addr) (y : V) (z w : Str) (tt : List V) (gs : List Bool), vs = [.ref a, y] ∧ StepAt cS H a z w ∧ w.length ≤ 3 ∧ w.length ≠ 1 ∧ Brings K C cS H y tt gs ∧ tt.length ≤ 20 ∧ ∀ H', Same H H' → Q (.bl true) H'
theorem seq_for4 {g : TG} {tb rest : TS} {D : Ends} {σ : L2.St} {H : Hp} (Pv : Nat → L2.St → Hp → Prop) (h0 : Pv 0 σ H) (hs : ∀ i σ H, i < 4 → Pv i σ H → g (.int (0 + (i : Int))) σ H fun σ2 H2 => tb { D with nx := Pv (i + 1), ct := Pv (i + 1), bk := rest D } σ2 H2)
    (hd : ∀ σ H, Pv 4 σ H → rest D σ H) : tSeq (tFor (iRng1 (tCons (tC (.int 4)) tNil)) g tb) rest D σ H := ⟨4, rfl, by decide, by decide, for_range (lo := 0) (n := 4) Pv h0 hs hd⟩
section
variable {P : Program} {w : World} {K : PySem.W.Frag} {mg : Str → Option Value} {base : Heap}
def nRf4 : List Str := ["_law_step", "_law_other", "_law_found", "_law_kept", "_law_way", "_law_e"]
theorem scRf4 : FnScope nRf4 ["_law_step", "_law_other"] (defScope sRefuses) := ⟨rfl, rfl, rfl, by decide +kernel, rfl, by decide +kernel, by decide +kernel⟩
theorem ok_refuses {C0 C cS fI mS mC pS pC fE f : Addr} {gS gC hS hC fdE fd : FuncData} (S : Std mg) (O : ChOps K mg C cS fI mS mC pS pC gS gC hS hC) (e0 : Er K mg 0 C0 fE fdE) (ex : PySem.W.exmOne K (.ref C0) (.ref C0) = some true)
    (GM : FnOk P w K mg base (L2N.CX P w) 7 mS gS ["self", "other"] (spStMul K C0 C cS)) (GN : FnOk P w K mg base (L2N.CX P w) 7 mC gC ["self", "other"] (spJoin K C0 C cS))
    (GP : FnOk P w K mg base (L2N.CX P w) 7 pS hS ["self", "other"] (spStPow K C0 C cS)) (GQ : FnOk P w K mg base (L2N.CX P w) 7 pC hC ["self", "other"] (spRep K C cS)) (F : Fun K "_law_refuses" "_law_refuses" sRefuses f fd) : FnOk P w K mg base CX0 8 f fd ["_law_step", "_law_other"] (spRef4 K C cS) := by
  refine F.ok scRf4 (fun vs H Q E h => ?_) (fun cdv A outer s H vs Q E hr h => ?_)
  · obtain ⟨a, y, z, w', tt, gs, rfl, _⟩ := h
    rfl
  · obtain ⟨a, y, z, w', tt, gs, rfl, ⟨dx, ha⟩, l3, l1, hb, t20, q⟩ := h
    refine ⟨_, pss_cons (ps_par (i := 2) (j := 3) rfl scRf4.nd rfl rfl (by decide) rfl rfl (pa_cons (pe_lst pa_nil) (pa_cons pe_non pa_nil)) rfl)
      (pss_cons (ps_for PassesOwn.never rfl (pi_range1 (by rfl) S.range (pa_cons pe_int pa_nil)) (pg_name (i := 4) scRf4.nd rfl (Or.inl rfl))
        (pss_one (L2N.ps_try_as (i := 5) (Wout := fun _ _ _ _ => False) rfl rfl scRf4.nd rfl rfl ⟨rfl, by decide, .inl e0.g⟩ tk0
          (fun W pn xe tk _ => pss_one (ps_if (pt_cmpR op_eq (pv 4) pe_int (nomark _)) (pss_one (ps_set (i := 3) scRf4.nd rfl (Or.inl rfl) (pe_opS (show OpRS _ _ (rMul K C0 C cS _) from op_mul4 O GM GN (fun σ => L2N.passAt tk σ) hr) (pv 0) (pv 1))))
            (pss_one (ps_if (pt_cmpR op_eq (pv 4) pe_int (nomark _)) (pss_one (ps_set (i := 3) scRf4.nd rfl (Or.inl rfl) (pe_opS (show OpRS _ _ (rMul K C0 C cS _) from op_mul4 O GM GN (fun σ => L2N.passAt tk σ) hr) (pv 1) (pv 0))))
              (pss_one (ps_if (pt_cmpR op_eq (pv 4) pe_int (nomark _)) (pss_one (ps_set (i := 3) scRf4.nd rfl (Or.inl rfl) (pe_opS (show OpRS _ _ (rPow K C0 C cS _) from op_pow O GP GQ (fun σ => L2N.passAt tk σ) hr) (pv 0) pe_int)))
                (pss_one (ps_set (i := 3) scRf4.nd rfl (Or.inl rfl) (pe_opS (show OpRS _ _ (rPow K C0 C cS _) from op_pow O GP GQ (fun σ => L2N.passAt tk σ) hr) (pv 0) pe_int)))))))))
          (fun a oe cls d pn zn fl => pss_one (ps_expr (show PE _ _ (tBM K "list" rAppend (tVar 2) (tCons _ tNil)) from pe_bm PySem.F.plainAttrs_list PySem.F.slot_list_append PySem.F.type_list_append mt_append (pv 2) (pa_cons (pe_xf e0.X e0.no zn.zc fl (pv 5)) pa_nil)))))))
      (pss_one (ps_ret (pe_and (pe_cmpR (show OpR _ _ (rEqD K) from op_eqD hr.units) (pv 2) (pe_op op_rep (pe_lst (pa_cons pe_str pa_nil)) pe_int) (nomark _)) (pe_one (pe_cmp (pc_isN (pv 3)))))))), ?_⟩
    refine ⟨(by show 0 ≤ sizeLine; decide), fun L hL => ⟨_, _, rfl, ?_⟩⟩
    have s0 := same_new (o := .lst []) hL
    dsimp only
    refine seq_for4 (fun i σ' H' => (∃ v4 o5, σ' = [some (.ref a), some y, some (.ref L), some .non, v4, o5]) ∧ Same H H' ∧ H' L = some (.lst (List.replicate i (V.str "chain")))) ⟨⟨_, _, rfl⟩, s0, upd_same⟩ ?_ ?_
    · rintro i σ' H1 hi ⟨⟨v4, o5, rfl⟩, s1, hL1⟩
      have ha1 := s1 _ _ ha
      have hb1 := hb.same s1
      have bad : LkV K cS H1 (.ref a) false := .inr ⟨rfl, .inl ⟨a, z, w', rfl, ⟨dx, ha1⟩, l3, l1⟩⟩
      have bra : Brings K C cS H1 (.ref a) [.ref a] [false] := .inr ⟨a, z, w', false, rfl, rfl, rfl, ⟨dx, ha1⟩, l3, bad⟩
      refine ⟨_, rfl, rfl, _, rfl, ite2 (fun _ => ?_) (fun _ => ?_)⟩
      · refine ⟨_, rfl, _, rfl, mul_read bra hb1 (by show 1 ≤ 400; decide) (by omega) (fun _ d H2 s2 hd nd => ?_) (fun e => (e (List.mem_singleton.mpr rfl)).elim)⟩
        refine ⟨true, ex, fun _ a' ha' => ?_, fun z => nomatch z⟩
        have hL2 := s2 _ _ hL1
        refine ⟨_, rfl, .inl ⟨rfl, _, SqL.of hL2⟩, _, rfl, rfl, rfl, d, _, _, rfl, hd, rfl, L, _, .str "chain", rfl, rfl, hL2, by rw [List.length_replicate, sizeLine_eq]; omega, ⟨_, _, rfl⟩, same_put hL (s1.trans s2), ?_⟩
        rw [upd_same, List.replicate_succ']
      refine ⟨_, rfl, rfl, _, rfl, ite2 (fun _ => ?_) (fun _ => ?_)⟩
      · refine ⟨_, rfl, _, rfl, mul_read hb1 bra (by omega) (by show 1 ≤ 400; decide) (fun _ d H2 s2 hd nd => ?_) (fun _ e => (e (List.mem_singleton.mpr rfl)).elim)⟩
        refine ⟨true, ex, fun _ a' ha' => ?_, fun z => nomatch z⟩
        have hL2 := s2 _ _ hL1
        refine ⟨_, rfl, .inl ⟨rfl, _, SqL.of hL2⟩, _, rfl, rfl, rfl, d, _, _, rfl, hd, rfl, L, _, .str "chain", rfl, rfl, hL2, by rw [List.length_replicate, sizeLine_eq]; omega, ⟨_, _, rfl⟩, same_put hL (s1.trans s2), ?_⟩
        rw [upd_same, List.replicate_succ']
      refine ⟨_, rfl, rfl, _, rfl, ite2 (fun _ => ?_) (fun _ => ?_)⟩
      · refine ⟨_, rfl, .inl ⟨⟨a, dx, _, rfl, ha1⟩, ⟨_, rfl⟩, a, z, w', false, 0, rfl, ⟨dx, ha1⟩, l3, bad, by decide, (fun _ d H2 s2 hd nd => ?_), fun e => nomatch e⟩⟩
        refine ⟨true, ex, fun _ a' ha' => ?_, fun z => nomatch z⟩
        have hL2 := s2 _ _ hL1
        refine ⟨_, rfl, .inl ⟨rfl, _, SqL.of hL2⟩, _, rfl, rfl, rfl, d, _, _, rfl, hd, rfl, L, _, .str "chain", rfl, rfl, hL2, by rw [List.length_replicate, sizeLine_eq]; omega, ⟨_, _, rfl⟩, same_put hL (s1.trans s2), ?_⟩
        rw [upd_same, List.replicate_succ']
      · refine ⟨_, rfl, .inl ⟨⟨a, dx, _, rfl, ha1⟩, ⟨_, rfl⟩, a, z, w', false, 2, rfl, ⟨dx, ha1⟩, l3, bad, by decide, (fun _ d H2 s2 hd nd => ?_), fun e => nomatch e⟩⟩
        refine ⟨true, ex, fun _ a' ha' => ?_, fun z => nomatch z⟩
        have hL2 := s2 _ _ hL1
        refine ⟨_, rfl, .inl ⟨rfl, _, SqL.of hL2⟩, _, rfl, rfl, rfl, d, _, _, rfl, hd, rfl, L, _, .str "chain", rfl, rfl, hL2, by rw [List.length_replicate, sizeLine_eq]; omega, ⟨_, _, rfl⟩, same_put hL (s1.trans s2), ?_⟩
        rw [upd_same, List.replicate_succ']
    · rintro σ' H1 ⟨⟨v4, o5, rfl⟩, s1, hL1⟩
      refine ⟨_, rfl, (by show 1 ≤ sizeLine; decide), fun l1' hl1 => ⟨l1', 4, [.str "chain"], rfl, rfl, upd_same, by decide, by decide, (by show 1 * 4 ≤ sizeLine; decide), fun p2 hp2 => ?_⟩⟩
      have s2 := (same_new (o := .lst [V.str "chain"]) hl1).trans (same_new (o := .lst (List.replicate (4 : Int).toNat [V.str "chain"]).flatten) hp2)
      have hL2 := s2 _ _ hL1
      refine ⟨.list [.str "chain", .str "chain", .str "chain", .str "chain"], .list [.str "chain", .str "chain", .str "chain", .str "chain"], .lst (SqL.of hL2) (.cons (.str _) (.cons (.str _) (.cons (.str _) (.cons (.str _) .nil)))), .lst (SqL.of upd_same) (.cons (.str _) (.cons (.str _) (.cons (.str _) (.cons (.str _) .nil)))), by decide +kernel, by decide +kernel, _, rfl, ?_⟩
      rw [show PyData.eqv (.list [.str "chain", .str "chain", .str "chain", .str "chain"]) (.list [.str "chain", .str "chain", .str "chain", .str "chain"]) = true by decide +kernel]
      exact iteT ⟨_, rfl, q _ (s1.trans s2)⟩
end
end LK

/-! != of lists of things with an own __eq__: either answer -/
namespace LR
open PySem PySem.Spec PySem.SeqAt
open AutoSeq1 (wpAny_loadPart')
open MeetsSeq MeetsSeq2 MeetsSeq3 SeqRoads2
section
variable {prog : Program} {w : World} {A : Around} {R : Result → Shared → Prop}
theorem ne_loopB (l b : Addr) (N : Nat) (f : Nat → Bool) (I : Shared → Prop) (hl : ListB l b N I) (turn : TurnB prog w A (fun e s' => R (.error e) s') l b f I)
    (res : Bool) (no : ∀ i, i < N → f i = false → res = true) (yes : (∀ i, i < N → f i = true) → res = false)
    (fin : ∀ s, I s → R (.ok (.ret (.bool res))) s) (k : Nat) :
    ∀ i : Nat, N - i = k → i ≤ N → (∀ j, j < i → f j = true) → ∀ s, I s →
      wpAny (model prog w) A.in1 (Builtin.«list.__eq__.loop» ⟨[.ref l, .ref b, rawInt i, rawInt 3], []⟩) (GQ.FinOf prog w A R) (fun e s' => R (.error e) s') s := by
  induction k with
  | zero =>
    intro i hk hi hj s h
    obtain ⟨items, items2, n, n2, hl1, hb1, hs1, hs2⟩ := hl _ h
    have hi' : i = N := by omega
    have hR : R (.ok (.ret (.bool res))) s := fin s h
    rw [yes fun j q => hj j (by omega)] at hR
    obtain ⟨hp, g, d, tk, os⟩ := s
    wp_walk using wpAny_loadPart' hl1, wpAny_loadPart' hb1
    have hi1 : items[((i : Nat) : Int).toNat]? = none := by simp; omega
    have hi2 : items2[((i : Nat) : Int).toNat]? = none := by simp; omega
    rw [hi1, hi2]
    wp_walk using wpAny_loadPart' hl1, wpAny_loadPart' hb1
    show R (.ok (.ret (.bool (items.size != items2.size)))) _
    rw [hs1, hs2]
    simpa using hR
  | succ k ih =>
    intro i hk hi hj s h
    obtain ⟨items, items2, n, n2, hl1, hb1, hs1, hs2⟩ := hl _ h
    have hlt : i < items.size := by omega
    have hlt2 : i < items2.size := by omega
    have ht := turn s items items2 n n2 h hl1 hb1 i hlt hlt2
    obtain ⟨hp, g, d, tk, os⟩ := s
    wp_walk using wpAny_loadPart' hl1, wpAny_loadPart' hb1
    have hi1 : items[((i : Nat) : Int).toNat]? = some items[i] := by simp [hlt]
    have hi2 : items2[((i : Nat) : Int).toNat]? = some items2[i] := by simp [hlt2]
    have hc : ((i : Int) + 1) = ((i + 1 : Nat) : Int) := by omega
    rw [hi1, hi2]
    refine wpAny_bind (wpAny_mono ht (fun r s2 h2 => ?_) fun _ _ x => x)
    obtain ⟨hr, h2⟩ := h2
    subst hr
    cases hf : f i with
    | true =>
      have hrec := ih (i + 1) (by omega) (by omega) (fun j q => by
        rcases Nat.lt_or_ge j i with q' | q'
        · exact hj j q'
        · rw [show j = i by omega]; exact hf) s2 h2
      obtain ⟨hp2, g2, d2, tk2, os2⟩ := s2
      wp_walk
      rw [hc]
      exact ⟨plainId_quiet plain_eq_loop _, codeAny_builtin entry_eq_loop (by
        rw [Around.under_plainId plain_eq_loop _]
        exact hrec)⟩
    | false =>
      have hR : R (.ok (.ret (.bool res))) s2 := fin s2 h2
      rw [no i (by omega) hf] at hR
      obtain ⟨items', items2', n', n2', hl1', hb1', hs1', hs2'⟩ := hl _ h2
      obtain ⟨hp2, g2, d2, tk2, os2⟩ := s2
      wp_walk using wpAny_loadPart' hl1', wpAny_loadPart' hb1'
      have hi1' : items'[((i : Nat) : Int).toNat]? = some (items'[i]'(by omega)) := by simp
      have hi2' : items2'[((i : Nat) : Int).toNat]? = some (items2'[i]'(by omega)) := by simp
      rw [hi1', hi2']
      wp_walk
      exact hR
theorem list_neB (l b : Addr) (N : Nat) (f : Nat → Bool) (I : Shared → Prop) (hl : ListB l b N I) (turn : TurnB prog w A (fun e s' => R (.error e) s') l b f I)
    (res : Bool) (no : ∀ i, i < N → f i = false → res = true) (yes : (∀ i, i < N → f i = true) → res = false)
    (fin : ∀ s, I s → R (.ok (.ret (.bool res))) s) {s : Shared} (h : I s) :
    wpAny (model prog w) A.in1 (Builtin.«list.__ne__» ⟨[.ref l, .ref b], []⟩) (GQ.FinOf prog w A R) (fun e s' => R (.error e) s') s := by
  obtain ⟨items, items2, n, n2, hl1, hb1, hs1, hs2⟩ := hl _ h
  have hrec := ne_loopB (A := A) (R := R) l b N f I hl turn res no yes fin _ 0 rfl (Nat.zero_le _) (fun j q => absurd q (Nat.not_lt_zero _)) s h
  obtain ⟨hp, g, d, tk, os⟩ := s
  have f3 := AutoSeq1.sub_list_list
  have hne : ¬ (items.size != items2.size) = true := by simp [hs1, hs2]
  wp_walk using wpAny_loadPart' hl1, wpAny_loadPart' hb1
  exact ⟨plainId_quiet plain_eq_loop _, codeAny_builtin entry_eq_loop (by
    rw [Around.under_plainId plain_eq_loop _]
    exact hrec)⟩
theorem rc_listNB {E : Value → Shared → Prop} {s : Shared} {l b : Addr} {N : Nat} {Q : Value → Shared → Prop} (hu : A.units < cLine) (f : Nat → Bool) (I : Shared → Prop) (hl : ListB l b N I) (turn : TurnB prog w A E l b f I)
    (res : Bool) (no : ∀ i, i < N → f i = false → res = true) (yes : (∀ i, i < N → f i = true) → res = false)
    (fin : ∀ s, I s → Q (.bool res) s) (h : I s) : wpAny (model prog w) A (richCompare .NotEq (.ref l) (.ref b)) Q E s := by
  obtain ⟨items, items2, n, n2, hl1, hb1, _, _⟩ := hl _ h
  refine wpAny_richCompare_same_room (op := .NotEq) ⟨_, hl1, rfl⟩ ⟨_, hb1, rfl⟩ F.slot_list_ne (GQ.call_here F.slot_list_ne ⟨_, hl1, rfl⟩ F.entry_list_ne (F.args_list_ne_2 _ _) ?_) hu
  exact list_neB (R := wants (fun v s' => v ≠ .notImplemented ∧ Q v s') E) l b N f I hl turn res no yes (fun s' q => ⟨(fun x => nomatch x), fin s' q⟩) h
end
end LR
namespace LR
open PySem PySem.Spec PyProof.Rows L2
section
variable {X : Cx} {n : Nat} {D : EqvB}
def rNeGB (D : EqvB) : R2 := fun x y H Q => ∃ a b xs ys f, x = .ref a ∧ y = .ref b ∧ H a = some (.lst xs) ∧ H b = some (.lst ys) ∧ (xs.length = ys.length → PrsB D xs ys f H) ∧ ∀ H', Ext H H' → Q (.bl (!ansB xs ys f)) H'
theorem op_neGB (hD : MonB D) (h : EqGB X n D) (hr : Room (n + 1) X.A) : OpR X (compareOp .NotEq) (rNeGB D) := by
  intro pins s σ H x y v u Q I rx ry hq
  obtain ⟨a, b, xs, ys, f, rfl, rfl, ha, hb, p, q⟩ := hq
  cases rx
  cases ry
  have sb : Sub X (n + 1) X.A := ⟨hr, rfl⟩
  show wpAny (model X.prog X.w) X.A (richCompare .NotEq (.ref a) (.ref b)) (EP X pins σ Q) X.xe s
  by_cases hl : xs.length = ys.length
  · have key : ∀ s', LoopI X pins σ H s' → ∃ (its its2 : List Value) (k k2 : Nat), Vals xs its ∧ Vals ys its2 ∧ s'.heap.get? a = some { cls := .type "list", data := .seq its.toArray k } ∧ s'.heap.get? b = some { cls := .type "list", data := .seq its2.toArray k2 } := by
      rintro s' ⟨H1, I1, e1⟩
      obtain ⟨z, its, k, r, e⟩ := I1.hok a _ (e1 _ _ ha)
      obtain ⟨z2, its2, k2, r2, e2⟩ := I1.hok b _ (e1 _ _ hb)
      exact ⟨its, its2, k, k2, r, r2, e, e2⟩
    refine rc_listNB (N := xs.length) sb.room.units0 f (fun s' => LoopI X pins σ H s') (fun s' q => ?_) (fun s' items items2 n1 n2 q g1 g2 i h1 h2 => ?_) (!ansB xs ys f) (fun i h1 q => by rw [ansB_no h1 (by omega) q]; rfl) (fun q => by rw [ansB_yes fun i h1 h2 => q i h1, hl]; simp) (fun s' z => ?_) ⟨H, I, Ext.rfl'⟩
    · obtain ⟨its, its2, k, k2, r, r2, e, e2⟩ := key s' q
      exact ⟨its.toArray, its2.toArray, k, k2, e, e2, by rw [List.size_toArray, ← r.length], by rw [List.size_toArray, ← r2.length, ← hl]⟩
    · obtain ⟨its, its2, k, k2, r, r2, e, e2⟩ := key s' q
      rw [g1] at e
      rw [g2] at e2
      obtain ⟨rfl⟩ : items = its.toArray := by injection e with e; injection e with _ _ e; injection e
      obtain ⟨rfl⟩ : items2 = its2.toArray := by injection e2 with e; injection e with _ _ e; injection e
      exact turnB hD h sb (p hl) r r2 i h1 h2 s' q
    · obtain ⟨H', I', e⟩ := z
      exact ⟨.bl (!ansB xs ys f), H', I', rfl, q H' e⟩
  · obtain ⟨us, r1, p1, _⟩ := I.list (SqL.of ha)
    obtain ⟨ws, r2, p2, _⟩ := I.list (SqL.of hb)
    have ans : ansB xs ys f = false := by
      unfold ansB
      rw [show (xs.length == ys.length) = false by simpa using hl, Bool.and_false]
    rw [ans] at q
    exact SeqAt.lr_rcN_len p1.isList p2.isList (by rw [List.size_toArray, List.size_toArray, ← r1.length, ← r2.length]; exact hl) sb.room.units0 _ _ ⟨.bl true, H, I, rfl, q H Ext.rfl'⟩
end
end LR

namespace LK
open PySem PySem.Spec PyProof.Rows L2 LR
/-! ### the law: chains put together -/
theorem Lks.all {K : PySem.W.Frag} {cS : Addr} {H : Hp} {xs : List V} (h : ∀ v ∈ xs, L1 cS H v) : Lks K cS H xs (List.replicate xs.length true) := ⟨by rw [List.length_replicate], fun i v g h1 h2 => by
  rw [List.getElem?_replicate] at h2
  split at h2
  · cases h2
    exact .inl ⟨rfl, h v (List.mem_of_getElem? h1)⟩
  · cases h2⟩
theorem rep_true {n : Nat} : false ∉ List.replicate n true := fun h => by cases (List.mem_replicate.mp h).2
theorem Brings.chain {K : PySem.W.Frag} {C cS : Addr} {H : Hp} {a : Addr} {ss : List V} (h : ChAt K C cS H a ss) : Brings K C cS H (.ref a) ss (ss.map fun _ => true) := .inl ⟨a, rfl, h, rfl⟩
theorem Brings.one {K : PySem.W.Frag} {C cS : Addr} {H : Hp} {v : V} (h : L1 cS H v) : Brings K C cS H v [v] [true] := by
  have h' := h
  obtain ⟨b, z, y, rfl, st, _, wo, l1⟩ := h
  exact .inr ⟨b, z, y, true, rfl, rfl, rfl, st, by omega, .inl ⟨rfl, h'⟩⟩
theorem tt_false {ss : List V} : false ∉ (ss.map fun _ => true) := fun e => by
  obtain ⟨_, _, e⟩ := List.mem_map.mp e
  cases e
theorem rep_len {α : Type} {n : Nat} {xs : List α} : (List.replicate n xs).flatten.length = n * xs.length := by
  induction n with
  | zero => simp
  | succ n ih => rw [List.replicate_succ, List.flatten_cons, List.length_append, ih, Nat.succ_mul, Nat.add_comm]
def spPut4 (cS : Addr) : Sp := fun vs H Q _ => ∃ (l Sx : Addr) (ss : List V), vs = [.ref l, .ref Sx] ∧ Feed H l ∧ Sx ≠ l ∧ H Sx = some (.lst ss) ∧ 0 < ss.length ∧ ss.length ≤ 20 ∧ (∀ v ∈ ss, L1 cS H v) ∧ ∀ H', Feed H' l → Keep l H H' → Q (.bl true) H'
theorem L1.keep {cS l : Addr} {H H' : Hp} {v : V} (f : Feed H l) (k : Keep l H H') (h : L1 cS H v) : L1 cS H' v := by
  obtain ⟨b, z, y, e, ⟨dx, hb⟩, r⟩ := h
  refine ⟨b, z, y, e, ⟨dx, k _ _ (fun e => ?_) hb⟩, r⟩
  obtain ⟨_, _, q, _⟩ := f
  rw [e, q] at hb
  cases hb
theorem ChAt.keep {K : PySem.W.Frag} {C cS l : Addr} {H H' : Hp} {a : Addr} {ss : List V} (f : Feed H l) (k : Keep l H H') (h : ChAt K C cS H a ss) : ChAt K C cS H' a ss := by
  obtain ⟨dx, p, e, t, g⟩ := h
  obtain ⟨_, _, q, _⟩ := id f
  exact ⟨dx, p, k _ _ (fun x => by rw [x, q] at e; cases e) e, k _ _ (fun x => by rw [x, q] at t; cases t) t, fun v hv => (g v hv).keep f k⟩
section
variable {P : Program} {w : World} {K : PySem.W.Frag} {mg : Str → Option Value} {base : Heap}
def nPT4 : List Str := ["_law_feed_here", "_law_steps_here", "_law_one", "_law_other", "_law_first", "_law_second", "_law_f", "_law_g", "_law_many", "_law_more", "_law_right_here"]
theorem scPT4 : FnScope nPT4 ["_law_feed_here", "_law_steps_here"] (defScope sPutTog4) := ⟨rfl, rfl, rfl, by decide +kernel, rfl, by decide +kernel, by decide +kernel⟩
theorem ok_put4 {C0 C cS fI mS mC pS pC fD fP fLs fLC fR fW fEq eS f : Addr} {gS gC hS hC fdD fdP fdLs fdLC fdR fdW dEq dS fd : FuncData} (S : Std mg) (O : ChOps K mg C cS fI mS mC pS pC gS gC hS hC) (s1 : NoAttr K cS "name") (s2 : NoAttr K cS "ways") (qS : EqM K cS sStepEq "Step.__eq__" eS dS)
    (qC : EqM K C sChainEq "Chain.__eq__" fEq dEq) (neC : PySem.W.findIn K (.ref C) "__ne__" = some (some (.builtin "object.__ne__")))
    (D : Df K mg "_law_draw" sDraw fD fdD ["_law_feed_here", "_law_many"]) (PK : Df K mg "_law_pick" sPick fP fdP ["_law_feed_here", "_law_items"]) (LS : Df K mg "_law_steps" sLSteps fLs fdLs ["_law_feed_here", "_law_steps_here", "_law_most"])
    (LC : Df K mg "_law_chain" sLChain fLC fdLC ["_law_some"]) (GLC : FnOk P w K mg base (L2N.CX P w) 6 fLC fdLC ["_law_some"] (spLChain K C0 C cS)) (RT : Df K mg "_law_right" sRight fR fdR ["_law_chain_here", "_law_steps_here"]) (GR : FnOk P w K mg base CX0 27 fR fdR ["_law_chain_here", "_law_steps_here"] (spRt4 K C cS))
    (PW : Df K mg "_law_power" sPower fW fdW ["_law_thing", "_law_many"]) (GI : FnR P w K mg base (L2N.CX P w) 4 fI (spChRaw K C0 cS C))
    (GM : FnOk P w K mg base (L2N.CX P w) 7 mS gS ["self", "other"] (spStMul K C0 C cS)) (GN : FnOk P w K mg base (L2N.CX P w) 7 mC gC ["self", "other"] (spJoin K C0 C cS))
    (GP : FnOk P w K mg base (L2N.CX P w) 7 pS hS ["self", "other"] (spStPow K C0 C cS)) (GQ : FnOk P w K mg base (L2N.CX P w) 7 pC hC ["self", "other"] (spRep K C cS)) (F : Fun K "_law_put_together" "_law_put_together" sPutTog4 f fd) : FnOk P w K mg base CX0 28 f fd ["_law_feed_here", "_law_steps_here"] (spPut4 cS) := by
  have GD : FnOk P w K mg base CX0 1 fD fdD ["_law_feed_here", "_law_many"] spDraw := ok_draw S D.F
  have GK : FnOk P w K mg base CX0 2 fP fdP ["_law_feed_here", "_law_items"] (spPick K) := ok_pick S PK.F D
  have GLs : FnOk P w K mg base CX0 3 fLs fdLs ["_law_feed_here", "_law_steps_here", "_law_most"] (spLSteps cS) := ok_lSteps S D PK LS.F
  have GW : FnOk P w K mg base CX0 8 fW fdW ["_law_thing", "_law_many"] (spPower K C cS) := ok_power S O GP GQ PW.F
  have GE : FnOk P w K mg base CX0 3 fEq dEq ["self", "other"] (spChEq K C cS) := ok_chEq S O.M s1 s2 qS qC.F
  refine F.ok scPT4 (fun vs H Q E h => ?_) (fun cdv A outer s H vs Q E hr h => ?_)
  · obtain ⟨l, Sx, ss, rfl, _⟩ := h
    rfl
  · obtain ⟨l, Sx, ss, rfl, hf, nS, hS, s0, s20, hL, q⟩ := h
    have rm1 : Room 1 _ := hr.mono (by decide)
    have rm2 : Room 2 _ := hr.mono (by decide)
    have rm3 : Room 3 _ := hr.mono (by decide)
    have rm4 : Room 4 _ := hr.mono (by decide)
    have rm5 : Room 5 _ := hr.mono (by decide)
    have rm6 : Room 6 _ := hr.mono (by decide)
    have rm7 : Room 7 _ := hr.mono (by decide)
    have rm8 : Room 8 _ := hr.mono (by decide)
    have OM : OpRS (cxOf CX0 P w K mg base nPT4 "_law_put_together" (defScope sPutTog4) f cdv A outer s H E).nox (binaryOp .Mult) (rMul K C0 C cS fun _ _ _ _ => False) := op_mul4 O GM GN (fun σ => L2N.passAt tk0 σ) rm7
    have OP : OpRS (cxOf CX0 P w K mg base nPT4 "_law_put_together" (defScope sPutTog4) f cdv A outer s H E).nox (binaryOp .Pow) (rPow K C0 C cS fun _ _ _ _ => False) := op_pow O GP GQ (fun σ => L2N.passAt tk0 σ) rm7
    refine ⟨_, pss_cons (ps_par (i := 2) (j := 3) rfl scPT4.nd rfl rfl (by decide) rfl rfl (pa_cons (pe_call GLs rm3 rfl LS.g LS.F.kp LS.b .nil pass0 (pa_cons (pv 0) (pa_cons (pv 1) (pa_cons pe_int pa_nil)))) (pa_cons (pe_call GLs rm3 rfl LS.g LS.F.kp LS.b .nil pass0 (pa_cons (pv 0) (pa_cons (pv 1) (pa_cons pe_int pa_nil)))) pa_nil)) rfl)
      (pss_cons (ps_asg (pe_tup (pa_cons (pe_callS (E := fun _ _ _ _ => False) GLC rm6 rfl LC.g LC.F.kp LC.b (fun σ => L2N.passAt tk0 σ) (pa_cons (pv 2) pa_nil)) (pa_cons (pe_callS (E := fun _ _ _ _ => False) GLC rm6 rfl LC.g LC.F.kp LC.b (fun σ => L2N.passAt tk0 σ) (pa_cons (pv 3) pa_nil))
            (pa_cons (pe_call GK rm2 rfl PK.g PK.F.kp PK.b .nil pass0 (pa_cons (pv 0) (pa_cons (pv 1) pa_nil))) (pa_cons (pe_call GK rm2 rfl PK.g PK.F.kp PK.b .nil pass0 (pa_cons (pv 0) (pa_cons (pv 1) pa_nil))) pa_nil)))))
          (pg_tup (by rfl) (pgs_cons (pg_name (i := 4) scPT4.nd rfl (.inl rfl)) (pgs_cons (pg_name (i := 5) scPT4.nd rfl (.inl rfl)) (pgs_cons (pg_name (i := 6) scPT4.nd rfl (.inl rfl)) (pgs_cons (pg_name (i := 7) scPT4.nd rfl (.inl rfl)) pgs_nil))))))
      (pss_cons (ps_par (i := 8) (j := 9) rfl scPT4.nd rfl rfl (by decide) rfl rfl (pa_cons (pe_call GD rm1 rfl D.g D.F.kp D.b .nil pass0 (pa_cons (pv 0) (pa_cons (pe_ix ix_list (pe_lst (pa_cons pe_int (pa_cons pe_int (pa_cons pe_int (pa_cons pe_int pa_nil))))) (pe_callB call_len_seq (by rfl) S.len PySem.boot_len (pa_cons (pv 2) pa_nil)) (fun _ _ => rfl)) pa_nil)))
          (pa_cons (pe_call GD rm1 rfl D.g D.F.kp D.b .nil pass0 (pa_cons (pv 0) (pa_cons pe_int pa_nil))) pa_nil)) rfl)
      (pss_cons (ps_set (i := 10) scPT4.nd rfl (Or.inl rfl) (pe_lst (pa_cons (pe_call GR hr rfl RT.g RT.F.kp RT.b .nil pass0 (pa_cons (pe_opS OM (pv 4) (pv 5)) (pa_cons (pe_op op_cat (pv 2) (pv 3)) pa_nil)))
          (pa_cons (pe_call GR hr rfl RT.g RT.F.kp RT.b .nil pass0 (pa_cons (pe_opS OM (pv 6) (pv 5)) (pa_cons (pe_op op_cat (pe_lst (pa_cons (pv 6) pa_nil)) (pv 3)) pa_nil))) pa_nil))))
      (pss_cons (ps_set (i := 10) scPT4.nd rfl (Or.inl rfl) (pe_op op_cat (pv 10) (pe_lst (pa_cons (pe_call GR hr rfl RT.g RT.F.kp RT.b .nil pass0 (pa_cons (pe_opS OM (pv 4) (pv 6)) (pa_cons (pe_op op_cat (pv 2) (pe_lst (pa_cons (pv 6) pa_nil))) pa_nil)))
          (pa_cons (pe_call GR hr rfl RT.g RT.F.kp RT.b .nil pass0 (pa_cons (pe_opS OM (pv 6) (pv 7)) (pa_cons (pe_lst (pa_cons (pv 6) (pa_cons (pv 7) pa_nil))) pa_nil))) pa_nil)))))
      (pss_cons (ps_set (i := 10) scPT4.nd rfl (Or.inl rfl) (pe_op op_cat (pv 10) (pe_lst (pa_cons (pe_call GR hr rfl RT.g RT.F.kp RT.b .nil pass0 (pa_cons (pe_call GW rm8 rfl PW.g PW.F.kp PW.b .nil pass0 (pa_cons (pv 4) (pa_cons (pv 8) pa_nil))) (pa_cons (pe_op op_rep (pv 2) (pv 8)) pa_nil)))
          (pa_cons (pe_call GR hr rfl RT.g RT.F.kp RT.b .nil pass0 (pa_cons (pe_call GW rm8 rfl PW.g PW.F.kp PW.b .nil pass0 (pa_cons (pv 6) (pa_cons (pv 9) pa_nil))) (pa_cons (pe_op op_rep (pe_lst (pa_cons (pv 6) pa_nil)) (pv 9)) pa_nil))) pa_nil)))))
      (pss_cons (ps_set (i := 10) scPT4.nd rfl (Or.inl rfl) (pe_op op_cat (pv 10) (pe_lst (pa_cons (pe_call GR hr rfl RT.g RT.F.kp RT.b .nil pass0 (pa_cons (pv 4) (pa_cons (pv 2) pa_nil)))
          (pa_cons (pe_call GR hr rfl RT.g RT.F.kp RT.b .nil pass0 (pa_cons (pv 5) (pa_cons (pv 3) pa_nil)))
          (pa_cons (pe_call GR hr rfl RT.g RT.F.kp RT.b .nil pass0 (pa_cons (pe_opS OP (LR.pe_make0 (E := fun _ _ _ => False) O.M.M GI rm5 rfl O.M.c.g (L2N.passes_call tk0 fun _ _ _ _ h => h)) pe_int) (pa_cons (pe_lst pa_nil) pa_nil))) pa_nil))))))
      (pss_one (ps_ret (pe_and (pe_cmpR (show OpR _ _ (rIn K true) from op_notIn_seq) pe_bl (pv 10) (by rfl))
        (pe_and (pe_cmpR op_eq (pe_cmpR (LR.op_eqOwn (C := C) (E := fun _ _ _ => False) GE qC.at_ qC.fn qC.b pass0 rm3) (pv 4) (pv 5) (nomark _)) (pe_cmpR (op_eqGB (rcGB_list mon_step (eqGB_step (X := (cxOf CX0 P w K mg base nPT4 "_law_put_together" (defScope sPutTog4) f cdv A outer s H E).nox) S O.M.cT s1 s2 qS)) rm2) (pv 2) (pv 3) (nomark _)) (nomark _))
        (pe_one (pe_cmpR op_eq (pe_cmpR (LR.op_neOwn (C := C) (E := fun _ _ _ => False) GE qC.at_ qC.fn neC O.M.c.ob qC.b pass0 rm4) (pv 4) (pv 5) (nomark _)) (pe_cmpR (op_neGB mon_step (eqGB_step (X := (cxOf CX0 P w K mg base nPT4 "_law_put_together" (defScope sPutTog4) f cdv A outer s H E).nox) S O.M.cT s1 s2 qS) rm2) (pv 2) (pv 3) (nomark _)) (nomark _))))))))))))), ?_⟩
    refine ⟨_, rfl, _, rfl, l, Sx, ss, 3, rfl, hf, nS, hS, s0, s20, by decide, fun D1 xs H1 x3 n1 d1 hx1 gx f1 k1 => ?_⟩
    refine ⟨_, rfl, _, rfl, l, Sx, ss, 3, rfl, f1, nS, k1 _ _ nS hS, s0, s20, by decide, fun D2 ys H2 y3 n2 d2 hy2 gy f2 k2 => ⟨_, _, rfl, ?_⟩⟩
    have hx2 := k2 _ _ d1 hx1
    have k02 := k1.trans k2
    have hL2 : ∀ v ∈ ss, L1 cS H2 v := fun v hv => (hL v hv).keep hf k02
    have bx2 : ∀ v ∈ xs, L1 cS H2 v := fun v hv => hL2 v (gx v hv)
    have by2 : ∀ v ∈ ys, L1 cS H2 v := fun v hv => hL2 v (gy v hv)
    have hS2 := k02 _ _ nS hS
    refine ⟨_, rfl, D1, xs, _, rfl, hx2, x3, Lks.all bx2, fun e => (rep_true e).elim, fun _ a H3 s3 ca => ?_⟩
    refine ⟨_, rfl, D2, ys, _, rfl, s3 _ _ hy2, y3, Lks.all fun v hv => (by2 v hv).same s3, fun e => (rep_true e).elim, fun _ b H4 s4 cb => ?_⟩
    have s24 := s3.trans s4
    have f4 := f2.same s24
    refine ⟨_, rfl, _, rfl, l, .ref Sx, (fun v => v ∈ ss), rfl, f4, .inr ⟨Sx, ss, rfl, nS, SqL.of (s24 _ _ hS2), s0, by omega, fun v hv => hv⟩, fun vf H5 mf f5 k5 => ?_⟩
    refine ⟨_, rfl, _, rfl, l, .ref Sx, (fun v => v ∈ ss), rfl, f5, .inr ⟨Sx, ss, rfl, nS, SqL.of (k5 _ _ nS (s24 _ _ hS2)), s0, by omega, fun v hv => hv⟩, fun vg H6 mg f6 k6 => ?_⟩
    refine ⟨(by show 4 ≤ sizeLine; decide), fun p hp => ⟨p, _, rfl, SqT.of upd_same, rfl, _, _, rfl, _, _, rfl, _, _, rfl, _, _, rfl, rfl, ?_⟩⟩
    have k46 : Keep l H4 (upd H6 p (.tup [.ref a, .ref b, vf, vg])) := (k5.trans k6).trans (Keep.new hp)
    have f7 : Feed (upd H6 p (.tup [.ref a, .ref b, vf, vg])) l := f6.same (same_new hp)
    generalize upd H6 p (.tup [.ref a, .ref b, vf, vg]) = H7 at k46 f7 ⊢
    have k27 : Keep l H2 H7 := (Keep.same s24).trans k46
    obtain ⟨m, hm, m1, m9, mm⟩ : ∃ m : Int, [V.int 9, .int 9, .int 5, .int 3][xs.length]? = some (.int m) ∧ 1 ≤ m ∧ m ≤ 9 ∧ (xs.length : Int) * (m - 1) ≤ 8 := by
      generalize xs.length = n at x3 ⊢
      match n, x3 with
      | 0, _ => exact ⟨9, rfl, by decide, by decide, by decide⟩
      | 1, _ => exact ⟨9, rfl, by decide, by decide, by decide⟩
      | 2, _ => exact ⟨5, rfl, by decide, by decide, by decide⟩
      | 3, _ => exact ⟨3, rfl, by decide, by decide, by decide⟩
    refine ⟨_, rfl, (by show 4 ≤ sizeLine; decide), fun p2 hp2 => ?_⟩
    have t7 := same_new (o := .lst [V.int 9, .int 9, .int 5, .int 3]) hp2
    refine ⟨_, rfl, D1, xs, rfl, .inl (SqL.of (t7 _ _ (k27 _ _ d1 hx2))), p2, [V.int 9, .int 9, .int 5, .int 3], (xs.length : Int), _, rfl, rfl, SqL.of upd_same, at_of (j := xs.length) rfl hm, ?_⟩
    refine ⟨l, m, rfl, f7.same t7, m1, by omega, fun d H8 d0 dm f8 k8 => ?_⟩
    refine ⟨_, rfl, l, 9, rfl, f8, by decide, by decide, fun e H9 e0 e9 f9 k9 => ⟨_, _, rfl, ?_⟩⟩
    obtain ⟨nd, rfl⟩ : ∃ n : Nat, d = n := ⟨d.toNat, by omega⟩
    obtain ⟨ne, rfl⟩ : ∃ n : Nat, e = n := ⟨e.toNat, by omega⟩
    have k49 : Keep l H4 H9 := ((k46.trans (Keep.same t7)).trans k8).trans k9
    have k29 : Keep l H2 H9 := (Keep.same s24).trans k49
    have k09 : Keep l H H9 := k02.trans k29
    have hx := k29 _ _ d1 hx2
    have hy := k29 _ _ d2 hy2
    have bx : ∀ v ∈ xs, L1 cS H9 v := fun v hv => (bx2 v hv).keep f2 k29
    have by9 : ∀ v ∈ ys, L1 cS H9 v := fun v hv => (by2 v hv).keep f2 k29
    have bf : L1 cS H9 vf := (hL2 vf mf).keep f2 k29
    have bg : L1 cS H9 vg := (hL2 vg mg).keep f2 k29
    have ca9 : ChAt K C cS H9 a xs := (ca.same s4).keep f4 k49
    have cb9 : ChAt K C cS H9 b ys := cb.keep f4 k49
    clear hx1 hx2 hy2 bx2 by2 hL2 hS2 ca cb s24 s3 s4 f4 f5 f6 k5 k6 k46 f7 k27 t7 f8 k8 k9 k49 k29 f1 f2 k1 k2 k02 hp hp2 hm
    have dm' : xs.length * nd ≤ 8 := by
      have : (xs.length : Int) * nd ≤ xs.length * (m - 1) := Int.mul_le_mul_of_nonneg_left (by omega) (by omega)
      have h8 : ((xs.length * nd : Nat) : Int) ≤ 8 := by
        rw [Int.natCast_mul]
        omega
      omega
    -- first * second, f * second
    refine ⟨_, rfl, _, rfl, mul_read (Brings.chain ca9) (Brings.chain cb9) (by omega) (by omega) (fun e => e.elim (fun e => (tt_false e).elim) fun e => (tt_false e).elim) fun _ _ c1 J1 t1 cc1 => ?_⟩
    refine ⟨_, rfl, _, rfl, D1, D2, xs, ys, rfl, rfl, t1 _ _ hx, t1 _ _ hy, by rw [sizeLine_eq]; omega, fun L1' hL1 => ?_⟩
    refine ⟨c1, L1', xs ++ ys, rfl, cc1.same (same_new hL1), upd_same, by rw [List.length_append]; omega, fun J2 u2 => ?_⟩
    have t2 := (t1.trans (same_new hL1)).trans u2
    clear t1 cc1 hL1 u2
    refine ⟨_, rfl, _, rfl, mul_read (Brings.one (bf.same t2)) (Brings.chain (cb9.same t2)) (by show 1 ≤ 400; decide) (by omega) (fun e => e.elim (fun e => by cases List.mem_singleton.mp e) fun e => (tt_false e).elim) fun _ _ c1 J3 t3 cc1 => ?_⟩
    refine ⟨_, rfl, (by show 1 ≤ sizeLine; decide), fun p3 hp3 => ⟨_, rfl, p3, D2, [vf], ys, rfl, rfl, upd_same, (same_new hp3) _ _ (t3 _ _ (t2 _ _ hy)), by rw [sizeLine_eq]; show 1 + ys.length ≤ _; omega, fun L1' hL1 => ?_⟩⟩
    have t4 := (same_new (o := .lst [vf]) hp3).trans (same_new (o := .lst ([vf] ++ ys)) hL1)
    refine ⟨c1, L1', [vf] ++ ys, rfl, cc1.same t4, upd_same, by rw [List.length_append]; show 1 + ys.length ≤ 20; omega, fun J4 u4 => ⟨(by show 2 ≤ sizeLine; decide), fun R1 hR1 => ?_⟩⟩
    have t5 := (((t2.trans t3).trans t4).trans u4).trans (same_new (o := .lst [V.bl true, .bl true]) hR1)
    have hr1 : (upd J4 R1 (.lst [V.bl true, .bl true])) R1 = some (.lst [V.bl true, .bl true]) := upd_same
    generalize upd J4 R1 (.lst [V.bl true, .bl true]) = J5 at t5 hr1 ⊢
    clear t2 t3 t4 u4 cc1 hp3 hL1 hR1
    -- first * f, f * g
    refine ⟨_, rfl, _, rfl, _, rfl, mul_read (Brings.chain (ca9.same t5)) (Brings.one (bf.same t5)) (by omega) (by show 1 ≤ 400; decide) (fun e => e.elim (fun e => (tt_false e).elim) fun e => by cases List.mem_singleton.mp e) fun _ _ c1 J1 t1 cc1 => ?_⟩
    refine ⟨_, rfl, _, rfl, (by show 1 ≤ sizeLine; decide), fun p3 hp3 => ⟨D1, p3, xs, [vf], rfl, rfl, (same_new hp3) _ _ (t1 _ _ (t5 _ _ hx)), upd_same, by rw [sizeLine_eq]; show xs.length + 1 ≤ _; omega, fun L1' hL1 => ?_⟩⟩
    have t4 := (same_new (o := .lst [vf]) hp3).trans (same_new (o := .lst (xs ++ [vf])) hL1)
    refine ⟨c1, L1', xs ++ [vf], rfl, cc1.same t4, upd_same, by rw [List.length_append]; show xs.length + 1 ≤ 20; omega, fun J2 u2 => ?_⟩
    have t6 := ((t5.trans t1).trans t4).trans u2
    have w6 := (t1.trans t4).trans u2
    clear t1 t4 u2 cc1 hp3 hL1
    refine ⟨_, rfl, _, rfl, mul_read (Brings.one (bf.same t6)) (Brings.one (bg.same t6)) (by show 1 ≤ 400; decide) (by show 1 ≤ 400; decide) (fun e => e.elim (fun e => by cases List.mem_singleton.mp e) fun e => by cases List.mem_singleton.mp e) fun _ _ c1 J1 t1 cc1 => ?_⟩
    refine ⟨_, rfl, _, rfl, (by show 2 ≤ sizeLine; decide), fun L1' hL1 => ?_⟩
    refine ⟨c1, L1', [vf] ++ [vg], rfl, cc1.same (same_new hL1), upd_same, by show 2 ≤ 20; decide, fun J3 u3 => ⟨(by show 2 ≤ sizeLine; decide), fun p4 hp4 => ?_⟩⟩
    have w7 := ((w6.trans (t1.trans (same_new hL1))).trans u3).trans (same_new (o := .lst [V.bl true, .bl true]) hp4)
    refine ⟨R1, p4, _, _, rfl, rfl, w7 _ _ hr1, upd_same, (by show 4 ≤ sizeLine; decide), fun R2 hR2 => ?_⟩
    have t8 := (t5.trans w7).trans (same_new (o := .lst ([V.bl true, .bl true] ++ [V.bl true, .bl true])) hR2)
    have hr2 : (upd (upd J3 p4 (.lst [V.bl true, .bl true])) R2 (.lst ([V.bl true, .bl true] ++ [V.bl true, .bl true]))) R2 = some (.lst ([V.bl true, .bl true] ++ [V.bl true, .bl true])) := upd_same
    generalize upd (upd J3 p4 (.lst [V.bl true, .bl true])) R2 (.lst ([V.bl true, .bl true] ++ [V.bl true, .bl true])) = J5 at t8 hr2 ⊢
    clear t1 t5 t6 w6 w7 u3 cc1 hL1 hp4 hR2 hr1
    -- powers
    obtain ⟨fa, _, _, rfl, _⟩ := id bf
    refine ⟨_, rfl, _, rfl, _, rfl, a, nd, xs, rfl, .inl (ca9.same t8), by omega, by omega, fun c1 J1 t1 cc1 => ?_⟩
    refine ⟨_, rfl, _, rfl, D1, nd, xs, rfl, rfl, t1 _ _ (t8 _ _ hx), by omega, by omega, (by show xs.length * nd ≤ sizeLine; rw [sizeLine_eq]; omega), fun L1' hL1 => ?_⟩
    refine ⟨c1, L1', (List.replicate nd xs).flatten, rfl, cc1.same (same_new hL1), upd_same, by rw [rep_len, Nat.mul_comm]; omega, fun J2 u2 => ?_⟩
    have w1 := (t1.trans (same_new hL1)).trans u2
    have t2 := t8.trans w1
    clear t1 cc1 hL1 u2
    refine ⟨_, rfl, _, rfl, fa, ne, [.ref fa], rfl, .inr ⟨rfl, bf.same t2⟩, by omega, by show 1 ≤ 60; decide, fun c1 J3 t3 cc1 => ?_⟩
    refine ⟨_, rfl, (by show 1 ≤ sizeLine; decide), fun p3 hp3 => ⟨_, rfl, p3, ne, [.ref fa], rfl, rfl, upd_same, by omega, by omega, (by show 1 * ne ≤ sizeLine; rw [sizeLine_eq]; omega), fun L1' hL1 => ?_⟩⟩
    have t4 := (same_new (o := .lst [.ref fa]) hp3).trans (same_new (o := .lst (List.replicate ne [V.ref fa]).flatten) hL1)
    refine ⟨c1, L1', (List.replicate ne [V.ref fa]).flatten, rfl, cc1.same t4, upd_same, by rw [rep_len]; show ne * 1 ≤ 20; omega, fun J4 u4 => ⟨(by show 2 ≤ sizeLine; decide), fun p4 hp4 => ?_⟩⟩
    have w7 := (((w1.trans t3).trans t4).trans u4).trans (same_new (o := .lst [V.bl true, .bl true]) hp4)
    refine ⟨R2, p4, _, _, rfl, rfl, w7 _ _ hr2, upd_same, (by show 6 ≤ sizeLine; decide), fun R3 hR3 => ?_⟩
    have t9 := (t8.trans w7).trans (same_new (o := .lst (([V.bl true, .bl true] ++ [V.bl true, .bl true]) ++ [V.bl true, .bl true])) hR3)
    have hr3 : (upd (upd J4 p4 (.lst [V.bl true, .bl true])) R3 (.lst (([V.bl true, .bl true] ++ [V.bl true, .bl true]) ++ [V.bl true, .bl true]))) R3 = some (.lst (([V.bl true, .bl true] ++ [V.bl true, .bl true]) ++ [V.bl true, .bl true])) := upd_same
    generalize upd (upd J4 p4 (.lst [V.bl true, .bl true])) R3 (.lst (([V.bl true, .bl true] ++ [V.bl true, .bl true]) ++ [V.bl true, .bl true])) = J6 at t9 hr3 ⊢
    clear t2 t3 t4 t8 w1 w7 u4 cc1 hp3 hL1 hp4 hR3 hr2
    -- themselves, the empty one
    refine ⟨_, rfl, _, rfl, _, rfl, a, D1, xs, rfl, ca9.same t9, t9 _ _ hx, by omega, fun J1 u1 => ?_⟩
    have t1 := t9.trans u1
    refine ⟨_, rfl, _, rfl, b, D2, ys, rfl, cb9.same t1, t1 _ _ hy, by omega, fun J2 u2 => ?_⟩
    have t2 := t1.trans u2
    refine chain_made (gs := []) ⟨rfl, fun i v g h => by simp at h⟩ (by decide) (fun e => nomatch e) fun _ c J3 u3 cc => ?_
    show rPow K C0 C cS (fun _ _ _ _ => False) [] (.ref c) (.int ((8 : Nat) : Int)) J3 _
    refine pow_read (.inl cc) (by decide) (by decide) fun c2 J4 u4 cc2 => ?_
    refine ⟨(by show 0 ≤ sizeLine; decide), fun L1' hL1 => ⟨c2, L1', [], rfl, cc2.same (same_new hL1), upd_same, by decide, fun J5 u5 => ⟨(by show 3 ≤ sizeLine; decide), fun p4 hp4 => ?_⟩⟩⟩
    have w7 := ((((u1.trans u2).trans u3).trans u4).trans ((same_new (o := .lst []) hL1).trans u5)).trans (same_new (o := .lst [V.bl true, .bl true, .bl true]) hp4)
    refine ⟨R3, p4, _, _, rfl, rfl, w7 _ _ hr3, upd_same, (by show 9 ≤ sizeLine; decide), fun R4 hR4 => ?_⟩
    have t10 := (t9.trans w7).trans (same_new (o := .lst ((([V.bl true, .bl true] ++ [V.bl true, .bl true]) ++ [V.bl true, .bl true]) ++ [V.bl true, .bl true, .bl true])) hR4)
    have hr4 : (upd (upd J5 p4 (.lst [V.bl true, .bl true, .bl true])) R4 (.lst ((([V.bl true, .bl true] ++ [V.bl true, .bl true]) ++ [V.bl true, .bl true]) ++ [V.bl true, .bl true, .bl true]))) R4 = some (.lst ((([V.bl true, .bl true] ++ [V.bl true, .bl true]) ++ [V.bl true, .bl true]) ++ [V.bl true, .bl true, .bl true])) := upd_same
    generalize upd (upd J5 p4 (.lst [V.bl true, .bl true, .bl true])) R4 (.lst ((([V.bl true, .bl true] ++ [V.bl true, .bl true]) ++ [V.bl true, .bl true]) ++ [V.bl true, .bl true, .bl true])) = J6 at t10 hr4 ⊢
    clear t1 t2 t9 w7 u1 u2 u3 u4 u5 cc cc2 hL1 hp4 hR4 hr3
    refine ⟨_, rfl, R4, _, rfl, .inl (SqL.of hr4), rfl, rfl, true, rfl, iteT ?_⟩
    -- compared
    obtain ⟨zs, hz⟩ := els_of (K := K) fun v hv => (bx v hv).same t10
    obtain ⟨zs', hz'⟩ := els_of (K := K) fun v hv => (by9 v hv).same t10
    have bb : ∀ (r : Bool) [Decidable (V.bl r = V.bl r)], decide (V.bl r = V.bl r) = true := fun r _ => decide_eq_true rfl
    have ca10 := ca9.same t10
    have cb10 := cb9.same t10
    obtain ⟨dxa, pa, ha, _⟩ := id ca10
    obtain ⟨dxb, pb, hb, _⟩ := id cb10
    have eqs : ∀ {J}, Same J6 J → PrsB (DStep cS) xs ys (zyEq zs zs') J ∧ ansB xs ys (zyEq zs zs') = decide (zs = zs') := fun t => els_prs (hz.same t) (hz'.same t)
    refine ⟨_, rfl, _, rfl, a, dxa, _, .ref C, rfl, ha, O.M.c.ty hb, nf_own, a, .ref b, xs, zs, rfl, ⟨ca10, hz⟩, .inl ⟨b, ys, zs', rfl, ⟨cb10, hz'⟩, fun J1 u1 => ⟨_, rfl, ?_⟩⟩⟩
    refine ⟨_, rfl, _, rfl, _, ⟨D1, D2, xs, ys, _, rfl, rfl, u1 _ _ (t10 _ _ hx), u1 _ _ (t10 _ _ hy), fun _ => (eqs u1).1, rfl⟩, fun J2 u2 => ?_⟩
    rw [(eqs u1).2]
    refine ⟨rfl, ?_⟩
    rw [bb]
    refine ⟨true, rfl, iteT ?_⟩
    have t12 := u1.trans u2
    refine ⟨_, rfl, _, rfl, a, dxa, _, .ref C, rfl, t12 _ _ ha, O.M.c.ty (t12 _ _ hb), nf_own, a, .ref b, xs, zs, rfl, ⟨ca10.same t12, hz.same t12⟩, .inl ⟨b, ys, zs', rfl, ⟨cb10.same t12, hz'.same t12⟩, fun J3 u3 => ⟨_, rfl, ?_⟩⟩⟩
    have t13 := t12.trans u3
    refine ⟨_, rfl, _, rfl, D1, D2, xs, ys, zyEq zs zs', rfl, rfl, t13 _ _ (t10 _ _ hx), t13 _ _ (t10 _ _ hy), fun _ => (eqs t13).1, fun J4 u4 => ?_⟩
    rw [(eqs t13).2]
    refine ⟨rfl, ?_⟩
    rw [bb]
    have t14 := (t10.trans t13).trans u4
    exact q J4 (f9.same t14) (k09.trans (Keep.same t14))
end
end LK

namespace LK
open PySem PySem.Spec PyProof.Rows L2
/-! ### what the law counts as a name, as ways -/
def oneS (c : Nat) : Str := ⟨#[c]⟩
def outB (c : Nat) : Bool := decide (c < 97) || decide (122 < c)
theorem lt_one (a b : Nat) : decide ((oneS a).cps.toList < (oneS b).cps.toList) = decide (a < b) := by
  have e : ((oneS a).cps.toList < (oneS b).cps.toList) ↔ a < b := by
    show ([a] < [b]) ↔ a < b
    constructor
    · intro h
      cases h with
      | rel h => exact h
      | cons h => cases h
    · exact fun h => .rel h
  exact decide_eq_decide.mpr e
theorem out_letters : ∀ c, c < 123 → outB c = !decide (c ∈ letters.cps.toList) := by decide +kernel
theorem out_letters' (c : Nat) : outB c = !decide (c ∈ letters.cps.toList) := by
  by_cases h : c < 123
  · exact out_letters c h
  · have h1 : outB c = true := by
      unfold outB
      rw [decide_eq_true (show 122 < c by omega), Bool.or_true]
    have h2 : c ∉ letters.cps.toList := fun m => by
      have := letters_low c m
      omega
    rw [h1, decide_eq_false h2]
    rfl
theorem filter_low (z : Str) : (z.cps.toList.filter outB).isEmpty = lowB z := by
  unfold lowB
  induction z.cps.toList with
  | nil => rfl
  | cons c r ih =>
    rw [List.filter_cons, List.all_cons, ← ih, out_letters' c]
    cases decide (c ∈ letters.cps.toList) <;> simp
theorem take_filter {z : Str} {f : Nat → Bool} {i c : Nat} (hc : z.cps[i]? = some c) : ((z.cps.toList.take (i + 1)).filter f) = ((z.cps.toList.take i).filter f) ++ (if f c = true then [c] else []) := by
  have e : z.cps.toList[i]? = some c := by simpa using hc
  rw [List.take_add_one, e, List.filter_append]
  congr 1
  show List.filter f [c] = _
  rw [List.filter_cons]
  rfl
section
variable {P : Program} {w : World} {K : PySem.W.Frag} {mg : Str → Option Value} {base : Heap}
def nLis : List Str := ["_law_word_here", "_law_letter"]
theorem scLis : FnScope nLis ["_law_word_here"] (defScope sLIsName) := ⟨rfl, rfl, rfl, by decide +kernel, rfl, by decide +kernel, by decide +kernel⟩
theorem ok_lawIsName {f : Addr} {fd : FuncData} (S : Std mg) (F : Fun K "_law_is_name" "_law_is_name" sLIsName f fd) : FnOk P w K mg base CX0 1 f fd ["_law_word_here"] (spIsB K nameB) := by
  refine F.ok scLis (fun vs H Q E h => ?_) (fun cdv A outer s H vs Q E hr h => ?_)
  · obtain ⟨v, rfl, _⟩ := h
    rfl
  · obtain ⟨v, rfl, seen, q⟩ := h
    refine ⟨_, pss_cons (ps_if (PW.pt (pw_or (pt_not (pt_val (pe_callB call_isi (by rfl) S.isi (by decide +kernel) (pa_cons (pv 0) (pa_cons (pe_bltn (v := .ty "str") (by rfl) S.str (by decide +kernel) rfl) pa_nil)))))
          (pw_or (pt_cmpR op_lt (pe_callB call_len (by rfl) S.len PySem.boot_len (pa_cons (pv 0) pa_nil)) pe_int (nomark _)) (pw_or (pt_cmpR op_gt (pe_callB call_len (by rfl) S.len PySem.boot_len (pa_cons (pv 0) pa_nil)) pe_int (nomark _))
          (pw_or1 (pt_cmpR op_in_seq (pv 0) (pe_tup (pa_cons pe_str (pa_cons pe_str (pa_cons pe_str pa_nil)))) (by rfl))))))) (pss_one (ps_ret pe_bl)) pss_nil)
      (pss_one (ps_ret (pe_cmpR (LR.op_eqEnd (Nat.lt_of_le_of_lt (Nat.le_add_right _ 64) hr.units)) (pe_lc (own := [("_law_letter", 1)]) (g := gName 1) rfl scLis.nd (pi_str (pv 0)) (blkOk_by (N := nLis) (sc := defScope sLIsName) (by decide +kernel)) (fun _ _ _ _ _ => pg_name (i := 1) scLis.nd rfl (Or.inl rfl))
          (fun _ _ _ _ _ => pts_one (PW.pt (pw_or (pt_cmpR op_lt_str (pv 1) pe_str (nomark _)) (pw_or1 (pt_cmpR op_gt_str (pv 1) pe_str (nomark _)))))) (fun _ _ _ _ _ => pv 1)) (pe_lst pa_nil) (nomark _)))), ?_⟩
    rcases seen with ⟨z, rfl, len⟩ | ⟨no, t, ty, kt⟩
    · have zl : z.length = z.cps.size := rfl
      have zs : z.length ≤ sizeLine := Nat.le_of_lt (small1000 len)
      have ans : ∀ {b : Bool} {H'}, nameB (.str z) = b → Same H H' → Q (.bl b) H' := fun e s => by rw [← e]; exact q _ s
      have nb : nameB (.str z) = (decide ((1 : Int) ≤ z.length) && (decide ((z.length : Int) ≤ 4) && (!inV (.str z) keptW && lowB z))) := rfl
      refine ⟨_, rfl, _, _, _, _, true, rfl, .ty "str", .base (.str z), kit_ty (by decide +kernel), true, rfl, iteF ?_⟩
      refine ⟨_, rfl, _, z.length, rfl, ⟨zs, rfl⟩, _, _, rfl, rfl, _, rfl, ?_⟩
      by_cases h1 : (z.length : Int) < 1
      · rw [decide_eq_true h1]
        refine iteT (ans ?_ fun _ _ e => e)
        rw [nb, decide_eq_false (by omega)]
        rfl
      rw [decide_eq_false h1]
      refine iteF ⟨_, rfl, _, z.length, rfl, ⟨zs, rfl⟩, _, _, rfl, rfl, _, rfl, ?_⟩
      by_cases h4 : (4 : Int) < z.length
      · rw [decide_eq_true h4]
        refine iteT (ans ?_ fun _ _ e => e)
        rw [nb, decide_eq_false (show ¬ (z.length : Int) ≤ 4 by omega)]
        simp
      rw [decide_eq_false h4]
      refine iteF ⟨_, rfl, by show 3 ≤ sizeLine; decide, fun p hp => ⟨p, _, rfl, .inr (SqT.of upd_same), rfl, rfl, _, rfl, ?_⟩⟩
      have s1 := same_new (o := .tup [V.str "if", .str "else", .str "end"]) hp
      refine ite2 (fun hk => ?_) (fun hk => ?_)
      · refine ans ?_ s1
        have hk' : inV (.str z) keptW = true := by unfold keptW; simpa using hk
        rw [nb, hk']
        simp
      · have hk' : inV (.str z) keptW = false := by unfold keptW; simpa using hk
        refine ⟨_, rfl, z, rfl, fun D hD => lc_str (fun i H4 => Keep D H H4 ∧ H4 D = some (.lst (((z.cps.toList.take i).filter outB).map fun c => V.str (oneS c)))) ⟨(Keep.same s1).trans (Keep.new hD), upd_same⟩ (fun i c H4 hc ⟨k4, d4⟩ => ?_) (fun H4 ⟨k4, d4⟩ => ?_)⟩
        · have lt : i < z.cps.size := (Array.getElem?_eq_some_iff.mp hc).1
          have put : outB c = true → Keep D H (upd H4 D (.lst ((((z.cps.toList.take i).filter outB).map fun c => V.str (oneS c)) ++ [V.str (oneS c)]))) ∧ upd H4 D (.lst ((((z.cps.toList.take i).filter outB).map fun c => V.str (oneS c)) ++ [V.str (oneS c)])) D = some (.lst (((z.cps.toList.take (i + 1)).filter outB).map fun c => V.str (oneS c))) := fun ob => by
            refine ⟨fun b o n e => ?_, ?_⟩
            · rw [upd_ne n]
              exact k4 b o n e
            · rw [upd_same, take_filter hc, if_pos ob, List.map_append]
              rfl
          have room : (((z.cps.toList.take i).filter outB).map fun c => V.str (oneS c)).length < sizeLine := by
            rw [List.length_map]
            have := List.length_filter_le outB (z.cps.toList.take i)
            rw [List.length_take] at this
            exact small1000 (by omega)
          refine ⟨rfl, _, rfl, oneS c, _, rfl, rfl, _, rfl, ?_⟩
          rw [show (("a" : Str)) = oneS 97 by rfl, lt_one]
          by_cases c1 : c < 97
          · rw [decide_eq_true c1]
            refine iteT (iteT ⟨_, rfl, _, d4, room, put ?_⟩)
            unfold outB
            rw [decide_eq_true c1]
            rfl
          · rw [decide_eq_false c1]
            refine iteF ⟨_, rfl, oneS c, _, rfl, rfl, _, rfl, ?_⟩
            rw [show (("z" : Str)) = oneS 122 by rfl, lt_one]
            by_cases c2 : 122 < c
            · rw [decide_eq_true c2]
              refine iteT ⟨_, rfl, _, d4, room, put ?_⟩
              unfold outB
              rw [decide_eq_true c2, Bool.or_true]
            · rw [decide_eq_false c2]
              refine iteF ⟨k4, ?_⟩
              have ob : outB c = false := by
                unfold outB
                rw [decide_eq_false c1, decide_eq_false c2]
                rfl
              rw [take_filter hc, if_neg (by rw [ob]; exact Bool.false_ne_true), List.append_nil]
              exact d4
        · refine ⟨by show 0 ≤ sizeLine; decide, fun e he => ?_⟩
          have s2 := same_new (o := .lst []) he
          have full : z.cps.toList.take z.cps.size = z.cps.toList := by
            rw [show z.cps.size = z.cps.toList.length by simp, List.take_length]
          rw [full] at d4
          refine ⟨_, _, _, rfl, rfl, s2 _ _ d4, upd_same, ans ?_ fun b o e => s2 _ _ (k4 b o (ne_of_none e (s1.free hD)) e)⟩
          rw [List.isEmpty_map, filter_low, nb, hk', decide_eq_true (show (1 : Int) ≤ z.length by omega), decide_eq_true (show (z.length : Int) ≤ 4 by omega)]
          rfl
    · refine ⟨_, rfl, _, _, _, _, false, rfl, .ty "str", ty, kt, false, rfl, iteT ?_⟩
      have z := q H fun _ _ e => e
      rw [nameB_not no] at z
      exact z
end
end LK

namespace LK
open PySem PySem.Spec PyProof.Rows L2 LR
/-! ### what a drawn value is to a chain -/
structure KnE (K : PySem.W.Frag) (k : Kinds) : Prop where
  s : PySem.W.kitOne K (.type "str") (.ref k.cE) = some false
  n : PySem.W.kitOne K (.type "NoneType") (.ref k.cE) = some false
  b : PySem.W.kitOne K (.type "bool") (.ref k.cE) = some false
  i : PySem.W.kitOne K (.type "int") (.ref k.cE) = some false
  l : PySem.W.kitOne K (.type "list") (.ref k.cE) = some false
  t : PySem.W.kitOne K (.type "tuple") (.ref k.cE) = some false
  oS : PySem.W.kitOne K (.ref k.cS) (.ref k.cE) = some false
  oT : PySem.W.kitOne K (.ref k.cT) (.ref k.cE) = some false
  oC : PySem.W.kitOne K (.ref k.cC) (.ref k.cE) = some false
/-- that a text is none of the classes, and what else is none of the steps -/
structure Kno (K : PySem.W.Frag) (k : Kinds) : Prop where
  sS : PySem.W.kitOne K (.type "str") (.ref k.cS) = some false
  sE : PySem.W.kitOne K (.type "str") (.ref k.cE) = some false
  sT : PySem.W.kitOne K (.type "str") (.ref k.cT) = some false
  sC : PySem.W.kitOne K (.type "str") (.ref k.cC) = some false
  n : PySem.W.kitOne K (.type "NoneType") (.ref k.cS) = some false
  b : PySem.W.kitOne K (.type "bool") (.ref k.cS) = some false
  i : PySem.W.kitOne K (.type "int") (.ref k.cS) = some false
  l : PySem.W.kitOne K (.type "list") (.ref k.cS) = some false
  t : PySem.W.kitOne K (.type "tuple") (.ref k.cS) = some false
  oE : PySem.W.kitOne K (.ref k.cE) (.ref k.cS) = some false
  oT : PySem.W.kitOne K (.ref k.cT) (.ref k.cS) = some false
  oC : PySem.W.kitOne K (.ref k.cC) (.ref k.cS) = some false
theorem el_of_leaf {K : PySem.W.Frag} {mg : Str → Option Value} {k : Kinds} {eS eE eT eC : Addr} {dS dE dT dC : FuncData} {H : Hp} {v : V} (k' : Kin K mg k eS eE eT eC dS dE dT dC) (N : Kno K k) (h : Leaf K k H v) : ∃ o, El K k.cS H v o := by
  cases h with
  | non => exact ⟨none, _, .base .non, N.n⟩
  | bl b => exact ⟨none, _, .base (.bl b), N.b⟩
  | int i => exact ⟨none, _, .base (.int i), N.i⟩
  | str z h => exact ⟨none, _, .base (.str z), N.sS⟩
  | @step a z y h hz hy => exact ⟨some (z, y), a, rfl, h, hz, hy⟩
  | expr h =>
    obtain ⟨dx, z, p, x1, x2, x3, x4, e, hp⟩ := h
    exact ⟨none, _, k'.E.ty e, N.oE⟩
  | trait h =>
    obtain ⟨dx, z, p, b, e, hp⟩ := h
    exact ⟨none, _, k'.T.ty e, N.oT⟩
  | chain h =>
    obtain ⟨dx, p, b, e, hp⟩ := h
    exact ⟨none, _, k'.C.ty e, N.oC⟩
theorem el_of_alike {K : PySem.W.Frag} {mg : Str → Option Value} {k : Kinds} {eS eE eT eC : Addr} {dS dE dT dC : FuncData} {H : Hp} {x y : V} (k' : Kin K mg k eS eE eT eC dS dE dT dC) (N : Kno K k) : ∀ {n : Nat}, Alike K k n H x y → ∃ o, El K k.cS H x o
  | 0, h => h.elim
  | n + 1, h => by
    rcases h with ⟨h, _⟩ | ⟨a, b, xs, ys, rfl, _, _, _, hq, _⟩
    · exact el_of_leaf k' N h
    · rcases hq with ⟨h, _⟩ | ⟨h, _⟩
      · exact ⟨none, _, .base (.lst h), N.l⟩
      · exact ⟨none, _, .base (.tup h), N.t⟩
theorem Keep.del {l : Addr} {H H' : Hp} (k : Keep l H H') : Same (L2.del H l) (L2.del H' l) := fun b o e => by
  have hb : b ≠ l := fun z => by
    rw [z, del_same] at e
    cases e
  rw [del_ne hb] at e ⊢
  exact k b o hb e
theorem del_sub {l : Addr} {H : Hp} : Same (L2.del H l) H := fun b o e => by
  have hb : b ≠ l := fun z => by
    rw [z, del_same] at e
    cases e
  rw [del_ne hb] at e
  exact e
theorem same_del {l : Addr} {H H' : Hp} (s : Same H H') : Same (L2.del H l) (L2.del H' l) := (Keep.same s).del
theorem nw_del {l : Addr} {H H' : Hp} (hf : Feed H l) : Same (nw H H') (L2.del H' l) := fun b o e => by
  obtain ⟨e1, e2⟩ := nw_some e
  have hb : b ≠ l := fun z => by
    obtain ⟨_, _, q, _⟩ := hf
    rw [z, q] at e1
    cases e1
  rw [del_ne hb]
  exact e2
/-- a value drawn: a name, or an expression, or neither -/
def Dr (K : PySem.W.Frag) (k : Kinds) (H : Hp) (v : V) : Prop :=
  (∃ z, v = .str z ∧ NameOk z) ∨ (∃ a dx fs, v = .ref a ∧ H a = some (.ins k.cE dx fs)) ∨ ∃ t, TyX K H v t ∧ PySem.W.kitOne K t (.ref k.cE) = some false ∧ Seen K H v ∧ nameB v = false
theorem dr_str {K : PySem.W.Frag} {k : Kinds} {H : Hp} {y : Str} (N : KnE K k) (len : y.length ≤ 1000) : Dr K k H (.str y) := by
  by_cases nb : nameB (.str y) = true
  · exact .inl ⟨y, rfl, name_of nb⟩
  · exact .inr (.inr ⟨_, .base (.str y), N.s, .inl ⟨y, rfl, len⟩, by simpa using nb⟩)
theorem dr_leaf {K : PySem.W.Frag} {mg : Str → Option Value} {k : Kinds} {eS eE eT eC : Addr} {dS dE dT dC : FuncData} {H : Hp} {v : V} (k' : Kin K mg k eS eE eT eC dS dE dT dC) (N : KnE K k) (h : Leaf K k H v) : Dr K k H v := by
  have sn := seen_of_leaf k' h
  cases h with
  | non => exact .inr (.inr ⟨_, .base .non, N.n, sn, rfl⟩)
  | bl b => exact .inr (.inr ⟨_, .base (.bl b), N.b, sn, rfl⟩)
  | int i => exact .inr (.inr ⟨_, .base (.int i), N.i, sn, rfl⟩)
  | str z h => exact dr_str N h
  | step h _ _ =>
    obtain ⟨dx, e⟩ := h
    exact .inr (.inr ⟨_, k'.S.ty e, N.oS, sn, rfl⟩)
  | @expr a h =>
    obtain ⟨dx, z, p, x1, x2, x3, x4, e, hp⟩ := h
    exact .inr (.inl ⟨a, dx, _, rfl, e⟩)
  | trait h =>
    obtain ⟨dx, z, p, b, e, hp⟩ := h
    exact .inr (.inr ⟨_, k'.T.ty e, N.oT, sn, rfl⟩)
  | chain h =>
    obtain ⟨dx, p, b, e, hp⟩ := h
    exact .inr (.inr ⟨_, k'.C.ty e, N.oC, sn, rfl⟩)
theorem dr_alike {K : PySem.W.Frag} {mg : Str → Option Value} {k : Kinds} {eS eE eT eC : Addr} {dS dE dT dC : FuncData} {H : Hp} {x y : V} (k' : Kin K mg k eS eE eT eC dS dE dT dC) (N : KnE K k) : ∀ {n : Nat}, Alike K k n H x y → Dr K k H x
  | 0, h => h.elim
  | n + 1, h => by
    have sn := seen_of_alike k' h
    rcases h with ⟨h, _⟩ | ⟨a, b, xs, ys, rfl, _, _, _, hq, _⟩
    · exact dr_leaf k' N h
    · rcases hq with ⟨h, _⟩ | ⟨h, _⟩
      · exact .inr (.inr ⟨_, .base (.lst h), N.l, sn, rfl⟩)
      · exact .inr (.inr ⟨_, .base (.tup h), N.t, sn, rfl⟩)
theorem Dr.same {K : PySem.W.Frag} {k : Kinds} {H H' : Hp} {v : V} (s : Same H H') (h : Dr K k H v) : Dr K k H' v := by
  rcases h with h | ⟨a, dx, fs, e, h⟩ | ⟨t, ty, kt, sn, nb⟩
  · exact .inl h
  · exact .inr (.inl ⟨a, dx, fs, e, s _ _ h⟩)
  · exact .inr (.inr ⟨t, TyX.same s ty, kt, seen_same s sn, nb⟩)
theorem LkV.st {K : PySem.W.Frag} {cS : Addr} {H : Hp} {v : V} {g : Bool} (h : LkV K cS H v g) : StV K cS H v := by
  rcases h with ⟨_, b, z, y, e, st, _⟩ | ⟨_, ⟨b, z, y, e, st, _⟩ | ⟨t, ty, k⟩⟩
  · exact .inl ⟨b, z, y, e, st⟩
  · exact .inl ⟨b, z, y, e, st⟩
  · exact .inr ⟨t, ty, k⟩
theorem lk_of_el {K : PySem.W.Frag} {cS : Addr} {H : Hp} {v : V} : ∀ {o : Option (Str × Str)}, El K cS H v o → ∃ g, LkV K cS H v g
  | none, ⟨t, ty, k⟩ => ⟨false, .inr ⟨rfl, .inr ⟨t, ty, k⟩⟩⟩
  | some zy, ⟨a, e, st, no, wo⟩ => by
    by_cases c : zy.2.length = 1
    · exact ⟨true, .inl ⟨rfl, a, zy.1, zy.2, e, st, no, wo, c⟩⟩
    · exact ⟨false, .inr ⟨rfl, .inl ⟨a, zy.1, zy.2, e, st, wo.len, c⟩⟩⟩
/-- things that may or may not be in a chain -/
def LkS (K : PySem.W.Frag) (cS : Addr) (H : Hp) (xs : List V) : Prop := ∀ v ∈ xs, ∃ g, LkV K cS H v g
theorem LkS.same {K : PySem.W.Frag} {cS : Addr} {H H' : Hp} {xs : List V} (s : Same H H') (h : LkS K cS H xs) : LkS K cS H' xs := fun v hv => (h v hv).imp fun _ q => q.same s
theorem lks_of {K : PySem.W.Frag} {cS : Addr} {H : Hp} : ∀ {xs : List V}, LkS K cS H xs → ∃ gs, Lks K cS H xs gs
  | [], _ => ⟨[], rfl, fun i v g h => by simp at h⟩
  | x :: r, h => by
    obtain ⟨gs, l, g⟩ := lks_of (xs := r) fun v hv => h v (List.mem_cons_of_mem _ hv)
    obtain ⟨g0, h0⟩ := h x List.mem_cons_self
    refine ⟨g0 :: gs, by rw [List.length_cons, List.length_cons, l], fun i v g' h1 h2 => ?_⟩
    cases i with
    | zero =>
      cases h1
      cases h2
      exact h0
    | succ i => exact g i v g' h1 h2
theorem TyX.put {K : PySem.W.Frag} {H : Hp} {D : Addr} {ys zs : List V} {v : V} {t : Value} (e : H D = some (.lst ys)) (h : TyX K H v t) : TyX K (upd H D (.lst zs)) v t := by
  have off : ∀ {b : Addr} {o : HO}, H b = some o → o ≠ .lst ys → (upd H D (.lst zs)) b = some o := fun {b o} h n => by
    rw [upd_ne (ne_of h e n)]
    exact h
  cases h with
  | base h =>
    refine .base ?_
    cases h with
    | non => exact .non
    | bl b => exact .bl b
    | int i => exact .int i
    | str z => exact .str z
    | flt f => exact .flt f
    | @lst a xs q =>
      by_cases z : a = D
      · rw [z]
        exact .lst upd_same
      · exact .lst (xs := xs) (by rw [upd_ne z]; exact q)
    | frz q => exact .frz (off q (by intro z; cases z))
    | tup q => exact .tup (off q (by intro z; cases z))
    | dK q => exact .dK (off q (by intro z; cases z))
    | dT q => exact .dT (off q (by intro z; cases z))
    | ins q cl ha hn htk hm => exact .ins (off q (by intro z; cases z)) cl ha hn htk hm
  | byt b => exact .byt b
  | set q => exact .set (off q (by intro z; cases z))
  | kList q c => exact .kList q c
  | kTuple q c => exact .kTuple q c
  | kDict q c => exact .kDict q c
  | fTuple q => exact .fTuple (off q (by intro z; cases z))
  | fDict q => exact .fDict (off q (by intro z; cases z))
theorem L1.put {cS D : Addr} {H : Hp} {ys zs : List V} {v : V} (e : H D = some (.lst ys)) (h : L1 cS H v) : L1 cS (upd H D (.lst zs)) v := by
  obtain ⟨b, z, y, q, ⟨dx, hb⟩, r⟩ := h
  exact ⟨b, z, y, q, ⟨dx, by rw [upd_ne (ne_of hb e (by intro z; cases z))]; exact hb⟩, r⟩
theorem LkV.put {K : PySem.W.Frag} {cS D : Addr} {H : Hp} {ys zs : List V} {v : V} {g : Bool} (e : H D = some (.lst ys)) (h : LkV K cS H v g) : LkV K cS (upd H D (.lst zs)) v g := by
  rcases h with ⟨e1, h⟩ | ⟨e1, ⟨b, z, y, e2, ⟨dx, hb⟩, r⟩ | ⟨t, ty, k⟩⟩
  · exact .inl ⟨e1, h.put e⟩
  · exact .inr ⟨e1, .inl ⟨b, z, y, e2, ⟨dx, by rw [upd_ne (ne_of hb e (by intro z; cases z))]; exact hb⟩, r⟩⟩
  · exact .inr ⟨e1, .inr ⟨t, TyX.put e ty, k⟩⟩
theorem L1.del {cS l : Addr} {H : Hp} {v : V} (f : Feed H l) (h : L1 cS H v) : L1 cS (L2.del H l) v := by
  obtain ⟨b, z, y, q, ⟨dx, hb⟩, r⟩ := h
  refine ⟨b, z, y, q, ⟨dx, ?_⟩, r⟩
  rw [del_ne fun e => ?_]
  · exact hb
  · obtain ⟨_, _, q, _⟩ := f
    rw [e, q] at hb
    cases hb
theorem del_upd {D l : Addr} {H : Hp} {u : HO} (n : D ≠ l) : L2.del (upd H D u) l = upd (L2.del H l) D u := by
  funext b
  by_cases hb : b = l
  · rw [hb, del_same, upd_ne n.symm, del_same]
  · rw [del_ne hb]
    by_cases hd : b = D
    · rw [hd, upd_same, upd_same]
    · rw [upd_ne hd, upd_ne hd, del_ne hb]
theorem cut3 (xs : List V) : (cutV xs none (some 3)).length ≤ 3 := by
  unfold cutV HT.sIx
  rw [List.length_take]
  simp
  omega
theorem last3 (xs : List V) : (cutV xs (some (-3)) none).length ≤ 3 := by
  unfold cutV HT.sIx
  rw [List.length_take, List.length_drop]
  simp
  omega
theorem cut_mem {xs : List V} {lo hi : Option Int} {v : V} (h : v ∈ cutV xs lo hi) : v ∈ xs := List.mem_of_mem_drop (List.mem_of_mem_take h)
/-- the steps of a turn, and the wide one -/
structure B4 (cS Sx W : Addr) (ss : List V) (G : Hp) : Prop where
  hS : G Sx = some (.lst ss)
  l3 : ss.length = 3
  gS : ∀ v ∈ ss, L1 cS G v
  w : ∃ z y, StepAt cS G W z y ∧ y.length ≤ 3 ∧ y.length ≠ 1
theorem B4.same {cS Sx W : Addr} {ss : List V} {G G' : Hp} (s : Same G G') (h : B4 cS Sx W ss G) : B4 cS Sx W ss G' := by
  obtain ⟨hS, l3, gS, z, y, ⟨dx, hw⟩, r⟩ := h
  exact ⟨s _ _ hS, l3, fun v hv => (gS v hv).same s, z, y, ⟨dx, s _ _ hw⟩, r⟩
theorem B4.put {cS Sx W E : Addr} {ss ys zs : List V} {G : Hp} (e : G E = some (.lst ys)) (n : Sx ≠ E) (h : B4 cS Sx W ss G) : B4 cS Sx W ss (upd G E (.lst zs)) := by
  obtain ⟨hS, l3, gS, z, y, ⟨dx, hw⟩, r⟩ := h
  exact ⟨by rw [upd_ne n]; exact hS, l3, fun v hv => (gS v hv).put e, z, y, ⟨dx, by rw [upd_ne (ne_of hw e (by intro z; cases z))]; exact hw⟩, r⟩
theorem B4.nth {cS Sx W : Addr} {ss : List V} {G : Hp} (h : B4 cS Sx W ss G) (i : Nat) (hi : i < 3) : ∃ v, ss[i]? = some v ∧ L1 cS G v := by
  have := h.l3
  refine ⟨ss[i]'(by omega), List.getElem?_eq_getElem _, h.gS _ (List.getElem_mem _)⟩
end LK

namespace LK
open PySem PySem.Spec PyProof.Rows L2 LR
/-! ### the law -/
def spLaw (K : PySem.W.Frag) : Sp := fun vs H Q _ => ∃ (a : Addr) (ns : List Int), vs = [.ref a] ∧ SqL K H a (ns.map V.int) ∧ ns.length ≤ 63 ∧ ∀ H', Q (.bl true) H'
theorem ref2 {K : PySem.W.Frag} {k : Kinds} {H : Hp} {m : Str} (lm : m.length ≤ 1000) : ∀ (i : Nat) x' y', [V.str "refused", .str m][i]? = some x' → [V.str "refused", .str m][i]? = some y' → Alike K k 1 H x' y'
  | 0, x', y', h1, h2 => by
    cases h1
    cases h2
    exact .inl ⟨.str _ (by decide +kernel), rfl⟩
  | 1, x', y', h1, h2 => by
    cases h1
    cases h2
    exact .inl ⟨.str _ lm, rfl⟩
  | i + 2, _, _, h1, _ => by simp at h1
theorem ways1 {c : Nat} (h : c ∈ TL.tl ("+-?" : Str)) : WaysOk (⟨#[c]⟩ : Str) := ⟨Nat.zero_lt_one, by show 1 ≤ 3; decide, fun d hd => by
  have e : d = c := List.mem_singleton.mp hd
  rw [e]
  exact h⟩
theorem ways_wide : ∀ v ∈ [V.str "++", .str "+-", .str "???"], ∃ y : Str, v = .str y ∧ WaysOk y ∧ y.length ≤ 3 ∧ y.length ≠ 1 := fun v hv => by
  rcases List.mem_cons.mp hv with rfl | hv
  · exact ⟨_, rfl, ⟨by decide +kernel, by decide +kernel, by decide +kernel⟩, by decide +kernel, by decide +kernel⟩
  rcases List.mem_cons.mp hv with rfl | hv
  · exact ⟨_, rfl, ⟨by decide +kernel, by decide +kernel, by decide +kernel⟩, by decide +kernel, by decide +kernel⟩
  rcases List.mem_cons.mp hv with rfl | hv
  · exact ⟨_, rfl, ⟨by decide +kernel, by decide +kernel, by decide +kernel⟩, by decide +kernel, by decide +kernel⟩
  · cases hv
section
variable {P : Program} {w : World} {K : PySem.W.Frag} {mg : Str → Option Value} {base : Heap}
def nLaw4 : List Str := ["_law_script", "_law_k", "_law_feed_here", "_law_names", "_law_steps_here", "_law_wide", "_law_some", "_law_bad", "_law_found", "_law_thing", "_law_name", "_law_one", "_law_at"]
theorem scLaw4 : FnScope nLaw4 ["_law_script"] (defScope sLaw) := ⟨rfl, rfl, rfl, by decide +kernel, rfl, by decide +kernel, by decide +kernel⟩
theorem ok_law4 {C0 C cS cX iS fF fD fP fW fA fI fLs fCl fT fR fSa fB fPu fRe mS mC pS pC fCh f : Addr} {jS fdF fdD fdP fdW fdA fdI fdLs fdCl fdT fdR fdSa fdB fdPu fdRe gS gC hS hC fd : FuncData} {k : Kinds} {fL : Addr} {dL : FuncData} {uS uE uT uC : Addr} {rS rE rT rC : FuncData} (S : Std mg) (k' : Kin K mg k uS uE uT uC rS rE rT rC) (N : Kno K k) (NE : KnE K k) (kc : k.cS = cS) (kx : k.cE = cX) (O : ChOps K mg C cS fCh mS mC pS pC gS gC hS hC) (n2 : NoAttr K cS "ways") (L : LenM K cS fL dL sStepLen "Step.__len__") (cE : OwnCl K mg "Expr" cX)
    (MS : Mk K cS iS) (GI0 : FnOk P w K mg base CX0 2 iS jS ["self", "name", "ways"] (spStInit cS)) (bS : Binds K jS ["self", "name", "ways"] [])
    (FE : Df K mg "_law_feed" sFeed fF fdF ["_law_script", "_law_k"]) (GF : FnOk P w K mg base CX0 1 fF fdF ["_law_script", "_law_k"] (spFeed K)) (D : Df K mg "_law_draw" sDraw fD fdD ["_law_feed_here", "_law_many"])
    (PK : Df K mg "_law_pick" sPick fP fdP ["_law_feed_here", "_law_items"]) (WO : Df K mg "_law_words" sWords fW fdW ["_law_feed_here", "_law_many"]) (GW : FnOk P w K mg base CX0 4 fW fdW ["_law_feed_here", "_law_many"] spWords)
    (AN : Df K mg "_law_any" sAny fA fdA ["_law_feed_here", "_law_deep"]) (GA : FnOk P w K mg base CX0 9 fA fdA ["_law_feed_here", "_law_deep"] (spAny K k 3)) (IN : Df K mg "_law_is_name" sLIsName fI fdI ["_law_word_here"]) (LS : Df K mg "_law_steps" sLSteps fLs fdLs ["_law_feed_here", "_law_steps_here", "_law_most"])
    (CL : Df K mg "_law_clashes" sClashes fCl fdCl ["_law_one", "_law_others"]) (GCl : FnOk P w K mg base CX0 3 fCl fdCl ["_law_one", "_law_others"] (spClash K cS)) (TO : Df K mg "_law_told" sTold fT fdT ["_law_some"]) (GT : FnOk P w K mg base CX0 7 fT fdT ["_law_some"] (spTold4 K C cS))
    (RT : Df K mg "_law_right" sRight fR fdR ["_law_chain_here", "_law_steps_here"]) (GR : FnOk P w K mg base CX0 27 fR fdR ["_law_chain_here", "_law_steps_here"] (spRt4 K C cS)) (SA : Df K mg "_law_same" sSame fSa fdSa ["_law_found", "_law_due"]) (GSa : FnOk P w K mg base CX0 5 fSa fdSa ["_law_found", "_law_due"] (spSame K k 2))
    (BP : Df K mg "_law_bad_part" sBadPart fB fdB ["_law_chain_here", "_law_thing"]) (GB : FnOk P w K mg base CX0 8 fB fdB ["_law_chain_here", "_law_thing"] (spBad4 K cX C cS)) (PT : Df K mg "_law_put_together" sPutTog4 fPu fdPu ["_law_feed_here", "_law_steps_here"]) (GPu : FnOk P w K mg base CX0 28 fPu fdPu ["_law_feed_here", "_law_steps_here"] (spPut4 cS))
    (RE : Df K mg "_law_refuses" sRefuses fRe fdRe ["_law_step", "_law_other"]) (GRe : FnOk P w K mg base CX0 8 fRe fdRe ["_law_step", "_law_other"] (spRef4 K C cS))
    (GM : FnOk P w K mg base (L2N.CX P w) 7 mS gS ["self", "other"] (spStMul K C0 C cS)) (GN : FnOk P w K mg base (L2N.CX P w) 7 mC gC ["self", "other"] (spJoin K C0 C cS)) (F : Fun K "law" "law" sLaw f fd) : FnOk P w K mg base CX0 29 f fd ["_law_script"] (spLaw K) := by
  subst kc kx
  have GD : FnOk P w K mg base CX0 1 fD fdD ["_law_feed_here", "_law_many"] spDraw := ok_draw S D.F
  have GP : FnOk P w K mg base CX0 2 fP fdP ["_law_feed_here", "_law_items"] (spPick K) := ok_pick S PK.F D
  have GLs : FnOk P w K mg base CX0 3 fLs fdLs ["_law_feed_here", "_law_steps_here", "_law_most"] (spLSteps k.cS) := ok_lSteps S D PK LS.F
  have GLe : FnOk P w K mg base CX0 1 fL dL ["self"] (spStLen k.cS) := ok_stLen S O.M.cT.cl n2 L.F
  have GIn : FnOk P w K mg base CX0 1 fI fdI ["_law_word_here"] (spIsB K nameB) := ok_lawIsName S IN.F
  refine F.ok scLaw4 (fun vs H Q E h => ?_) (fun cdv A outer s H vs Q E hr h => ?_)
  · obtain ⟨a, ns, rfl, _⟩ := h
    rfl
  · obtain ⟨a, ns, rfl, hS, hlen, q⟩ := h
    have r1 : Room 1 _ := hr.mono (by decide)
    have r2 : Room 2 _ := hr.mono (by decide)
    have r3 : Room 3 _ := hr.mono (by decide)
    have r4 : Room 4 _ := hr.mono (by decide)
    have r5 : Room 5 _ := hr.mono (by decide)
    have r7 : Room 7 _ := hr.mono (by decide)
    have r8 : Room 8 _ := hr.mono (by decide)
    have r9 : Room 9 _ := hr.mono (by decide)
    have r27 : Room 27 _ := hr.mono (by decide)
    have r28 : Room 28 _ := hr.mono (by decide)
    have OM : OpRS (cxOf CX0 P w K mg base nLaw4 "law" (defScope sLaw) f cdv A outer s H E).nox (binaryOp .Mult) (rMul K C0 C k.cS fun _ _ _ _ => False) := op_mul4 O GM GN (fun σ => L2N.passAt tk0 σ) r7
    refine ⟨_, pss_cons (ps_for PassesOwn.never rfl (pi_range1 (by rfl) S.range (pa_cons (pe_op op_add pe_int (pe_callB call_len_seq (by rfl) S.len PySem.boot_len (pa_cons (pe_slice sl_list (pv 0) po_none (po_some pe_int)) pa_nil))) pa_nil)) (pg_name (i := 1) scLaw4.nd rfl (Or.inl rfl))
        (pss_cons (ps_set (i := 2) scLaw4.nd rfl (by first | exact Or.inl rfl | exact Or.inr rfl) (pe_call GF r1 rfl FE.g FE.F.kp FE.b .nil pass0 (pa_cons (pv 0) (pa_cons (pv 1) pa_nil))))
        (pss_cons (ps_set (i := 3) scLaw4.nd rfl (by first | exact Or.inl rfl | exact Or.inr rfl) (pe_call GW r4 rfl WO.g WO.F.kp WO.b .nil pass0 (pa_cons (pv 2) (pa_cons pe_int pa_nil))))
        (pss_cons (ps_setLc (i := 4) (own := [("_law_name", 10)]) (g := gName 10) (tt := tYes) rfl scLaw4.nd rfl rfl (sw_true rfl rfl rfl (by decide +kernel)) (pi_list (pe_slice sl_list (pv 3) po_none (po_some pe_int))) (blkOk_by (N := nLaw4) (sc := defScope sLaw) (by decide +kernel)) (fun _ _ _ _ _ => pg_name (i := 10) scLaw4.nd rfl (Or.inl rfl)) (fun _ _ _ _ _ => pts_nil)
            (fun _ _ _ _ _ => pe_make MS GI0 r3 rfl O.M.cT.g bS .nil pass0 (pa_cons (pv 10) (pa_cons (pe_call GP r2 rfl PK.g PK.F.kp PK.b .nil pass0 (pa_cons (pv 2) (pa_cons pe_str pa_nil))) pa_nil))))
        (pss_cons (ps_set (i := 5) scLaw4.nd rfl (by first | exact Or.inl rfl | exact Or.inr rfl) (pe_make MS GI0 r3 rfl O.M.cT.g bS .nil pass0 (pa_cons (pe_ix ix_list (pv 3) pe_int (fun _ _ => rfl)) (pa_cons (pe_call GP r2 rfl PK.g PK.F.kp PK.b .nil pass0 (pa_cons (pv 2) (pa_cons (pe_lst (pa_cons pe_str (pa_cons pe_str (pa_cons pe_str pa_nil)))) pa_nil))) pa_nil))))
        (pss_cons (ps_set (i := 6) scLaw4.nd rfl (by first | exact Or.inl rfl | exact Or.inr rfl) (pe_call GLs r3 rfl LS.g LS.F.kp LS.b .nil pass0 (pa_cons (pv 2) (pa_cons (pv 4) (pa_cons pe_int pa_nil)))))
        (pss_cons (ps_if (pt_cmpR op_eq (pe_call GD r1 rfl D.g D.F.kp D.b .nil pass0 (pa_cons (pv 2) (pa_cons pe_int pa_nil))) pe_int (nomark _))
          (pss_cons (ps_expr (pe_bm PySem.F.plainAttrs_list PySem.F.slot_list_insert PySem.F.type_list_insert mt_insert (pv 6) (pa_cons (pe_call GD r1 rfl D.g D.F.kp D.b .nil pass0 (pa_cons (pv 2) (pa_cons (pe_op op_add (pe_callB call_len_seq (by rfl) S.len PySem.boot_len (pa_cons (pv 6) pa_nil)) pe_int) pa_nil)))
              (pa_cons (pe_ix ix_list (pe_lst (pa_cons (pv 5) (pa_cons (pe_call GA r9 rfl AN.g AN.F.kp AN.b .nil pass0 (pa_cons (pv 2) (pa_cons pe_int pa_nil))) pa_nil))) (pe_call GD r1 rfl D.g D.F.kp D.b .nil pass0 (pa_cons (pv 2) (pa_cons pe_int pa_nil))) (fun _ _ => rfl)) pa_nil))))
          (pss_one (ps_set (i := 6) scLaw4.nd rfl (by first | exact Or.inl rfl | exact Or.inr rfl) (pe_lc (own := [("_law_at", 12), ("_law_one", 11)]) (g := gTup K 2 (gCons (gName 12) (gCons (gName 11) gNil))) rfl scLaw4.nd (pi_enum (by rfl) S.enumerate (pa_cons (pe_slice sl_list (pv 6) (po_some (pe_un un_neg pe_int)) po_none) pa_nil)) (blkOk_by (N := nLaw4) (sc := defScope sLaw) (by decide +kernel))
              (fun _ _ _ _ _ => pg_tup rfl (pgs_cons (pg_name (i := 12) scLaw4.nd rfl (Or.inl rfl)) (pgs_cons (pg_name (i := 11) scLaw4.nd rfl (Or.inl rfl)) pgs_nil)))
              (fun _ _ _ _ _ => pts_one (pt_not (pt_val (pe_call GCl r3 rfl CL.g CL.F.kp CL.b .nil pass0 (pa_cons (pv 11) (pa_cons (pe_slice (show SlR _ (rSlL K) from sl_list) (pe_slice (show SlR _ (rSlL K) from sl_list) (pv 6) (po_some (pe_un un_neg pe_int)) po_none) po_none (po_some (pv 12))) pa_nil)))))) (fun _ _ _ _ _ => pv 11))))) pss_nil)
        (pss_cons (ps_setLc (i := 7) (own := [("_law_one", 11)]) (g := gName 11) (te := tVar 11) rfl scLaw4.nd rfl rfl (sw_true rfl rfl rfl (by decide +kernel)) (pi_list (pv 6)) (blkOk_by (N := nLaw4) (sc := defScope sLaw) (by decide +kernel)) (fun _ _ _ _ _ => pg_name (i := 11) scLaw4.nd rfl (Or.inl rfl))
              (fun _ _ _ _ _ => pts_one (PW.pt (pw_or (pt_not (pt_val (pe_callB (show CallR _ _ (rIsi K) from call_isi) (by rfl) S.isi (by decide +kernel) (pa_cons (pv 11) (pa_cons (pe_glob (v := .ref k.cS) rfl O.M.cT.g rfl) pa_nil)))))
                (pw_or1 (pt_cmpR op_ne (pe_callB call_len_str (by rfl) S.len PySem.boot_len (pa_cons (show PE _ _ (tFld K (tVar 11) "ways") from pe_fld (pv 11) rfl) pa_nil)) pe_int (nomark _)))))) (fun _ _ _ _ _ => pv 11))
        (pss_cons (ps_set (i := 8) scLaw4.nd rfl (by first | exact Or.inl rfl | exact Or.inr rfl) (pe_call GT r7 rfl TO.g TO.F.kp TO.b .nil pass0 (pa_cons (pv 6) pa_nil)))
        (pss_cons (ps_if (PW.pt (pw_or (PW.pt (pw_and (pt_cmpR (op_neEnd r1.units0) (pv 7) (pe_lst pa_nil) (nomark _)) (pw_and1 (pt_not (pt_val (pe_call GSa r5 rfl SA.g SA.F.kp SA.b .nil pass0 (pa_cons (pv 8) (pa_cons (pe_tup (pa_cons pe_str (pa_cons pe_str pa_nil))) pa_nil))))))))
            (pw_or1 (PW.pt (pw_and (pt_cmpR (op_eqEnd r1.units0) (pv 7) (pe_lst pa_nil) (nomark _)) (pw_and1 (pt_not (pt_val (pe_call GR r27 rfl RT.g RT.F.kp RT.b .nil pass0 (pa_cons (pv 8) (pa_cons (pv 6) pa_nil)))))))))))
          (pss_one (ps_ret pe_bl)) pss_nil)
        (pss_cons (ps_set (i := 9) scLaw4.nd rfl (by first | exact Or.inl rfl | exact Or.inr rfl) (pe_call GA r9 rfl AN.g AN.F.kp AN.b .nil pass0 (pa_cons (pv 2) (pa_cons pe_int pa_nil))))
        (pss_cons (ps_if (PW.pt (pw_and (pt_not (pt_val (pe_callB call_isi (by rfl) S.isi (by decide +kernel) (pa_cons (pv 9) (pa_cons (pe_glob (v := .ref k.cE) rfl cE.g rfl) pa_nil))))) (pw_and1 (pt_not (pt_val (pe_call GIn r1 rfl IN.g IN.F.kp IN.b .nil pass0 (pa_cons (pv 9) pa_nil)))))))
          (pss_one (ps_if (pt_cmpR op_ne (pe_call GB r8 rfl BP.g BP.F.kp BP.b .nil pass0 (pa_cons (pe_opS OM (pe_ix ix_list (pv 4) pe_int (fun _ _ => rfl)) (pe_ix ix_list (pv 4) pe_int (fun _ _ => rfl))) (pa_cons (pv 9) pa_nil))) pe_str (nomark _)) (pss_one (ps_ret pe_bl)) pss_nil)) pss_nil)
        (pss_cons (ps_if (PW.pt (pw_or (pt_not (pt_val (pe_call GPu r28 rfl PT.g PT.F.kp PT.b .nil pass0 (pa_cons (pv 2) (pa_cons (pv 4) pa_nil))))) (pw_or1 (pt_not (pt_val (pe_call GRe r8 rfl RE.g RE.F.kp RE.b .nil pass0 (pa_cons (pv 5) (pa_cons (pe_ix ix_list (pv 4) pe_int (fun _ _ => rfl)) pa_nil))))))))
          (pss_one (ps_ret pe_bl)) pss_nil)
        (pss_one (ps_if (pt_not (pt_val (pe_call GRe r8 rfl RE.g RE.F.kp RE.b .nil pass0 (pa_cons (pv 5) (pa_cons (pe_opS OM (pe_ix ix_list (pv 4) pe_int (fun _ _ => rfl)) (pe_ix ix_list (pv 4) pe_int (fun _ _ => rfl))) pa_nil)))))
          (pss_one (ps_ret pe_bl)) pss_nil))))))))))))))) (pss_one (ps_ret pe_bl)), ?_⟩
    refine ⟨_, rfl, _, rfl, a, _, rfl, hS, fun c hc => ⟨c, _, rfl, .inl (SqL.of upd_same), ?_⟩⟩
    have hcut := cut3 (ns.map V.int)
    generalize (cutV (ns.map V.int) none (some 3)) = cut at hcut ⊢
    have s3 := same_new (o := .lst cut) hc
    generalize upd H c (.lst cut) = H3 at s3 ⊢
    refine ⟨_, _, rfl, rfl, 1 + (cut.length : Int), rfl, by omega, by omega, for_range (lo := 0) (n := (1 + (cut.length : Int)).toNat) (fun i σ H' => (∃ v1 v2 v3 v4 v5 v6 v7 v8 v9 v10 v11 v12, σ = [some (.ref a), v1, v2, v3, v4, v5, v6, v7, v8, v9, v10, v11, v12]) ∧ Same H3 H') ⟨⟨_, _, _, _, _, _, _, _, _, _, _, _, rfl⟩, fun _ _ e => e⟩ ?_ ?_⟩
    · rintro i σ H4 hi ⟨⟨v1, v2, v3, v4, v5, v6, v7, v8, v9, v10, v11, v12, rfl⟩, s34⟩
      refine ⟨_, rfl, _, rfl, a, ns, i, by show [V.ref a, V.int (0 + (i : Int))] = _; rw [Int.zero_add], (s3.trans s34).seq hS, fun l H5 hl hf5 s5 => ?_⟩
      have hlH : ∀ {b o}, H3 b = some o → b ≠ l := fun {b o} e => ne_of_none (s34 _ _ e) hl
      have k35 : Keep l H3 H5 := fun b o nb e => s5 _ _ (s34 _ _ e)
      refine ⟨_, rfl, l, 4, rfl, by decide, hf5, fun Nx zs H6 ln gN ndN nN0 nN hN hf6 k6 => ?_⟩
      obtain ⟨z0, z1, z2, z3, rfl⟩ : ∃ z0 z1 z2 z3, zs = [z0, z1, z2, z3] := by
        match zs, ln with
        | [z0, z1, z2, z3], _ => exact ⟨_, _, _, _, rfl⟩
      -- the steps
      refine ⟨_, rfl, _, rfl, Nx, _, rfl, SqL.of hN, fun c1 hc1 => ⟨c1, rfl, ⟨_, SqL.of upd_same⟩, fun D hD => lc_list (xs := [V.str z0, .str z1, .str z2]) (fun i H' => Feed H' l ∧ Keep l H6 H' ∧ H' c1 = some (.lst [V.str z0, .str z1, .str z2]) ∧ ∃ ss, H' D = some (.lst ss) ∧ ss.length = i ∧ ∀ v ∈ ss, L1 k.cS H' v) ?_ (fun i H' _ h => SqL.of h.2.2.1) (fun i x H' hx h => ?_) (fun H7 h => ?_)⟩⟩
      · have t1 := same_new (o := .lst [V.str z0, .str z1, .str z2]) hc1
        have t2 := t1.trans (same_new (o := .lst []) hD)
        exact ⟨hf6.same t2, Keep.same t2, same_new hD _ _ upd_same, [], upd_same, rfl, fun _ h => nomatch h⟩
      · have t1 := same_new (o := .lst [V.str z0, .str z1, .str z2]) hc1
        have nD : D ≠ l := ((hf6.same t1).ne hD).symm
        have nDc : c1 ≠ D := ne_of_none (show (upd H6 c1 (.lst [V.str z0, .str z1, .str z2])) c1 = some (.lst [V.str z0, .str z1, .str z2]) from upd_same) hD
        obtain ⟨f, kk, hcc, ss, d, ls, gs⟩ := h
        obtain ⟨z, rfl, nz⟩ : ∃ z, x = .str z ∧ NameOk z := by
          have := List.mem_of_getElem? hx
          rcases List.mem_cons.mp this with rfl | this
          · exact ⟨_, rfl, gN _ (by simp)⟩
          rcases List.mem_cons.mp this with rfl | this
          · exact ⟨_, rfl, gN _ (by simp)⟩
          rcases List.mem_cons.mp this with rfl | this
          · exact ⟨_, rfl, gN _ (by simp)⟩
          · cases this
        have li : i < 3 := (List.getElem?_eq_some_iff.mp hx).1
        refine ⟨rfl, _, rfl, _, rfl, l, .str "+-?", (fun v => ∃ c : Nat, v = .str ⟨#[c]⟩ ∧ c ∈ TL.tl ("+-?" : Str)), rfl, f, .inl ⟨_, rfl, by decide +kernel, by decide +kernel, fun c hc => ⟨c, rfl, hc⟩⟩, fun v H7 hv f7 k7 => ?_⟩
        obtain ⟨c, rfl, hcm⟩ := hv
        intro x dx nx nd ne
        refine ⟨x, dx, z, ⟨#[c]⟩, rfl, upd_same, nz, ways1 hcm, fun H8 st k8 => ⟨rfl, ?_⟩⟩
        have s8 := same_of_keep (H1 := H7) nx nd k8
        have d8 := s8 _ _ (k7 _ _ nD d)
        have c8 := s8 _ _ (k7 _ _ (hf6.ne hc1).symm hcc)
        refine ⟨ss, d8, by rw [ls, sizeLine_eq]; omega, (f7.same s8).keep Keep.put nD.symm, fun b o nb e => ?_, ?_, ss ++ [.ref x], upd_same, by rw [List.length_append, ls]; rfl, fun v hv => ?_⟩
        · rw [upd_ne (ne_of_none (t1 _ _ e) hD)]
          exact s8 _ _ (k7 _ _ nb (kk _ _ nb e))
        · rw [upd_ne nDc]
          exact c8
        · rcases List.mem_append.mp hv with hv | hv
          · exact (((gs v hv).keep f k7).same s8).put d8
          · rw [List.mem_singleton.mp hv]
            exact L1.put d8 ⟨x, z, _, rfl, st, nz, ways1 hcm, rfl⟩
      have t1 := same_new (o := .lst [V.str z0, .str z1, .str z2]) hc1
      have nD : D ≠ l := ((hf6.same t1).ne hD).symm
      obtain ⟨f7, k7, hcc, ss, d7, l3, gs⟩ := h
      have l3' : ss.length = 3 := l3
      clear hcc l3
      -- the wide one
      refine ⟨_, rfl, Nx, _, 3, .str z3, rfl, rfl, SqL.of (k7 _ _ nN hN), at_of (j := 3) rfl rfl, _, rfl, by show 3 ≤ sizeLine; decide, fun p hp => ?_⟩
      have t2 := same_new (o := .lst [V.str "++", .str "+-", .str "???"]) hp
      refine ⟨l, .ref p, (fun v => ∃ y : Str, v = .str y ∧ WaysOk y ∧ y.length ≤ 3 ∧ y.length ≠ 1), rfl, f7.same t2, .inr ⟨p, _, rfl, (f7.ne hp).symm, SqL.of upd_same, by show 0 < 3; decide, by show 3 ≤ 1000; decide, ways_wide⟩, fun v H8 hv f8 k8 => ?_⟩
      obtain ⟨y, rfl, wo, y3, y1⟩ := hv
      intro W dW nW ndW neW
      refine ⟨W, dW, z3, y, rfl, upd_same, gN _ (by simp), wo, fun H9 st k9 => ⟨rfl, ?_⟩⟩
      have s9 := same_of_keep (H1 := H8) nW ndW k9
      have f9 := f8.same s9
      have k79 : Keep l H7 H9 := ((Keep.same t2).trans k8).trans (Keep.same s9)
      have hS9 := k79 _ _ nD d7
      have b9 : B4 k.cS D W ss (L2.del H9 l) := by
        refine ⟨by rw [del_ne nD]; exact hS9, l3', fun v hv => ((gs v hv).keep f7 k79).del f9, z3, y, ?_, y3, y1⟩
        obtain ⟨dx, st⟩ := st
        refine ⟨dx, ?_⟩
        rw [del_ne fun e => ?_]
        · exact st
        · obtain ⟨_, _, q, _⟩ := f8
          rw [e, q] at nW
          cases nW
      have k39 : Keep l H3 H9 := ((k35.trans k6).trans k7).trans k79
      clear k79 hS9 st s9 k9 neW ndW nW k8 f8 t2 hp gs d7 k7 f7 t1 hD hc1 hN nN nN0 ndN gN k6 hf6 hf5 k35 s5
      -- some of them
      refine ⟨_, rfl, _, rfl, l, D, ss, 3, rfl, f9, nD, del_sub _ _ b9.hS, by omega, by omega, by decide, fun L0 xs H10 x3 n1 nL hx gx f10 k10 => ?_⟩
      have b10 := b9.same k10.del
      have k310 := k39.trans k10
      have lk10 : LkS K k.cS (L2.del H10 l) xs := fun v hv => ⟨true, .inl ⟨rfl, b10.gS v (gx v hv)⟩⟩
      have nL0 : ∀ b o, H3 b = some o → b ≠ L0 := fun b o e => ne_of_none (k39 _ _ (hlH e) e) n1
      have nDL : D ≠ L0 := ne_of_none (del_sub _ _ b9.hS) n1
      clear b9 k39 f9 k10 gx
      refine gN_key ?_
      dsimp only
      refine seq_key (fun σ' H' => ∃ Lx xs v7 v8 v9 v10 v11 v12, σ' = [some (.ref a), some (.int (0 + (i : Int))), some (.ref l), some (.ref Nx), some (.ref D), some (.ref W), some (.ref Lx), v7, v8, v9, v10, v11, v12] ∧
        Feed H' l ∧ Keep l H3 H' ∧ B4 k.cS D W ss (L2.del H' l) ∧ H' Lx = some (.lst xs) ∧ Lx ≠ l ∧ xs.length ≤ 3 ∧ LkS K k.cS (L2.del H' l) xs) (fun key => ?_) (fun σ' H11 h => ?_)
      · refine ⟨_, rfl, l, 2, rfl, f10, by decide, by decide, fun e H11 e0 e1 f11 k11 => ⟨rfl, _, rfl, ite2 (fun _ => ?_) (fun _ => ?_)⟩⟩
        · have hL11 := k11 _ _ nL hx
          have b11 := b10.same k11.del
          have lk11 := lk10.same k11.del
          refine ⟨_, rfl, .inl ⟨rfl, _, SqL.of hL11⟩, _, rfl, _, rfl, L0, xs, rfl, .inl (SqL.of hL11), _, _, rfl, rfl, l, (xs.length : Int) + 1, rfl, f11, by omega, by omega, fun d H12 d0 d1 f12 k12 => ?_⟩
          refine ⟨_, rfl, _, rfl, l, 2, rfl, by decide, by decide, f12, fun v H13 al f13 k13 => ⟨by show 2 ≤ sizeLine; decide, fun p hp => ?_⟩⟩
          have t1 := same_new (o := .lst [.ref W, v]) hp
          refine ⟨_, rfl, l, 2, rfl, f13.same t1, by decide, by decide, fun e H14 e0 e1 f14 k14 => ?_⟩
          have k1114 : Keep l H11 H14 := ((k12.trans k13).trans (Keep.same t1)).trans k14
          obtain ⟨j, rfl, y, hy, hyk⟩ : ∃ j : Nat, e = j ∧ ∃ y, [V.ref W, v][j]? = some y ∧ ∃ g, LkV K k.cS (L2.del H14 l) y g := by
            have s14 : Same (L2.del H13 l) (L2.del H14 l) := (same_del t1).trans k14.del
            obtain ⟨o, el⟩ := el_of_alike k' N (al.same (nw_del f12))
            obtain ⟨z, y, st, y3, y1⟩ := (b11.same k1114.del).w
            rcases (by omega : e = 0 ∨ e = 1) with rfl | rfl
            · exact ⟨0, rfl, _, rfl, false, .inr ⟨rfl, .inl ⟨W, z, y, rfl, st, y3, y1⟩⟩⟩
            · obtain ⟨g, h⟩ := lk_of_el el
              exact ⟨1, rfl, _, rfl, g, h.same s14⟩
          have hL14 := k1114 _ _ nL hL11
          refine ⟨p, [.ref W, v], _, y, rfl, rfl, SqL.of (k14 _ _ (f13.ne hp).symm upd_same), at_of (j := j) rfl hy, L0, xs, d, y, rfl, rfl, hL14, by rw [sizeLine_eq]; omega, d0, by omega, ?_⟩
          have l4 : (xs.take d.toNat ++ [y] ++ xs.drop d.toNat).length ≤ 4 := by
            rw [List.length_append, List.length_append, List.length_take, List.length_drop, List.length_singleton]
            omega
          have lys : LkS K k.cS (upd (L2.del H14 l) L0 (.lst (xs.take d.toNat ++ [y] ++ xs.drop d.toNat))) (xs.take d.toNat ++ [y] ++ xs.drop d.toNat) := fun u hu => by
            have e14 : (L2.del H14 l) L0 = some (.lst xs) := by
              rw [del_ne nL]
              exact hL14
            have lk14 := lk11.same k1114.del
            have : ∃ g, LkV K k.cS (L2.del H14 l) u g := by
              rcases List.mem_append.mp hu with hu | hu
              · rcases List.mem_append.mp hu with hu | hu
                · exact lk14 u (List.mem_of_mem_take hu)
                · rw [List.mem_singleton.mp hu]
                  exact hyk
              · exact lk14 u (List.mem_of_mem_drop hu)
            exact this.imp fun _ q => q.put e14
          have b15 : B4 k.cS D W ss (upd (L2.del H14 l) L0 (.lst (xs.take d.toNat ++ [y] ++ xs.drop d.toNat))) := (b11.same k1114.del).put (ys := xs) (by rw [del_ne nL]; exact hL14) nDL
          rw [← del_upd nL] at lys b15
          have f15 : Feed (upd H14 L0 (.lst (xs.take d.toNat ++ [y] ++ xs.drop d.toNat))) l := f14.keep Keep.put nL.symm
          have k315 : Keep l H3 (upd H14 L0 (.lst (xs.take d.toNat ++ [y] ++ xs.drop d.toNat))) := fun b o nb e => by
            rw [upd_ne (nL0 b o e)]
            exact (k310.trans (k11.trans k1114)) b o nb e
          have hL15 : (upd H14 L0 (.lst (xs.take d.toNat ++ [y] ++ xs.drop d.toNat))) L0 = some (.lst (xs.take d.toNat ++ [y] ++ xs.drop d.toNat)) := upd_same
          generalize upd H14 L0 (.lst (xs.take d.toNat ++ [y] ++ xs.drop d.toNat)) = H15 at lys b15 f15 k315 hL15 ⊢
          generalize xs.take d.toNat ++ [y] ++ xs.drop d.toNat = ys at l4 lys hL15
          clear hL14 hy hyk f14 k14 k1114 t1 hp al f13 k13 d0 d1 f12 k12 hL11 b11 lk11 f11 k11 b10 lk10 k310 nL0 nDL hx n1 x3
          refine ⟨_, rfl, _, rfl, _, rfl, L0, ys, rfl, SqL.of hL15, fun c1 hc1 => ⟨c1, _, rfl, SqL.of upd_same, fun D2 hD2 => lc_enum (xs := cutV ys (some (-3)) none) (fun i H' => Same H15 H' ∧ H' c1 = some (.lst (cutV ys (some (-3)) none)) ∧ ∃ zs, H' D2 = some (.lst zs) ∧ zs.length ≤ i ∧ ∀ v ∈ zs, v ∈ ys) ?_ (fun i H' h => SqL.of h.2.1) (fun i x T H' hx h hT => ?_) (fun H' h => ?_)⟩⟩
          · have t1 := same_new (o := .lst (cutV ys (some (-3)) none)) hc1
            exact ⟨t1.trans (same_new hD2), same_new hD2 _ _ upd_same, [], upd_same, Nat.le_refl _, fun _ h => nomatch h⟩
          · obtain ⟨s', c', zs, d', lz, gz⟩ := h
            have t := same_new (o := .tup [.int (i : Nat), x]) hT
            have hx' := cut_mem (List.mem_of_getElem? hx)
            have li : i < 3 := Nat.lt_of_lt_of_le (List.getElem?_eq_some_iff.mp hx).1 (last3 ys)
            refine ⟨T, _, rfl, SqT.of upd_same, rfl, _, _, rfl, _, _, rfl, rfl, rfl, _, rfl, ?_⟩
            refine ⟨_, rfl, _, rfl, _, rfl, L0, ys, rfl, SqL.of (t _ _ (s' _ _ hL15)), fun c2 hc2 => ⟨_, rfl, _, rfl, c2, _, rfl, SqL.of upd_same, fun c3 hc3 => ?_⟩⟩
            have t2 := t.trans ((same_new (o := .lst (cutV ys (some (-3)) none)) hc2).trans (same_new (o := .lst (cutV (cutV ys (some (-3)) none) none (some (i : Int)))) hc3))
            have sv : ∀ v ∈ ys, StV K k.cS (upd (upd (upd H' T (.tup [.int (i : Nat), x])) c2 (.lst (cutV ys (some (-3)) none))) c3 (.lst (cutV (cutV ys (some (-3)) none) none (some (i : Int))))) v := fun v hv => by
              obtain ⟨g, h⟩ := lys v hv
              exact (h.st.same (del_sub.trans s')).same t2
            refine ⟨x, c3, _, rfl, sv x hx', upd_same, ?_, fun u hu => sv u (cut_mem (cut_mem hu)), fun r H6 s6 => ⟨_, rfl, ?_⟩⟩
            · have := last3 ys
              have := cutV_length (cutV ys (some (-3)) none) none (some (i : Int))
              omega
            have t3 := t2.trans s6
            cases r with
            | true =>
              exact iteF ⟨s'.trans t3, t3 _ _ c', zs, t3 _ _ d', by omega, gz⟩
            | false =>
              have nD2 : c1 ≠ D2 := ne_of_none (show (upd H15 c1 (.lst (cutV ys (some (-3)) none))) c1 = some (.lst (cutV ys (some (-3)) none)) from upd_same) hD2
              refine iteT ⟨_, rfl, zs, t3 _ _ d', by rw [sizeLine_eq]; omega, same_put (Same.free (same_new hc1) hD2) (s'.trans t3), ?_, zs ++ [x], upd_same, by rw [List.length_append, List.length_singleton]; omega, fun v hv => ?_⟩
              · rw [upd_ne nD2]
                exact t3 _ _ c'
              · rcases List.mem_append.mp hv with hv | hv
                · exact gz v hv
                · rw [List.mem_singleton.mp hv]
                  exact hx'
          · obtain ⟨s', c', zs, d', lz, gz⟩ := h
            have t1 := same_new (o := .lst (cutV ys (some (-3)) none)) hc1
            refine key _ _ ⟨D2, zs, _, _, _, _, _, _, rfl, f15.same s', k315.trans (Keep.same s'), b15.same (same_del s'), d', ((f15.same t1).ne hD2).symm, Nat.le_trans lz (last3 ys), fun v hv => (lys v (gz v hv)).imp fun _ q => q.same (same_del s')⟩
        · exact key _ _ ⟨L0, xs, _, _, _, _, _, _, rfl, f11, k310.trans k11, b10.same k11.del, k11 _ _ nL hx, nL, x3, lk10.same k11.del⟩
      clear lk10 b10 k310 nL0 nDL hx n1 nL x3 f10
      obtain ⟨Lx, xs, v7, v8, v9, v10, v11, v12, rfl, f11, k311, b11, hL, nL, x3, lk⟩ := h
      obtain ⟨gs, lg⟩ := lks_of lk
      have lg' := lg.same del_sub
      -- those that are bad
      refine seq_key (fun σ' H' => ∃ bs B v8 v9 v10 v11 v12, σ' = [some (.ref a), some (.int (0 + (i : Int))), some (.ref l), some (.ref Nx), some (.ref D), some (.ref W), some (.ref Lx), some (.ref B), v8, v9, v10, v11, v12] ∧
        Same H11 H' ∧ H' B = some (.lst bs) ∧ bs.isEmpty = gs.all id) (fun key => ?_) (fun σ' H12 h => ?_)
      · refine ⟨_, rfl, Lx, rfl, ⟨_, SqL.of hL⟩, fun D2 hD2 => lc_list (xs := xs) (fun i H' => Same H11 H' ∧ ∃ bs, H' D2 = some (.lst bs) ∧ bs.length ≤ i ∧ bs.isEmpty = (gs.take i).all id) ⟨same_new hD2, [], upd_same, Nat.le_refl _, by rw [List.take_zero]; rfl⟩ (fun i H' _ h => SqL.of (h.1 _ _ hL)) (fun i x H' hx h => ?_) (fun H' h => ?_)⟩
        · obtain ⟨s', bs, d', lb, eb⟩ := h
          have li : i < xs.length := (List.getElem?_eq_some_iff.mp hx).1
          have hg : gs[i]? = some (gs[i]'(by rw [← lg.l]; exact li)) := List.getElem?_eq_getElem _
          have lkx := (lg'.g i x _ hx hg).same s'
          generalize gs[i]'(by rw [← lg.l]; exact li) = g at hg lkx
          have tk : (gs.take (i + 1)).all id = (bs.isEmpty && g) := by
            rw [List.take_add_one, hg, List.all_append, ← eb]
            simp
          have inn : g = false → ∃ acc, H' D2 = some (.lst acc) ∧ acc.length < sizeLine ∧ (Same H11 (upd H' D2 (.lst (acc ++ [x]))) ∧ ∃ bs, (upd H' D2 (.lst (acc ++ [x]))) D2 = some (.lst bs) ∧ bs.length ≤ i + 1 ∧ bs.isEmpty = (gs.take (i + 1)).all id) := fun e => by
            refine ⟨bs, d', by rw [sizeLine_eq]; omega, same_put hD2 s', bs ++ [x], upd_same, by rw [List.length_append, List.length_singleton]; omega, ?_⟩
            rw [tk, e, Bool.and_false]
            cases bs <;> rfl
          have out : g = true → Same H11 H' ∧ ∃ bs, H' D2 = some (.lst bs) ∧ bs.length ≤ i + 1 ∧ bs.isEmpty = (gs.take (i + 1)).all id := fun e => ⟨s', bs, d', by omega, by rw [tk, e, Bool.and_true]⟩
          rcases lkx with ⟨eg, b, z, y, rfl, ⟨dx, hb⟩, no, wo, ly⟩ | ⟨eg, ⟨b, z, y, rfl, ⟨dx, hb⟩, y3, y1⟩ | ⟨t, ty, kt⟩⟩
          · refine ⟨rfl, _, rfl, _, _, _, _, true, rfl, .own k.cS, O.M.cT.ty hb, kit_self, true, rfl, iteF ?_⟩
            refine ⟨_, rfl, b, k.cS, dx, _, .str y, rfl, hb, O.M.cT.cl, n2, rfl, y, rfl, by rw [sizeLine_eq]; omega, rfl, _, rfl, ?_⟩
            rw [ly]
            exact iteF (out eg)
          · refine ⟨rfl, _, rfl, _, _, _, _, true, rfl, .own k.cS, O.M.cT.ty hb, kit_self, true, rfl, iteF ?_⟩
            refine ⟨_, rfl, b, k.cS, dx, _, .str y, rfl, hb, O.M.cT.cl, n2, rfl, y, rfl, by rw [sizeLine_eq]; omega, rfl, _, rfl, ?_⟩
            have ne : ¬ V.int ((y.length : Nat) : Int) = V.int 1 := fun e => by
              have := V.int.inj e
              omega
            rw [decide_eq_false ne]
            exact iteT ⟨_, rfl, inn eg⟩
          · exact ⟨rfl, _, rfl, _, _, _, _, false, rfl, .own k.cS, ty, kt, false, rfl, iteT (iteT ⟨_, rfl, inn eg⟩)⟩
        · obtain ⟨s', bs, d', lb, eb⟩ := h
          rw [lg.l, List.take_length] at eb
          exact key _ _ ⟨bs, D2, _, _, _, _, _, rfl, s', d', eb⟩
      obtain ⟨bs, B, v8, v9, v10, v11, v12, rfl, s12, hB, eb⟩ := h
      -- what is found
      refine seq_key (fun σ' H' => ∃ x, σ' = [some (.ref a), some (.int (0 + (i : Int))), some (.ref l), some (.ref Nx), some (.ref D), some (.ref W), some (.ref Lx), some (.ref B), some x, v9, v10, v11, v12] ∧
        Same H12 H' ∧ ((false ∈ gs ∧ ∃ p, x = .ref p ∧ H' p = some (.tup [.str "refused", .str "chain"])) ∨ (false ∉ gs ∧ ∃ c, x = .ref c ∧ ChAt K C k.cS H' c xs))) (fun key => ?_) (fun σ' H13 h => ?_)
      · exact ⟨_, rfl, Lx, xs, gs, rfl, s12 _ _ hL, x3, lg'.same s12, fun e p H' s' hp => key _ _ ⟨_, rfl, s', .inl ⟨e, p, rfl, hp⟩⟩, fun e c H' s' hc => key _ _ ⟨_, rfl, s', .inr ⟨e, c, rfl, hc⟩⟩⟩
      obtain ⟨x, rfl, s13, hx⟩ := h
      have hB13 := s13 _ _ hB
      refine if_key (fun r H' => r = false ∧ Same H13 H') (fun R key => ?_) (fun H' h => by cases h.1) (fun H14 h => ?_)
      · refine ⟨_, rfl, (by show 0 ≤ sizeLine; decide), fun pe hpe => ⟨B, pe, bs, rfl, rfl, same_new hpe _ _ hB13, upd_same, ?_⟩⟩
        have t1 := same_new (o := .lst []) hpe
        rw [eb]
        rcases hx with ⟨e, p, rfl, hp⟩ | ⟨e, c, rfl, hc⟩
        · have al : gs.all id = false := by
            rw [Bool.eq_false_iff]
            exact fun h => by cases List.all_eq_true.mp h false e
          rw [al]
          refine ⟨_, rfl, iteT ?_⟩
          refine ⟨_, rfl, (by show 2 ≤ sizeLine; decide), fun p2 hp2 => ?_⟩
          have t2 := t1.trans (same_new (o := .tup [V.str "refused", .str "chain"]) hp2)
          refine ⟨.ref p, .ref p2, rfl, .inr ⟨p, p2, [.str "refused", .str "chain"], [.str "refused", .str "chain"], rfl, rfl, rfl, by show 2 ≤ 20; decide, .inr ⟨t2 _ _ hp, upd_same⟩, ref2 (by decide +kernel)⟩, fun Hc sc => ⟨_, rfl, iteF ?_⟩⟩
          have t3 := t2.trans sc
          refine ⟨_, rfl, (by show 0 ≤ sizeLine; decide), fun pe2 hpe2 => ⟨B, pe2, bs, rfl, rfl, same_new hpe2 _ _ (t3 _ _ hB13), upd_same, ?_⟩⟩
          rw [eb, al]
          exact ⟨_, rfl, iteF (key _ _ ⟨rfl, t3.trans (same_new hpe2)⟩)⟩
        · have al : gs.all id = true := List.all_eq_true.mpr fun g hg => by
            cases g with
            | true => rfl
            | false => exact absurd hg e
          rw [al]
          refine ⟨_, rfl, iteF ?_⟩
          refine ⟨_, rfl, (by show 0 ≤ sizeLine; decide), fun pe2 hpe2 => ⟨B, pe2, bs, rfl, rfl, same_new hpe2 _ _ (t1 _ _ hB13), upd_same, ?_⟩⟩
          rw [eb, al]
          have t2 := t1.trans (same_new (o := .lst []) hpe2)
          refine ⟨_, rfl, iteT ⟨_, rfl, _, rfl, c, Lx, xs, rfl, hc.same t2, t2 _ _ (s13 _ _ (s12 _ _ hL)), by omega, fun H' s' => ⟨_, rfl, key _ _ ⟨rfl, t2.trans s'⟩⟩⟩⟩
      obtain ⟨_, s14⟩ := h
      dsimp only [tNext]
      have s1114 := (s12.trans s13).trans s14
      have f14 := f11.same s1114
      have b14 := b11.same (same_del s1114)
      have k314 := k311.trans (Keep.same s1114)
      clear s14 s13 s12 s1114 hx hB13 hB eb hL lg lg' lk x3 nL b11 k311 f11
      -- a thing
      refine seq_key (fun σ' H' => ∃ v, σ' = [some (.ref a), some (.int (0 + (i : Int))), some (.ref l), some (.ref Nx), some (.ref D), some (.ref W), some (.ref Lx), some (.ref B), some x, some v, v10, v11, v12] ∧
        Feed H' l ∧ Keep l H14 H' ∧ Dr K k (L2.del H' l) v) (fun key => ?_) (fun σ' H15 h => ?_)
      · exact ⟨_, rfl, l, 2, rfl, by decide, by decide, f14, fun v H' al f' k15 => key _ _ ⟨v, rfl, f', k15, dr_alike k' NE (al.same (nw_del f14))⟩⟩
      obtain ⟨v, rfl, f15, k15, dr⟩ := h
      have b15 := b14.same k15.del
      have k315 := k314.trans k15
      clear f14 b14 k314 k15
      obtain ⟨u0, hu0, g0⟩ := b15.nth 0 (by decide)
      obtain ⟨u1, hu1, g1⟩ := b15.nth 1 (by decide)
      obtain ⟨u2, hu2, g2⟩ := b15.nth 2 (by decide)
      have hD15 := del_sub _ _ b15.hS
      refine seq_key (fun σ' H' => σ' = [some (.ref a), some (.int (0 + (i : Int))), some (.ref l), some (.ref Nx), some (.ref D), some (.ref W), some (.ref Lx), some (.ref B), some x, some v, v10, v11, v12] ∧ Same H15 H') (fun key => ?_) (fun σ' H16 h => ?_)
      · rcases dr.same del_sub with ⟨z, rfl, no⟩ | ⟨c, dx, fs, rfl, hc⟩ | ⟨t, ty, kt, sn, nb⟩
        · refine ⟨_, rfl, _, _, _, _, false, rfl, .own k.cE, .base (.str z), NE.s, false, rfl, iteT ?_⟩
          refine ⟨_, rfl, _, rfl, .inl ⟨z, rfl, by have := no.len; omega⟩, fun H' s' => ?_⟩
          rw [nameB_ok no]
          exact ⟨_, rfl, iteF (key _ _ ⟨rfl, s'⟩)⟩
        · exact ⟨_, rfl, _, _, _, _, true, rfl, .own k.cE, k'.E.ty hc, kit_self, true, rfl, iteF (key _ _ ⟨rfl, Same.refl _⟩)⟩
        · refine ⟨_, rfl, _, _, _, _, false, rfl, .own k.cE, ty, kt, false, rfl, iteT ?_⟩
          refine ⟨_, rfl, _, rfl, sn, fun H' s' => ?_⟩
          rw [nb]
          refine ⟨_, rfl, iteT ?_⟩
          refine ⟨_, rfl, D, ss, 0, u0, rfl, rfl, SqL.of (s' _ _ hD15), at_of (j := 0) rfl hu0, _, rfl, D, ss, 1, u1, rfl, rfl, SqL.of (s' _ _ hD15), at_of (j := 1) rfl hu1, ?_⟩
          refine mul_read (Brings.one ((g0.same del_sub).same s')) (Brings.one ((g1.same del_sub).same s')) (by show 1 ≤ 400; decide) (by show 1 ≤ 400; decide) (fun e => e.elim (fun e => by cases List.mem_singleton.mp e) fun e => by cases List.mem_singleton.mp e) fun _ _ c J t1 cc => ?_
          have t2 := s'.trans t1
          exact ⟨_, rfl, c, v, [u0] ++ [u1], t, rfl, cc, by show 2 ≤ 20; decide, TyX.same t2 ty, kt, seen_same t2 sn, nb, fun J2 s2 => ⟨rfl, _, rfl, iteF (key _ _ ⟨rfl, t2.trans s2⟩)⟩⟩
      obtain ⟨rfl, s16⟩ := h
      have f16 := f15.same s16
      have b16 := b15.same (same_del s16)
      have nD : D ≠ l := fun e => by
        have := b16.hS
        rw [e, del_same] at this
        cases this
      have gS16 := fun v hv => (b16.gS v hv).same del_sub
      refine if_key (fun r H' => r = false ∧ Feed H' l ∧ Keep l H16 H') (fun R key => ?_) (fun H' h => by cases h.1) (fun H17 h => ?_)
      · refine ⟨_, rfl, _, rfl, l, D, ss, rfl, f16, nD, s16 _ _ hD15, by have := b16.l3; omega, by have := b16.l3; omega, gS16, fun H' f' k' => ⟨_, rfl, iteF ?_⟩⟩
        have b' := b16.same k'.del
        obtain ⟨z, y, st, y3, y1⟩ := b'.w
        obtain ⟨dx, st⟩ := st
        refine ⟨_, rfl, _, rfl, D, ss, 0, u0, rfl, rfl, SqL.of (del_sub _ _ b'.hS), at_of (j := 0) rfl hu0, W, u0, z, y, [u0], [true], rfl, ⟨dx, del_sub _ _ st⟩, y3, y1, Brings.one ((b'.gS u0 (List.mem_of_getElem? hu0)).same del_sub), by show 1 ≤ 20; decide, fun J s' => ⟨_, rfl, key _ _ ⟨rfl, f'.same s', k'.trans (Keep.same s')⟩⟩⟩
      obtain ⟨_, f17, k17⟩ := h
      dsimp only [tNext]
      have b17 := b16.same k17.del
      obtain ⟨z, y, st, y3, y1⟩ := b17.w
      obtain ⟨dx, st⟩ := st
      have hD17 := del_sub _ _ b17.hS
      refine ⟨_, rfl, _, rfl, D, ss, 1, u1, rfl, rfl, SqL.of hD17, at_of (j := 1) rfl hu1, _, rfl, D, ss, 2, u2, rfl, rfl, SqL.of hD17, at_of (j := 2) rfl hu2, ?_⟩
      refine mul_read (Brings.one ((b17.gS u1 (List.mem_of_getElem? hu1)).same del_sub)) (Brings.one ((b17.gS u2 (List.mem_of_getElem? hu2)).same del_sub)) (by show 1 ≤ 400; decide) (by show 1 ≤ 400; decide) (fun e => e.elim (fun e => by cases List.mem_singleton.mp e) fun e => by cases List.mem_singleton.mp e) fun _ _ c J t1 cc => ?_
      refine ⟨W, .ref c, z, y, [u1] ++ [u2], ([u1] ++ [u2]).map fun _ => true, rfl, ⟨dx, t1 _ _ (del_sub _ _ st)⟩, y3, y1, Brings.chain cc, by show 2 ≤ 20; decide, fun J2 s2 => ⟨_, rfl, iteF ?_⟩⟩
      have k318 : Keep l H3 J2 := (((k315.trans (Keep.same s16)).trans k17).trans (Keep.same t1)).trans (Keep.same s2)
      exact ⟨⟨_, _, _, _, _, _, _, _, _, _, _, _, rfl⟩, fun b o e => k318 b o (hlH e) e⟩
    · rintro σ H4 ⟨_, s5⟩
      exact q H4
end
end LK

namespace LK
open PySem PySem.Spec PyProof.Rows L2 LR
/-! ### the end -/
theorem rows12 {p : Nat → Prop} (h0 : p 0) (h1 : p 1) (h2 : p 2) (h3 : p 3) (h4 : p 4) (h5 : p 5) (h6 : p 6) (h7 : p 7) (h8 : p 8) (h9 : p 9) (h10 : p 10) (h11 : p 11) : ∀ i, i < 12 → p i
  | 0, _ => h0
  | 1, _ => h1
  | 2, _ => h2
  | 3, _ => h3
  | 4, _ => h4
  | 5, _ => h5
  | 6, _ => h6
  | 7, _ => h7
  | 8, _ => h8
  | 9, _ => h9
  | 10, _ => h10
  | 11, _ => h11
  | n + 12, h => absurd h (by omega)
theorem rows11 {p : Nat → Prop} (h0 : p 0) (h1 : p 1) (h2 : p 2) (h3 : p 3) (h4 : p 4) (h5 : p 5) (h6 : p 6) (h7 : p 7) (h8 : p 8) (h9 : p 9) (h10 : p 10) : ∀ i, i < 11 → p i
  | 0, _ => h0
  | 1, _ => h1
  | 2, _ => h2
  | 3, _ => h3
  | 4, _ => h4
  | 5, _ => h5
  | 6, _ => h6
  | 7, _ => h7
  | 8, _ => h8
  | 9, _ => h9
  | 10, _ => h10
  | n + 11, h => absurd h (by omega)
theorem all_mk {l : PySem.W.OpenLaw} {w : World} {K : PySem.W.Frag} {h : Heap} {mg : Str → Option Value} {fa : Addr} (X : K.In h) (G : h.Ns mainGlobals mg) (hfa : mg "law" = some (.ref fa))
    {flaw_feed : Addr} {odlaw_feed anlaw_feed : Option Addr} {sllaw_feed : Array (Option Value)} {oclaw_feed kVlaw_feed dclaw_feed pmlaw_feed cdlaw_feed ctlaw_feed : Value}
    {flaw_draw : Addr} {odlaw_draw anlaw_draw : Option Addr} {sllaw_draw : Array (Option Value)} {oclaw_draw kVlaw_draw dclaw_draw pmlaw_draw cdlaw_draw ctlaw_draw : Value}
    {flaw_pick : Addr} {odlaw_pick anlaw_pick : Option Addr} {sllaw_pick : Array (Option Value)} {oclaw_pick kVlaw_pick dclaw_pick pmlaw_pick cdlaw_pick ctlaw_pick : Value}
    {flaw_same : Addr} {odlaw_same anlaw_same : Option Addr} {sllaw_same : Array (Option Value)} {oclaw_same kVlaw_same dclaw_same pmlaw_same cdlaw_same ctlaw_same : Value}
    {flaw_word : Addr} {odlaw_word anlaw_word : Option Addr} {sllaw_word : Array (Option Value)} {oclaw_word kVlaw_word dclaw_word pmlaw_word cdlaw_word ctlaw_word : Value}
    {flaw_words : Addr} {odlaw_words anlaw_words : Option Addr} {sllaw_words : Array (Option Value)} {oclaw_words kVlaw_words dclaw_words pmlaw_words cdlaw_words ctlaw_words : Value}
    {flaw_is_name : Addr} {odlaw_is_name anlaw_is_name : Option Addr} {sllaw_is_name : Array (Option Value)} {oclaw_is_name kVlaw_is_name dclaw_is_name pmlaw_is_name cdlaw_is_name ctlaw_is_name : Value}
    {flaw_sign : Addr} {odlaw_sign anlaw_sign : Option Addr} {sllaw_sign : Array (Option Value)} {oclaw_sign kVlaw_sign dclaw_sign pmlaw_sign cdlaw_sign ctlaw_sign : Value}
    {flaw_bent : Addr} {odlaw_bent anlaw_bent : Option Addr} {sllaw_bent : Array (Option Value)} {oclaw_bent kVlaw_bent dclaw_bent pmlaw_bent cdlaw_bent ctlaw_bent : Value}
    {flaw_near_name : Addr} {odlaw_near_name anlaw_near_name : Option Addr} {sllaw_near_name : Array (Option Value)} {oclaw_near_name kVlaw_near_name dclaw_near_name pmlaw_near_name cdlaw_near_name ctlaw_near_name : Value}
    {flaw_any : Addr} {odlaw_any anlaw_any : Option Addr} {sllaw_any : Array (Option Value)} {oclaw_any kVlaw_any dclaw_any pmlaw_any cdlaw_any ctlaw_any : Value}
    {flaw_ways : Addr} {odlaw_ways anlaw_ways : Option Addr} {sllaw_ways : Array (Option Value)} {oclaw_ways kVlaw_ways dclaw_ways pmlaw_ways cdlaw_ways ctlaw_ways : Value}
    {flaw_refused : Addr} {odlaw_refused anlaw_refused : Option Addr} {sllaw_refused : Array (Option Value)} {oclaw_refused kVlaw_refused dclaw_refused pmlaw_refused cdlaw_refused ctlaw_refused : Value}
    {flaw_is : Addr} {odlaw_is anlaw_is : Option Addr} {sllaw_is : Array (Option Value)} {oclaw_is kVlaw_is dclaw_is pmlaw_is cdlaw_is ctlaw_is : Value}
    {flaw_power : Addr} {odlaw_power anlaw_power : Option Addr} {sllaw_power : Array (Option Value)} {oclaw_power kVlaw_power dclaw_power pmlaw_power cdlaw_power ctlaw_power : Value}
    {flaw_chain : Addr} {odlaw_chain anlaw_chain : Option Addr} {sllaw_chain : Array (Option Value)} {oclaw_chain kVlaw_chain dclaw_chain pmlaw_chain cdlaw_chain ctlaw_chain : Value}
    {flaw_told : Addr} {odlaw_told anlaw_told : Option Addr} {sllaw_told : Array (Option Value)} {oclaw_told kVlaw_told dclaw_told pmlaw_told cdlaw_told ctlaw_told : Value}
    {flaw_refuses : Addr} {odlaw_refuses anlaw_refuses : Option Addr} {sllaw_refuses : Array (Option Value)} {oclaw_refuses kVlaw_refuses dclaw_refuses pmlaw_refuses cdlaw_refuses ctlaw_refuses : Value}
    {flaw_right : Addr} {odlaw_right anlaw_right : Option Addr} {sllaw_right : Array (Option Value)} {oclaw_right kVlaw_right dclaw_right pmlaw_right cdlaw_right ctlaw_right : Value}
    {flaw_bad_part : Addr} {odlaw_bad_part anlaw_bad_part : Option Addr} {sllaw_bad_part : Array (Option Value)} {oclaw_bad_part kVlaw_bad_part dclaw_bad_part pmlaw_bad_part cdlaw_bad_part ctlaw_bad_part : Value}
    {flaw_put_together : Addr} {odlaw_put_together anlaw_put_together : Option Addr} {sllaw_put_together : Array (Option Value)} {oclaw_put_together kVlaw_put_together dclaw_put_together pmlaw_put_together cdlaw_put_together ctlaw_put_together : Value}
    {flaw_steps : Addr} {odlaw_steps anlaw_steps : Option Addr} {sllaw_steps : Array (Option Value)} {oclaw_steps kVlaw_steps dclaw_steps pmlaw_steps cdlaw_steps ctlaw_steps : Value}
    {flaw_clashes : Addr} {odlaw_clashes anlaw_clashes : Option Addr} {sllaw_clashes : Array (Option Value)} {oclaw_clashes kVlaw_clashes dclaw_clashes pmlaw_clashes cdlaw_clashes ctlaw_clashes : Value}
    {flaw : Addr} {odlaw anlaw : Option Addr} {sllaw : Array (Option Value)} {oclaw kVlaw dclaw pmlaw cdlaw ctlaw : Value}
    {fis_name : Addr} {odis_name anis_name : Option Addr} {slis_name : Array (Option Value)} {ocis_name kVis_name dcis_name pmis_name cdis_name ctis_name : Value}
    {fis_integer : Addr} {odis_integer anis_integer : Option Addr} {slis_integer : Array (Option Value)} {ocis_integer kVis_integer dcis_integer pmis_integer cdis_integer ctis_integer : Value}
    {fnamed : Addr} {odnamed annamed : Option Addr} {slnamed : Array (Option Value)} {ocnamed kVnamed dcnamed pmnamed cdnamed ctnamed : Value}
    {fapplied : Addr} {odapplied anapplied : Option Addr} {slapplied : Array (Option Value)} {ocapplied kVapplied dcapplied pmapplied cdapplied ctapplied : Value}
    {fas_expr : Addr} {odas_expr anas_expr : Option Addr} {slas_expr : Array (Option Value)} {ocas_expr kVas_expr dcas_expr pmas_expr cdas_expr ctas_expr : Value}
    {fpart_expr : Addr} {odpart_expr anpart_expr : Option Addr} {slpart_expr : Array (Option Value)} {ocpart_expr kVpart_expr dcpart_expr pmpart_expr cdpart_expr ctpart_expr : Value}
    {fjoined : Addr} {odjoined anjoined : Option Addr} {sljoined : Array (Option Value)} {ocjoined kVjoined dcjoined pmjoined cdjoined ctjoined : Value}
    {frepeated : Addr} {odrepeated anrepeated : Option Addr} {slrepeated : Array (Option Value)} {ocrepeated kVrepeated dcrepeated pmrepeated cdrepeated ctrepeated : Value}
    {fare_ways : Addr} {odare_ways anare_ways : Option Addr} {slare_ways : Array (Option Value)} {ocare_ways kVare_ways dcare_ways pmare_ways cdare_ways ctare_ways : Value}
    {fare_steps : Addr} {odare_steps anare_steps : Option Addr} {slare_steps : Array (Option Value)} {ocare_steps kVare_steps dcare_steps pmare_steps cdare_steps ctare_steps : Value}
    {fways_fit : Addr} {odways_fit anways_fit : Option Addr} {slways_fit : Array (Option Value)} {ocways_fit kVways_fit dcways_fit pmways_fit cdways_fit ctways_fit : Value}
    {fall_names : Addr} {odall_names anall_names : Option Addr} {slall_names : Array (Option Value)} {ocall_names kVall_names dcall_names pmall_names cdall_names ctall_names : Value}
    {Tall_names tall_names : Addr} {oTall_names : Value} {dTall_names : Option Addr} {nTall_names : Nat} {sTall_names : Array (Option Value)}
    {fall_steps : Addr} {odall_steps anall_steps : Option Addr} {slall_steps : Array (Option Value)} {ocall_steps kVall_steps dcall_steps pmall_steps cdall_steps ctall_steps : Value}
    {Tall_steps tall_steps : Addr} {oTall_steps : Value} {dTall_steps : Option Addr} {nTall_steps : Nat} {sTall_steps : Array (Option Value)}
    {kw : Addr} {tL tM tk1 tk2 tk3 : Tok} {dKW : Option Addr} {nKW : Nat} {sKW : Array (Option Value)}
    {tY tS : Tok}
    {dC dF tU : Addr} {tO tk4 : Tok} {dTU : Option Addr} {nTU nC nF : Nat} {sTU : Array (Option Value)} {esC esF : Array DictEntry}
    {gS : Addr}
    {fiS : Addr} {odiS aniS : Option Addr} {sliS : Array (Option Value)} {ociS kViS dciS pmiS cdiS ctiS : Value}
    {fqS : Addr} {odqS anqS : Option Addr} {slqS : Array (Option Value)} {ocqS kVqS dcqS pmqS cdqS ctqS : Value}
    {gE : Addr}
    {fiE : Addr} {odiE aniE : Option Addr} {sliE : Array (Option Value)} {ociE kViE dciE pmiE cdiE ctiE : Value}
    {fqE : Addr} {odqE anqE : Option Addr} {slqE : Array (Option Value)} {ocqE kVqE dcqE pmqE cdqE ctqE : Value}
    {gT : Addr}
    {fiT : Addr} {odiT aniT : Option Addr} {sliT : Array (Option Value)} {ociT kViT dciT pmiT cdiT ctiT : Value}
    {fqT : Addr} {odqT anqT : Option Addr} {slqT : Array (Option Value)} {ocqT kVqT dcqT pmqT cdqT ctqT : Value}
    {gC : Addr}
    {fiC : Addr} {odiC aniC : Option Addr} {sliC : Array (Option Value)} {ociC kViC dciC pmiC cdiC ctiC : Value}
    {fqC : Addr} {odqC anqC : Option Addr} {slqC : Array (Option Value)} {ocqC kVqC dcqC pmqC cdqC ctqC : Value}
    {flS : Addr} {odlS anlS : Option Addr} {sllS : Array (Option Value)} {oclS kVlS dclS pmlS cdlS ctlS : Value}
    {fmS : Addr} {odmS anmS : Option Addr} {slmS : Array (Option Value)} {ocmS kVmS dcmS pmmS cdmS ctmS : Value}
    {fpS : Addr} {odpS anpS : Option Addr} {slpS : Array (Option Value)} {ocpS kVpS dcpS pmpS cdpS ctpS : Value}
    {fmC : Addr} {odmC anmC : Option Addr} {slmC : Array (Option Value)} {ocmC kVmC dcmC pmmC cdmC ctmC : Value}
    {fpC : Addr} {odpC anpC : Option Addr} {slpC : Array (Option Value)} {ocpC kVpC dcpC pmpC cdpC ctpC : Value}
    {flC : Addr} {odlC anlC : Option Addr} {sllC : Array (Option Value)} {oclC kVlC dclC pmlC cdlC ctlC : Value}
    {fsC : Addr} {odsC ansC : Option Addr} {slsC : Array (Option Value)} {ocsC kVsC dcsC pmsC cdsC ctsC : Value}
    {fcC : Addr} {odcC ancC : Option Addr} {slcC : Array (Option Value)} {occC kVcC dccC pmcC cdcC ctcC : Value}
    {ipo ipr : Option Value}
    {gx0 : Addr}
    {nmx0 qx0 : Str} {Nx0 : Addr} {bsx0 bmx0 : List Value} {snx0 : List Str} {subx0 : List Value} {abx0 : Bool} {colx0 : Option Bool} {ddx0 : Option Addr} {z0x0 z1x0 z2x0 z3x0 z5x0 : Option Value}
    {fx0 : Addr} {odx0 anx0 : Option Addr} {slx0 : Array (Option Value)} {ocx0 kVx0 dcx0 pmx0 cdx0 ctx0 : Value}
    {gx1 : Addr}
    {nmx1 qx1 : Str} {Nx1 : Addr} {bsx1 bmx1 : List Value} {snx1 : List Str} {subx1 : List Value} {abx1 : Bool} {colx1 : Option Bool} {ddx1 : Option Addr} {z0x1 z1x1 z2x1 z3x1 z5x1 : Option Value}
    {fx1 : Addr} {odx1 anx1 : Option Addr} {slx1 : Array (Option Value)} {ocx1 kVx1 dcx1 pmx1 cdx1 ctx1 : Value}
    {gx2 : Addr}
    {nmx2 qx2 : Str} {Nx2 : Addr} {bsx2 bmx2 : List Value} {snx2 : List Str} {subx2 : List Value} {abx2 : Bool} {colx2 : Option Bool} {ddx2 : Option Addr} {z0x2 z1x2 z2x2 z3x2 z5x2 : Option Value}
    {fx2 : Addr} {odx2 anx2 : Option Addr} {slx2 : Array (Option Value)} {ocx2 kVx2 dcx2 pmx2 cdx2 ctx2 : Value}
    {gx3 : Addr}
    {nmx3 qx3 : Str} {Nx3 : Addr} {bsx3 bmx3 : List Value} {snx3 : List Str} {subx3 : List Value} {abx3 : Bool} {colx3 : Option Bool} {ddx3 : Option Addr} {z0x3 z1x3 z2x3 z3x3 z5x3 : Option Value}
    {fx3 : Addr} {odx3 anx3 : Option Addr} {slx3 : Array (Option Value)} {ocx3 kVx3 dcx3 pmx3 cdx3 ctx3 : Value}
    {gx4 : Addr}
    {nmx4 qx4 : Str} {Nx4 : Addr} {bsx4 bmx4 : List Value} {snx4 : List Str} {subx4 : List Value} {abx4 : Bool} {colx4 : Option Bool} {ddx4 : Option Addr} {z0x4 z1x4 z2x4 z3x4 z5x4 : Option Value}
    {fx4 : Addr} {odx4 anx4 : Option Addr} {slx4 : Array (Option Value)} {ocx4 kVx4 dcx4 pmx4 cdx4 ctx4 : Value}
    {gx5 : Addr}
    {nmx5 qx5 : Str} {Nx5 : Addr} {bsx5 bmx5 : List Value} {snx5 : List Str} {subx5 : List Value} {abx5 : Bool} {colx5 : Option Bool} {ddx5 : Option Addr} {z0x5 z1x5 z2x5 z3x5 z5x5 : Option Value}
    {fx5 : Addr} {odx5 anx5 : Option Addr} {slx5 : Array (Option Value)} {ocx5 kVx5 dcx5 pmx5 cdx5 ctx5 : Value}
    {gx6 : Addr}
    {nmx6 qx6 : Str} {Nx6 : Addr} {bsx6 bmx6 : List Value} {snx6 : List Str} {subx6 : List Value} {abx6 : Bool} {colx6 : Option Bool} {ddx6 : Option Addr} {z0x6 z1x6 z2x6 z3x6 z5x6 : Option Value}
    {fx6 : Addr} {odx6 anx6 : Option Addr} {slx6 : Array (Option Value)} {ocx6 kVx6 dcx6 pmx6 cdx6 ctx6 : Value}
    {gx7 : Addr}
    {nmx7 qx7 : Str} {Nx7 : Addr} {bsx7 bmx7 : List Value} {snx7 : List Str} {subx7 : List Value} {abx7 : Bool} {colx7 : Option Bool} {ddx7 : Option Addr} {z0x7 z1x7 z2x7 z3x7 z5x7 : Option Value}
    {fx7 : Addr} {odx7 anx7 : Option Addr} {slx7 : Array (Option Value)} {ocx7 kVx7 dcx7 pmx7 cdx7 ctx7 : Value}
    {gx8 : Addr}
    {nmx8 qx8 : Str} {Nx8 : Addr} {bsx8 bmx8 : List Value} {snx8 : List Str} {subx8 : List Value} {abx8 : Bool} {colx8 : Option Bool} {ddx8 : Option Addr} {z0x8 z1x8 z2x8 z3x8 z5x8 : Option Value}
    {fx8 : Addr} {odx8 anx8 : Option Addr} {slx8 : Array (Option Value)} {ocx8 kVx8 dcx8 pmx8 cdx8 ctx8 : Value}
    {gx9 : Addr}
    {nmx9 qx9 : Str} {Nx9 : Addr} {bsx9 bmx9 : List Value} {snx9 : List Str} {subx9 : List Value} {abx9 : Bool} {colx9 : Option Bool} {ddx9 : Option Addr} {z0x9 z1x9 z2x9 z3x9 z5x9 : Option Value}
    {fx9 : Addr} {odx9 anx9 : Option Addr} {slx9 : Array (Option Value)} {ocx9 kVx9 dcx9 pmx9 cdx9 ctx9 : Value}
    {gx10 : Addr}
    {nmx10 qx10 : Str} {Nx10 : Addr} {bsx10 bmx10 : List Value} {snx10 : List Str} {subx10 : List Value} {abx10 : Bool} {colx10 : Option Bool} {ddx10 : Option Addr} {z0x10 z1x10 z2x10 z3x10 z5x10 : Option Value}
    {fx10 : Addr} {odx10 anx10 : Option Addr} {slx10 : Array (Option Value)} {ocx10 kVx10 dcx10 pmx10 cdx10 ctx10 : Value}
    {gx11 : Addr}
    {nmx11 qx11 : Str} {Nx11 : Addr} {bsx11 bmx11 : List Value} {snx11 : List Str} {subx11 : List Value} {abx11 : Bool} {colx11 : Option Bool} {ddx11 : Option Addr} {z0x11 z1x11 z2x11 z3x11 z5x11 : Option Value}
    {gx12 : Addr}
    {nmx12 qx12 : Str} {Nx12 : Addr} {bsx12 bmx12 : List Value} {snx12 : List Str} {subx12 : List Value} {abx12 : Bool} {colx12 : Option Bool} {ddx12 : Option Addr} {z0x12 z1x12 z2x12 z3x12 z5x12 : Option Value}
    (b_len : PySem.W.nsIn K mainGlobals "len" = some none)
    (b_abs : PySem.W.nsIn K mainGlobals "abs" = some none)
    (b_int : PySem.W.nsIn K mainGlobals "int" = some none)
    (b_range : PySem.W.nsIn K mainGlobals "range" = some none)
    (b_isinstance : PySem.W.nsIn K mainGlobals "isinstance" = some none)
    (b_tuple : PySem.W.nsIn K mainGlobals "tuple" = some none)
    (b_list : PySem.W.nsIn K mainGlobals "list" = some none)
    (b_all : PySem.W.nsIn K mainGlobals "all" = some none)
    (b_zip : PySem.W.nsIn K mainGlobals "zip" = some none)
    (b_bool : PySem.W.nsIn K mainGlobals "bool" = some none)
    (b_str : PySem.W.nsIn K mainGlobals "str" = some none)
    (b_set : PySem.W.nsIn K mainGlobals "set" = some none)
    (b_sorted : PySem.W.nsIn K mainGlobals "sorted" = some none)
    (b_sum : PySem.W.nsIn K mainGlobals "sum" = some none)
    (b_any : PySem.W.nsIn K mainGlobals "any" = some none)
    (b_enumerate : PySem.W.nsIn K mainGlobals "enumerate" = some none)
    (b_ve : PySem.W.nsIn K mainGlobals "ValueError" = some none)
    (alaw_feed : PySem.W.nsIn K mainGlobals "_law_feed" = some (some (.ref flaw_feed)))
    (llaw_feed : K.lookup flaw_feed = some ⟨oclaw_feed, odlaw_feed, .func (PySem.W.fnOf "_law_feed" "_law_feed" (defArgs sFeed) (defBody sFeed) (defScope sFeed) .none kVlaw_feed dclaw_feed pmlaw_feed anlaw_feed cdlaw_feed ctlaw_feed), sllaw_feed⟩)
    (claw_feed : PySem.W.codeIn K cdlaw_feed "_law_feed" = true)
    (klaw_feed : PySem.W.keepIn K (.ref flaw_feed) = true)
    (alaw_draw : PySem.W.nsIn K mainGlobals "_law_draw" = some (some (.ref flaw_draw)))
    (llaw_draw : K.lookup flaw_draw = some ⟨oclaw_draw, odlaw_draw, .func (PySem.W.fnOf "_law_draw" "_law_draw" (defArgs sDraw) (defBody sDraw) (defScope sDraw) .none kVlaw_draw dclaw_draw pmlaw_draw anlaw_draw cdlaw_draw ctlaw_draw), sllaw_draw⟩)
    (claw_draw : PySem.W.codeIn K cdlaw_draw "_law_draw" = true)
    (klaw_draw : PySem.W.keepIn K (.ref flaw_draw) = true)
    (alaw_pick : PySem.W.nsIn K mainGlobals "_law_pick" = some (some (.ref flaw_pick)))
    (llaw_pick : K.lookup flaw_pick = some ⟨oclaw_pick, odlaw_pick, .func (PySem.W.fnOf "_law_pick" "_law_pick" (defArgs sPick) (defBody sPick) (defScope sPick) .none kVlaw_pick dclaw_pick pmlaw_pick anlaw_pick cdlaw_pick ctlaw_pick), sllaw_pick⟩)
    (claw_pick : PySem.W.codeIn K cdlaw_pick "_law_pick" = true)
    (klaw_pick : PySem.W.keepIn K (.ref flaw_pick) = true)
    (alaw_same : PySem.W.nsIn K mainGlobals "_law_same" = some (some (.ref flaw_same)))
    (llaw_same : K.lookup flaw_same = some ⟨oclaw_same, odlaw_same, .func (PySem.W.fnOf "_law_same" "_law_same" (defArgs sSame) (defBody sSame) (defScope sSame) .none kVlaw_same dclaw_same pmlaw_same anlaw_same cdlaw_same ctlaw_same), sllaw_same⟩)
    (claw_same : PySem.W.codeIn K cdlaw_same "_law_same" = true)
    (klaw_same : PySem.W.keepIn K (.ref flaw_same) = true)
    (alaw_word : PySem.W.nsIn K mainGlobals "_law_word" = some (some (.ref flaw_word)))
    (llaw_word : K.lookup flaw_word = some ⟨oclaw_word, odlaw_word, .func (PySem.W.fnOf "_law_word" "_law_word" (defArgs sWord) (defBody sWord) (defScope sWord) .none kVlaw_word dclaw_word pmlaw_word anlaw_word cdlaw_word ctlaw_word), sllaw_word⟩)
    (claw_word : PySem.W.codeIn K cdlaw_word "_law_word" = true)
    (klaw_word : PySem.W.keepIn K (.ref flaw_word) = true)
    (alaw_words : PySem.W.nsIn K mainGlobals "_law_words" = some (some (.ref flaw_words)))
    (llaw_words : K.lookup flaw_words = some ⟨oclaw_words, odlaw_words, .func (PySem.W.fnOf "_law_words" "_law_words" (defArgs sWords) (defBody sWords) (defScope sWords) .none kVlaw_words dclaw_words pmlaw_words anlaw_words cdlaw_words ctlaw_words), sllaw_words⟩)
    (claw_words : PySem.W.codeIn K cdlaw_words "_law_words" = true)
    (klaw_words : PySem.W.keepIn K (.ref flaw_words) = true)
    (alaw_is_name : PySem.W.nsIn K mainGlobals "_law_is_name" = some (some (.ref flaw_is_name)))
    (llaw_is_name : K.lookup flaw_is_name = some ⟨oclaw_is_name, odlaw_is_name, .func (PySem.W.fnOf "_law_is_name" "_law_is_name" (defArgs sLIsName) (defBody sLIsName) (defScope sLIsName) .none kVlaw_is_name dclaw_is_name pmlaw_is_name anlaw_is_name cdlaw_is_name ctlaw_is_name), sllaw_is_name⟩)
    (claw_is_name : PySem.W.codeIn K cdlaw_is_name "_law_is_name" = true)
    (klaw_is_name : PySem.W.keepIn K (.ref flaw_is_name) = true)
    (alaw_sign : PySem.W.nsIn K mainGlobals "_law_sign" = some (some (.ref flaw_sign)))
    (llaw_sign : K.lookup flaw_sign = some ⟨oclaw_sign, odlaw_sign, .func (PySem.W.fnOf "_law_sign" "_law_sign" (defArgs sSign) (defBody sSign) (defScope sSign) .none kVlaw_sign dclaw_sign pmlaw_sign anlaw_sign cdlaw_sign ctlaw_sign), sllaw_sign⟩)
    (claw_sign : PySem.W.codeIn K cdlaw_sign "_law_sign" = true)
    (klaw_sign : PySem.W.keepIn K (.ref flaw_sign) = true)
    (alaw_bent : PySem.W.nsIn K mainGlobals "_law_bent" = some (some (.ref flaw_bent)))
    (llaw_bent : K.lookup flaw_bent = some ⟨oclaw_bent, odlaw_bent, .func (PySem.W.fnOf "_law_bent" "_law_bent" (defArgs sBent) (defBody sBent) (defScope sBent) .none kVlaw_bent dclaw_bent pmlaw_bent anlaw_bent cdlaw_bent ctlaw_bent), sllaw_bent⟩)
    (claw_bent : PySem.W.codeIn K cdlaw_bent "_law_bent" = true)
    (klaw_bent : PySem.W.keepIn K (.ref flaw_bent) = true)
    (alaw_near_name : PySem.W.nsIn K mainGlobals "_law_near_name" = some (some (.ref flaw_near_name)))
    (llaw_near_name : K.lookup flaw_near_name = some ⟨oclaw_near_name, odlaw_near_name, .func (PySem.W.fnOf "_law_near_name" "_law_near_name" (defArgs sNear) (defBody sNear) (defScope sNear) .none kVlaw_near_name dclaw_near_name pmlaw_near_name anlaw_near_name cdlaw_near_name ctlaw_near_name), sllaw_near_name⟩)
    (claw_near_name : PySem.W.codeIn K cdlaw_near_name "_law_near_name" = true)
    (klaw_near_name : PySem.W.keepIn K (.ref flaw_near_name) = true)
    (alaw_any : PySem.W.nsIn K mainGlobals "_law_any" = some (some (.ref flaw_any)))
    (llaw_any : K.lookup flaw_any = some ⟨oclaw_any, odlaw_any, .func (PySem.W.fnOf "_law_any" "_law_any" (defArgs sAny) (defBody sAny) (defScope sAny) .none kVlaw_any dclaw_any pmlaw_any anlaw_any cdlaw_any ctlaw_any), sllaw_any⟩)
    (claw_any : PySem.W.codeIn K cdlaw_any "_law_any" = true)
    (klaw_any : PySem.W.keepIn K (.ref flaw_any) = true)
    (alaw_ways : PySem.W.nsIn K mainGlobals "_law_ways" = some (some (.ref flaw_ways)))
    (llaw_ways : K.lookup flaw_ways = some ⟨oclaw_ways, odlaw_ways, .func (PySem.W.fnOf "_law_ways" "_law_ways" (defArgs sWays) (defBody sWays) (defScope sWays) .none kVlaw_ways dclaw_ways pmlaw_ways anlaw_ways cdlaw_ways ctlaw_ways), sllaw_ways⟩)
    (claw_ways : PySem.W.codeIn K cdlaw_ways "_law_ways" = true)
    (klaw_ways : PySem.W.keepIn K (.ref flaw_ways) = true)
    (alaw_refused : PySem.W.nsIn K mainGlobals "_law_refused" = some (some (.ref flaw_refused)))
    (llaw_refused : K.lookup flaw_refused = some ⟨oclaw_refused, odlaw_refused, .func (PySem.W.fnOf "_law_refused" "_law_refused" (defArgs sRefused) (defBody sRefused) (defScope sRefused) .none kVlaw_refused dclaw_refused pmlaw_refused anlaw_refused cdlaw_refused ctlaw_refused), sllaw_refused⟩)
    (claw_refused : PySem.W.codeIn K cdlaw_refused "_law_refused" = true)
    (klaw_refused : PySem.W.keepIn K (.ref flaw_refused) = true)
    (alaw_is : PySem.W.nsIn K mainGlobals "_law_is" = some (some (.ref flaw_is)))
    (llaw_is : K.lookup flaw_is = some ⟨oclaw_is, odlaw_is, .func (PySem.W.fnOf "_law_is" "_law_is" (defArgs sIs) (defBody sIs) (defScope sIs) .none kVlaw_is dclaw_is pmlaw_is anlaw_is cdlaw_is ctlaw_is), sllaw_is⟩)
    (claw_is : PySem.W.codeIn K cdlaw_is "_law_is" = true)
    (klaw_is : PySem.W.keepIn K (.ref flaw_is) = true)
    (alaw_power : PySem.W.nsIn K mainGlobals "_law_power" = some (some (.ref flaw_power)))
    (llaw_power : K.lookup flaw_power = some ⟨oclaw_power, odlaw_power, .func (PySem.W.fnOf "_law_power" "_law_power" (defArgs sPower) (defBody sPower) (defScope sPower) .none kVlaw_power dclaw_power pmlaw_power anlaw_power cdlaw_power ctlaw_power), sllaw_power⟩)
    (claw_power : PySem.W.codeIn K cdlaw_power "_law_power" = true)
    (klaw_power : PySem.W.keepIn K (.ref flaw_power) = true)
    (alaw_chain : PySem.W.nsIn K mainGlobals "_law_chain" = some (some (.ref flaw_chain)))
    (llaw_chain : K.lookup flaw_chain = some ⟨oclaw_chain, odlaw_chain, .func (PySem.W.fnOf "_law_chain" "_law_chain" (defArgs sLChain) (defBody sLChain) (defScope sLChain) .none kVlaw_chain dclaw_chain pmlaw_chain anlaw_chain cdlaw_chain ctlaw_chain), sllaw_chain⟩)
    (claw_chain : PySem.W.codeIn K cdlaw_chain "_law_chain" = true)
    (klaw_chain : PySem.W.keepIn K (.ref flaw_chain) = true)
    (alaw_told : PySem.W.nsIn K mainGlobals "_law_told" = some (some (.ref flaw_told)))
    (llaw_told : K.lookup flaw_told = some ⟨oclaw_told, odlaw_told, .func (PySem.W.fnOf "_law_told" "_law_told" (defArgs sTold) (defBody sTold) (defScope sTold) .none kVlaw_told dclaw_told pmlaw_told anlaw_told cdlaw_told ctlaw_told), sllaw_told⟩)
    (claw_told : PySem.W.codeIn K cdlaw_told "_law_told" = true)
    (klaw_told : PySem.W.keepIn K (.ref flaw_told) = true)
    (alaw_refuses : PySem.W.nsIn K mainGlobals "_law_refuses" = some (some (.ref flaw_refuses)))
    (llaw_refuses : K.lookup flaw_refuses = some ⟨oclaw_refuses, odlaw_refuses, .func (PySem.W.fnOf "_law_refuses" "_law_refuses" (defArgs sRefuses) (defBody sRefuses) (defScope sRefuses) .none kVlaw_refuses dclaw_refuses pmlaw_refuses anlaw_refuses cdlaw_refuses ctlaw_refuses), sllaw_refuses⟩)
    (claw_refuses : PySem.W.codeIn K cdlaw_refuses "_law_refuses" = true)
    (klaw_refuses : PySem.W.keepIn K (.ref flaw_refuses) = true)
    (alaw_right : PySem.W.nsIn K mainGlobals "_law_right" = some (some (.ref flaw_right)))
    (llaw_right : K.lookup flaw_right = some ⟨oclaw_right, odlaw_right, .func (PySem.W.fnOf "_law_right" "_law_right" (defArgs sRight) (defBody sRight) (defScope sRight) .none kVlaw_right dclaw_right pmlaw_right anlaw_right cdlaw_right ctlaw_right), sllaw_right⟩)
    (claw_right : PySem.W.codeIn K cdlaw_right "_law_right" = true)
    (klaw_right : PySem.W.keepIn K (.ref flaw_right) = true)
    (alaw_bad_part : PySem.W.nsIn K mainGlobals "_law_bad_part" = some (some (.ref flaw_bad_part)))
    (llaw_bad_part : K.lookup flaw_bad_part = some ⟨oclaw_bad_part, odlaw_bad_part, .func (PySem.W.fnOf "_law_bad_part" "_law_bad_part" (defArgs sBadPart) (defBody sBadPart) (defScope sBadPart) .none kVlaw_bad_part dclaw_bad_part pmlaw_bad_part anlaw_bad_part cdlaw_bad_part ctlaw_bad_part), sllaw_bad_part⟩)
    (claw_bad_part : PySem.W.codeIn K cdlaw_bad_part "_law_bad_part" = true)
    (klaw_bad_part : PySem.W.keepIn K (.ref flaw_bad_part) = true)
    (alaw_put_together : PySem.W.nsIn K mainGlobals "_law_put_together" = some (some (.ref flaw_put_together)))
    (llaw_put_together : K.lookup flaw_put_together = some ⟨oclaw_put_together, odlaw_put_together, .func (PySem.W.fnOf "_law_put_together" "_law_put_together" (defArgs sPutTog4) (defBody sPutTog4) (defScope sPutTog4) .none kVlaw_put_together dclaw_put_together pmlaw_put_together anlaw_put_together cdlaw_put_together ctlaw_put_together), sllaw_put_together⟩)
    (claw_put_together : PySem.W.codeIn K cdlaw_put_together "_law_put_together" = true)
    (klaw_put_together : PySem.W.keepIn K (.ref flaw_put_together) = true)
    (alaw_steps : PySem.W.nsIn K mainGlobals "_law_steps" = some (some (.ref flaw_steps)))
    (llaw_steps : K.lookup flaw_steps = some ⟨oclaw_steps, odlaw_steps, .func (PySem.W.fnOf "_law_steps" "_law_steps" (defArgs sLSteps) (defBody sLSteps) (defScope sLSteps) .none kVlaw_steps dclaw_steps pmlaw_steps anlaw_steps cdlaw_steps ctlaw_steps), sllaw_steps⟩)
    (claw_steps : PySem.W.codeIn K cdlaw_steps "_law_steps" = true)
    (klaw_steps : PySem.W.keepIn K (.ref flaw_steps) = true)
    (alaw_clashes : PySem.W.nsIn K mainGlobals "_law_clashes" = some (some (.ref flaw_clashes)))
    (llaw_clashes : K.lookup flaw_clashes = some ⟨oclaw_clashes, odlaw_clashes, .func (PySem.W.fnOf "_law_clashes" "_law_clashes" (defArgs sClashes) (defBody sClashes) (defScope sClashes) .none kVlaw_clashes dclaw_clashes pmlaw_clashes anlaw_clashes cdlaw_clashes ctlaw_clashes), sllaw_clashes⟩)
    (claw_clashes : PySem.W.codeIn K cdlaw_clashes "_law_clashes" = true)
    (klaw_clashes : PySem.W.keepIn K (.ref flaw_clashes) = true)
    (alaw : PySem.W.nsIn K mainGlobals "law" = some (some (.ref flaw)))
    (llaw : K.lookup flaw = some ⟨oclaw, odlaw, .func (PySem.W.fnOf "law" "law" (defArgs sLaw) (defBody sLaw) (defScope sLaw) .none kVlaw dclaw pmlaw anlaw cdlaw ctlaw), sllaw⟩)
    (claw : PySem.W.codeIn K cdlaw "law" = true)
    (klaw : PySem.W.keepIn K (.ref flaw) = true)
    (ais_name : PySem.W.nsIn K mainGlobals "is_name" = some (some (.ref fis_name)))
    (lis_name : K.lookup fis_name = some ⟨ocis_name, odis_name, .func (PySem.W.fnOf "is_name" "is_name" (defArgs sIsName) (defBody sIsName) (defScope sIsName) .none kVis_name dcis_name pmis_name anis_name cdis_name ctis_name), slis_name⟩)
    (cis_name : PySem.W.codeIn K cdis_name "is_name" = true)
    (kis_name : PySem.W.keepIn K (.ref fis_name) = true)
    (ais_integer : PySem.W.nsIn K mainGlobals "is_integer" = some (some (.ref fis_integer)))
    (lis_integer : K.lookup fis_integer = some ⟨ocis_integer, odis_integer, .func (PySem.W.fnOf "is_integer" "is_integer" (defArgs sIsInteger) (defBody sIsInteger) (defScope sIsInteger) .none kVis_integer dcis_integer pmis_integer anis_integer cdis_integer ctis_integer), slis_integer⟩)
    (cis_integer : PySem.W.codeIn K cdis_integer "is_integer" = true)
    (kis_integer : PySem.W.keepIn K (.ref fis_integer) = true)
    (anamed : PySem.W.nsIn K mainGlobals "named" = some (some (.ref fnamed)))
    (lnamed : K.lookup fnamed = some ⟨ocnamed, odnamed, .func (PySem.W.fnOf "named" "named" (defArgs sNamed) (defBody sNamed) (defScope sNamed) .none kVnamed dcnamed pmnamed annamed cdnamed ctnamed), slnamed⟩)
    (cnamed : PySem.W.codeIn K cdnamed "named" = true)
    (knamed : PySem.W.keepIn K (.ref fnamed) = true)
    (aapplied : PySem.W.nsIn K mainGlobals "applied" = some (some (.ref fapplied)))
    (lapplied : K.lookup fapplied = some ⟨ocapplied, odapplied, .func (PySem.W.fnOf "applied" "applied" (defArgs sApplied) (defBody sApplied) (defScope sApplied) .none kVapplied dcapplied pmapplied anapplied cdapplied ctapplied), slapplied⟩)
    (capplied : PySem.W.codeIn K cdapplied "applied" = true)
    (kapplied : PySem.W.keepIn K (.ref fapplied) = true)
    (aas_expr : PySem.W.nsIn K mainGlobals "as_expr" = some (some (.ref fas_expr)))
    (las_expr : K.lookup fas_expr = some ⟨ocas_expr, odas_expr, .func (PySem.W.fnOf "as_expr" "as_expr" (defArgs sAsExpr) (defBody sAsExpr) (defScope sAsExpr) .none kVas_expr dcas_expr pmas_expr anas_expr cdas_expr ctas_expr), slas_expr⟩)
    (cas_expr : PySem.W.codeIn K cdas_expr "as_expr" = true)
    (kas_expr : PySem.W.keepIn K (.ref fas_expr) = true)
    (apart_expr : PySem.W.nsIn K mainGlobals "part_expr" = some (some (.ref fpart_expr)))
    (lpart_expr : K.lookup fpart_expr = some ⟨ocpart_expr, odpart_expr, .func (PySem.W.fnOf "part_expr" "part_expr" (defArgs sPartExpr) (defBody sPartExpr) (defScope sPartExpr) .none kVpart_expr dcpart_expr pmpart_expr anpart_expr cdpart_expr ctpart_expr), slpart_expr⟩)
    (cpart_expr : PySem.W.codeIn K cdpart_expr "part_expr" = true)
    (kpart_expr : PySem.W.keepIn K (.ref fpart_expr) = true)
    (ajoined : PySem.W.nsIn K mainGlobals "_joined" = some (some (.ref fjoined)))
    (ljoined : K.lookup fjoined = some ⟨ocjoined, odjoined, .func (PySem.W.fnOf "_joined" "_joined" (defArgs sJoined) (defBody sJoined) (defScope sJoined) .none kVjoined dcjoined pmjoined anjoined cdjoined ctjoined), sljoined⟩)
    (cjoined : PySem.W.codeIn K cdjoined "_joined" = true)
    (kjoined : PySem.W.keepIn K (.ref fjoined) = true)
    (arepeated : PySem.W.nsIn K mainGlobals "_repeated" = some (some (.ref frepeated)))
    (lrepeated : K.lookup frepeated = some ⟨ocrepeated, odrepeated, .func (PySem.W.fnOf "_repeated" "_repeated" (defArgs sRepeated) (defBody sRepeated) (defScope sRepeated) .none kVrepeated dcrepeated pmrepeated anrepeated cdrepeated ctrepeated), slrepeated⟩)
    (crepeated : PySem.W.codeIn K cdrepeated "_repeated" = true)
    (krepeated : PySem.W.keepIn K (.ref frepeated) = true)
    (aare_ways : PySem.W.nsIn K mainGlobals "_are_ways" = some (some (.ref fare_ways)))
    (lare_ways : K.lookup fare_ways = some ⟨ocare_ways, odare_ways, .func (PySem.W.fnOf "_are_ways" "_are_ways" (defArgs sAreWays) (defBody sAreWays) (defScope sAreWays) .none kVare_ways dcare_ways pmare_ways anare_ways cdare_ways ctare_ways), slare_ways⟩)
    (care_ways : PySem.W.codeIn K cdare_ways "_are_ways" = true)
    (kare_ways : PySem.W.keepIn K (.ref fare_ways) = true)
    (aare_steps : PySem.W.nsIn K mainGlobals "_are_steps" = some (some (.ref fare_steps)))
    (lare_steps : K.lookup fare_steps = some ⟨ocare_steps, odare_steps, .func (PySem.W.fnOf "_are_steps" "_are_steps" (defArgs sAreSteps) (defBody sAreSteps) (defScope sAreSteps) .none kVare_steps dcare_steps pmare_steps anare_steps cdare_steps ctare_steps), slare_steps⟩)
    (care_steps : PySem.W.codeIn K cdare_steps "_are_steps" = true)
    (kare_steps : PySem.W.keepIn K (.ref fare_steps) = true)
    (aways_fit : PySem.W.nsIn K mainGlobals "_ways_fit" = some (some (.ref fways_fit)))
    (lways_fit : K.lookup fways_fit = some ⟨ocways_fit, odways_fit, .func (PySem.W.fnOf "_ways_fit" "_ways_fit" (defArgs sWaysFit) (defBody sWaysFit) (defScope sWaysFit) .none kVways_fit dcways_fit pmways_fit anways_fit cdways_fit ctways_fit), slways_fit⟩)
    (cways_fit : PySem.W.codeIn K cdways_fit "_ways_fit" = true)
    (kways_fit : PySem.W.keepIn K (.ref fways_fit) = true)
    (aall_names : PySem.W.nsIn K mainGlobals "all_names" = some (some (.ref fall_names)))
    (lall_names : K.lookup fall_names = some ⟨ocall_names, odall_names, .func (PySem.W.fnOf "all_names" "all_names" (defArgs sAllNames) (defBody sAllNames) (defScope sAllNames) (.ref Tall_names) kVall_names dcall_names pmall_names anall_names cdall_names ctall_names), slall_names⟩)
    (call_names : PySem.W.codeIn K cdall_names "all_names" = true)
    (kall_names : PySem.W.keepIn K (.ref fall_names) = true)
    (eall_names : K.lookup Tall_names = some ⟨oTall_names, dTall_names, .seq #[.ref tall_names] nTall_names, sTall_names⟩)
    (aall_steps : PySem.W.nsIn K mainGlobals "all_steps" = some (some (.ref fall_steps)))
    (lall_steps : K.lookup fall_steps = some ⟨ocall_steps, odall_steps, .func (PySem.W.fnOf "all_steps" "all_steps" (defArgs sAllSteps) (defBody sAllSteps) (defScope sAllSteps) (.ref Tall_steps) kVall_steps dcall_steps pmall_steps anall_steps cdall_steps ctall_steps), slall_steps⟩)
    (call_steps : PySem.W.codeIn K cdall_steps "all_steps" = true)
    (kall_steps : PySem.W.keepIn K (.ref fall_steps) = true)
    (eall_steps : K.lookup Tall_steps = some ⟨oTall_steps, dTall_steps, .seq #[.ref tall_steps] nTall_steps, sTall_steps⟩)
    (w1 : PySem.W.nsIn K mainGlobals "LONGEST_NAME" = some (some (.int 4 tL)))
    (w2 : PySem.W.nsIn K mainGlobals "LETTERS" = some (some (.str "abcdefghijklmnopqrstuvwxyz" tM)))
    (w3 : PySem.W.nsIn K mainGlobals "KEPT_WORDS" = some (some (.ref kw)))
    (w4 : K.lookup kw = some ⟨.type "tuple", dKW, .seq #[.str "if" tk1, .str "else" tk2, .str "end" tk3] nKW, sKW⟩)
    (w5 : PySem.W.nsIn K mainGlobals "MOST_ARGUMENTS" = some (some (.int 3 tY)))
    (w6 : PySem.W.nsIn K mainGlobals "WAYS" = some (some (.str "+-?" tS)))
    (w7 : PySem.W.nsIn K mainGlobals "STEP_COUNTS" = some (some (.ref dC)))
    (w8 : K.lookup dC = some ⟨.type "dict", none, .dict esC nC, #[]⟩)
    (w9 : PySem.W.KeysLit w.params esC.toList)
    (w10 : (dC == sysModules) = false)
    (w11 : PySem.W.nsIn K dC "up" = some (some (.int 1 tO)))
    (w12 : PySem.W.nsIn K mainGlobals "FITTING_WAYS" = some (some (.ref dF)))
    (w13 : K.lookup dF = some ⟨.type "dict", none, .dict esF nF, #[]⟩)
    (w14 : PySem.W.KeysLit w.params esF.toList)
    (w15 : (dF == sysModules) = false)
    (w16 : PySem.W.nsIn K dF "up" = some (some (.ref tU)))
    (w17 : K.lookup tU = some ⟨.type "tuple", dTU, .seq #[.str "+" tk4] nTU, sTU⟩)
    (so : PySem.W.specialIn K (.builtin "object.__class__") "__get__" = some (some (.builtin "getset_descriptor.__get__")))
    (tk : PySem.W.takesIn K (.builtin "object.__class__") = some true)
    (gSa : PySem.W.nsIn K mainGlobals "Step" = some (some (.ref gS)))
    (gS1 : PySem.W.plainGet K gS Str.empty = true)
    (gS2 : PySem.W.hasDictIn K gS = true)
    (gS3 : PySem.W.plainOver K gS = true)
    (gS4 : PySem.W.findIn K (.ref gS) "__setattr__" = some (some (.builtin "object.__setattr__")))
    (gS5 : PySem.W.findIn K (.ref gS) "__class__" = some (some (.builtin "object.__class__")))
    (gS6 : PySem.W.mroIn K gS (.type "object") = some true)
    (gSk0 : PySem.W.kitOne K (.ref gS) (.type "tuple") = some false)
    (gSk1 : PySem.W.kitOne K (.ref gS) (.type "list") = some false)
    (gSk2 : PySem.W.kitOne K (.ref gS) (.type "bool") = some false)
    (gSk3 : PySem.W.kitOne K (.ref gS) (.type "str") = some false)
    (gS7 : PySem.W.makesIn K gS = true)
    (gS8 : PySem.W.keepIn K (.ref gS) = true)
    (aiS : PySem.W.findIn K (.ref gS) "__init__" = some (some (.ref fiS)))
    (niS : PySem.W.isFn K (.ref fiS) = true)
    (liS : K.lookup fiS = some ⟨ociS, odiS, .func (PySem.W.fnOf "__init__" "Step.__init__" (defArgs sStepInit) (defBody sStepInit) (defScope sStepInit) .none kViS dciS pmiS aniS cdiS ctiS), sliS⟩)
    (ciS : PySem.W.codeIn K cdiS "Step.__init__" = true)
    (kiS : PySem.W.keepIn K (.ref fiS) = true)
    (aqS : PySem.W.findIn K (.ref gS) "__eq__" = some (some (.ref fqS)))
    (nqS : PySem.W.isFn K (.ref fqS) = true)
    (lqS : K.lookup fqS = some ⟨ocqS, odqS, .func (PySem.W.fnOf "__eq__" "Step.__eq__" (defArgs sStepEq) (defBody sStepEq) (defScope sStepEq) .none kVqS dcqS pmqS anqS cdqS ctqS), slqS⟩)
    (cqS : PySem.W.codeIn K cdqS "Step.__eq__" = true)
    (kqS : PySem.W.keepIn K (.ref fqS) = true)
    (gS_name : PySem.W.findIn K (.ref gS) "name" = some none)
    (gS_ways : PySem.W.findIn K (.ref gS) "ways" = some none)
    (gEa : PySem.W.nsIn K mainGlobals "Expr" = some (some (.ref gE)))
    (gE1 : PySem.W.plainGet K gE Str.empty = true)
    (gE2 : PySem.W.hasDictIn K gE = true)
    (gE3 : PySem.W.plainOver K gE = true)
    (gE4 : PySem.W.findIn K (.ref gE) "__setattr__" = some (some (.builtin "object.__setattr__")))
    (gE5 : PySem.W.findIn K (.ref gE) "__class__" = some (some (.builtin "object.__class__")))
    (gE6 : PySem.W.mroIn K gE (.type "object") = some true)
    (gEk0 : PySem.W.kitOne K (.ref gE) (.type "tuple") = some false)
    (gEk1 : PySem.W.kitOne K (.ref gE) (.type "list") = some false)
    (gEk2 : PySem.W.kitOne K (.ref gE) (.type "bool") = some false)
    (gEk3 : PySem.W.kitOne K (.ref gE) (.type "str") = some false)
    (gE7 : PySem.W.makesIn K gE = true)
    (gE8 : PySem.W.keepIn K (.ref gE) = true)
    (aiE : PySem.W.findIn K (.ref gE) "__init__" = some (some (.ref fiE)))
    (niE : PySem.W.isFn K (.ref fiE) = true)
    (liE : K.lookup fiE = some ⟨ociE, odiE, .func (PySem.W.fnOf "__init__" "Expr.__init__" (defArgs sExprInit) (defBody sExprInit) (defScope sExprInit) .none kViE dciE pmiE aniE cdiE ctiE), sliE⟩)
    (ciE : PySem.W.codeIn K cdiE "Expr.__init__" = true)
    (kiE : PySem.W.keepIn K (.ref fiE) = true)
    (aqE : PySem.W.findIn K (.ref gE) "__eq__" = some (some (.ref fqE)))
    (nqE : PySem.W.isFn K (.ref fqE) = true)
    (lqE : K.lookup fqE = some ⟨ocqE, odqE, .func (PySem.W.fnOf "__eq__" "Expr.__eq__" (defArgs sExprEq) (defBody sExprEq) (defScope sExprEq) .none kVqE dcqE pmqE anqE cdqE ctqE), slqE⟩)
    (cqE : PySem.W.codeIn K cdqE "Expr.__eq__" = true)
    (kqE : PySem.W.keepIn K (.ref fqE) = true)
    (gE_kind : PySem.W.findIn K (.ref gE) "kind" = some none)
    (gE_word : PySem.W.findIn K (.ref gE) "word" = some none)
    (gE_step : PySem.W.findIn K (.ref gE) "step" = some none)
    (gE_parts : PySem.W.findIn K (.ref gE) "parts" = some none)
    (gE_names : PySem.W.findIn K (.ref gE) "names" = some none)
    (gE_steps : PySem.W.findIn K (.ref gE) "steps" = some none)
    (gE_size : PySem.W.findIn K (.ref gE) "size" = some none)
    (gE_applied : PySem.W.findIn K (.ref gE) "applied" = some none)
    (gTa : PySem.W.nsIn K mainGlobals "Trait" = some (some (.ref gT)))
    (gT1 : PySem.W.plainGet K gT Str.empty = true)
    (gT2 : PySem.W.hasDictIn K gT = true)
    (gT3 : PySem.W.plainOver K gT = true)
    (gT4 : PySem.W.findIn K (.ref gT) "__setattr__" = some (some (.builtin "object.__setattr__")))
    (gT5 : PySem.W.findIn K (.ref gT) "__class__" = some (some (.builtin "object.__class__")))
    (gT6 : PySem.W.mroIn K gT (.type "object") = some true)
    (gTk0 : PySem.W.kitOne K (.ref gT) (.type "tuple") = some false)
    (gTk1 : PySem.W.kitOne K (.ref gT) (.type "list") = some false)
    (gTk2 : PySem.W.kitOne K (.ref gT) (.type "bool") = some false)
    (gTk3 : PySem.W.kitOne K (.ref gT) (.type "str") = some false)
    (gT7 : PySem.W.makesIn K gT = true)
    (gT8 : PySem.W.keepIn K (.ref gT) = true)
    (aiT : PySem.W.findIn K (.ref gT) "__init__" = some (some (.ref fiT)))
    (niT : PySem.W.isFn K (.ref fiT) = true)
    (liT : K.lookup fiT = some ⟨ociT, odiT, .func (PySem.W.fnOf "__init__" "Trait.__init__" (defArgs sTraitInit) (defBody sTraitInit) (defScope sTraitInit) .none kViT dciT pmiT aniT cdiT ctiT), sliT⟩)
    (ciT : PySem.W.codeIn K cdiT "Trait.__init__" = true)
    (kiT : PySem.W.keepIn K (.ref fiT) = true)
    (aqT : PySem.W.findIn K (.ref gT) "__eq__" = some (some (.ref fqT)))
    (nqT : PySem.W.isFn K (.ref fqT) = true)
    (lqT : K.lookup fqT = some ⟨ocqT, odqT, .func (PySem.W.fnOf "__eq__" "Trait.__eq__" (defArgs sTraitEq) (defBody sTraitEq) (defScope sTraitEq) .none kVqT dcqT pmqT anqT cdqT ctqT), slqT⟩)
    (cqT : PySem.W.codeIn K cdqT "Trait.__eq__" = true)
    (kqT : PySem.W.keepIn K (.ref fqT) = true)
    (gT_word : PySem.W.findIn K (.ref gT) "word" = some none)
    (gT_steps : PySem.W.findIn K (.ref gT) "steps" = some none)
    (gCa : PySem.W.nsIn K mainGlobals "Chain" = some (some (.ref gC)))
    (gC1 : PySem.W.plainGet K gC Str.empty = true)
    (gC2 : PySem.W.hasDictIn K gC = true)
    (gC3 : PySem.W.plainOver K gC = true)
    (gC4 : PySem.W.findIn K (.ref gC) "__setattr__" = some (some (.builtin "object.__setattr__")))
    (gC5 : PySem.W.findIn K (.ref gC) "__class__" = some (some (.builtin "object.__class__")))
    (gC6 : PySem.W.mroIn K gC (.type "object") = some true)
    (gCk0 : PySem.W.kitOne K (.ref gC) (.type "tuple") = some false)
    (gCk1 : PySem.W.kitOne K (.ref gC) (.type "list") = some false)
    (gCk2 : PySem.W.kitOne K (.ref gC) (.type "bool") = some false)
    (gCk3 : PySem.W.kitOne K (.ref gC) (.type "str") = some false)
    (gC7 : PySem.W.makesIn K gC = true)
    (gC8 : PySem.W.keepIn K (.ref gC) = true)
    (aiC : PySem.W.findIn K (.ref gC) "__init__" = some (some (.ref fiC)))
    (niC : PySem.W.isFn K (.ref fiC) = true)
    (liC : K.lookup fiC = some ⟨ociC, odiC, .func (PySem.W.fnOf "__init__" "Chain.__init__" (defArgs sChainInit) (defBody sChainInit) (defScope sChainInit) .none kViC dciC pmiC aniC cdiC ctiC), sliC⟩)
    (ciC : PySem.W.codeIn K cdiC "Chain.__init__" = true)
    (kiC : PySem.W.keepIn K (.ref fiC) = true)
    (aqC : PySem.W.findIn K (.ref gC) "__eq__" = some (some (.ref fqC)))
    (nqC : PySem.W.isFn K (.ref fqC) = true)
    (lqC : K.lookup fqC = some ⟨ocqC, odqC, .func (PySem.W.fnOf "__eq__" "Chain.__eq__" (defArgs sChainEq) (defBody sChainEq) (defScope sChainEq) .none kVqC dcqC pmqC anqC cdqC ctqC), slqC⟩)
    (cqC : PySem.W.codeIn K cdqC "Chain.__eq__" = true)
    (kqC : PySem.W.keepIn K (.ref fqC) = true)
    (gC_steps : PySem.W.findIn K (.ref gC) "steps" = some none)
    (alS : PySem.W.findIn K (.ref gS) "__len__" = some (some (.ref flS)))
    (nlS : PySem.W.isFn K (.ref flS) = true)
    (llS : K.lookup flS = some ⟨oclS, odlS, .func (PySem.W.fnOf "__len__" "Step.__len__" (defArgs sStepLen) (defBody sStepLen) (defScope sStepLen) .none kVlS dclS pmlS anlS cdlS ctlS), sllS⟩)
    (clS : PySem.W.codeIn K cdlS "Step.__len__" = true)
    (klS : PySem.W.keepIn K (.ref flS) = true)
    (neS : PySem.W.findIn K (.ref gS) "__ne__" = some (some (.builtin "object.__ne__")))
    (neC : PySem.W.findIn K (.ref gC) "__ne__" = some (some (.builtin "object.__ne__")))
    (hne : gS ≠ gE)
    (kes : PySem.W.kitOne K (.type "str") (.ref gE) = some false)
    (ken : PySem.W.kitOne K (.type "NoneType") (.ref gE) = some false)
    (keb : PySem.W.kitOne K (.type "bool") (.ref gE) = some false)
    (kei : PySem.W.kitOne K (.type "int") (.ref gE) = some false)
    (kel : PySem.W.kitOne K (.type "list") (.ref gE) = some false)
    (ket : PySem.W.kitOne K (.type "tuple") (.ref gE) = some false)
    (kss : PySem.W.kitOne K (.type "str") (.ref gS) = some false)
    (ksn : PySem.W.kitOne K (.type "NoneType") (.ref gS) = some false)
    (ksb : PySem.W.kitOne K (.type "bool") (.ref gS) = some false)
    (ksi : PySem.W.kitOne K (.type "int") (.ref gS) = some false)
    (ksl : PySem.W.kitOne K (.type "list") (.ref gS) = some false)
    (kst : PySem.W.kitOne K (.type "tuple") (.ref gS) = some false)
    (ktx : PySem.W.kitOne K (.type "str") (.ref gT) = some false)
    (kcx : PySem.W.kitOne K (.type "str") (.ref gC) = some false)
    (kct : PySem.W.kitOne K (.type "tuple") (.ref gC) = some false)
    (kdS : PySem.W.kitOne K (.ref gS) (.ref gE) = some false)
    (kdT : PySem.W.kitOne K (.ref gT) (.ref gE) = some false)
    (kdC : PySem.W.kitOne K (.ref gC) (.ref gE) = some false)
    (kfE : PySem.W.kitOne K (.ref gE) (.ref gS) = some false)
    (kfT : PySem.W.kitOne K (.ref gT) (.ref gS) = some false)
    (kfC : PySem.W.kitOne K (.ref gC) (.ref gS) = some false)
    (kSC : PySem.W.kitOne K (.ref gS) (.ref gC) = some false)
    (amS : PySem.W.findIn K (.ref gS) "__mul__" = some (some (.ref fmS)))
    (nmS : PySem.W.isFn K (.ref fmS) = true)
    (lmS : K.lookup fmS = some ⟨ocmS, odmS, .func (PySem.W.fnOf "__mul__" "Step.__mul__" (defArgs sStepMul) (defBody sStepMul) (defScope sStepMul) .none kVmS dcmS pmmS anmS cdmS ctmS), slmS⟩)
    (cmS : PySem.W.codeIn K cdmS "Step.__mul__" = true)
    (kmS : PySem.W.keepIn K (.ref fmS) = true)
    (apS : PySem.W.findIn K (.ref gS) "__pow__" = some (some (.ref fpS)))
    (npS : PySem.W.isFn K (.ref fpS) = true)
    (lpS : K.lookup fpS = some ⟨ocpS, odpS, .func (PySem.W.fnOf "__pow__" "Step.__pow__" (defArgs sStepPow) (defBody sStepPow) (defScope sStepPow) .none kVpS dcpS pmpS anpS cdpS ctpS), slpS⟩)
    (cpS : PySem.W.codeIn K cdpS "Step.__pow__" = true)
    (kpS : PySem.W.keepIn K (.ref fpS) = true)
    (amC : PySem.W.findIn K (.ref gC) "__mul__" = some (some (.ref fmC)))
    (nmC : PySem.W.isFn K (.ref fmC) = true)
    (lmC : K.lookup fmC = some ⟨ocmC, odmC, .func (PySem.W.fnOf "__mul__" "Chain.__mul__" (defArgs sChainMul) (defBody sChainMul) (defScope sChainMul) .none kVmC dcmC pmmC anmC cdmC ctmC), slmC⟩)
    (cmC : PySem.W.codeIn K cdmC "Chain.__mul__" = true)
    (kmC : PySem.W.keepIn K (.ref fmC) = true)
    (apC : PySem.W.findIn K (.ref gC) "__pow__" = some (some (.ref fpC)))
    (npC : PySem.W.isFn K (.ref fpC) = true)
    (lpC : K.lookup fpC = some ⟨ocpC, odpC, .func (PySem.W.fnOf "__pow__" "Chain.__pow__" (defArgs sChainPow) (defBody sChainPow) (defScope sChainPow) .none kVpC dcpC pmpC anpC cdpC ctpC), slpC⟩)
    (cpC : PySem.W.codeIn K cdpC "Chain.__pow__" = true)
    (kpC : PySem.W.keepIn K (.ref fpC) = true)
    (alC : PySem.W.findIn K (.ref gC) "__len__" = some (some (.ref flC)))
    (nlC : PySem.W.isFn K (.ref flC) = true)
    (llC : K.lookup flC = some ⟨oclC, odlC, .func (PySem.W.fnOf "__len__" "Chain.__len__" (defArgs sChainLen) (defBody sChainLen) (defScope sChainLen) .none kVlC dclC pmlC anlC cdlC ctlC), sllC⟩)
    (clC : PySem.W.codeIn K cdlC "Chain.__len__" = true)
    (klC : PySem.W.keepIn K (.ref flC) = true)
    (asC : PySem.W.findIn K (.ref gC) "__str__" = some (some (.ref fsC)))
    (nsC : PySem.W.isFn K (.ref fsC) = true)
    (lsC : K.lookup fsC = some ⟨ocsC, odsC, .func (PySem.W.fnOf "__str__" "Chain.__str__" (defArgs sChainStr) (defBody sChainStr) (defScope sChainStr) .none kVsC dcsC pmsC ansC cdsC ctsC), slsC⟩)
    (csC : PySem.W.codeIn K cdsC "Chain.__str__" = true)
    (ksC : PySem.W.keepIn K (.ref fsC) = true)
    (acC : PySem.W.findIn K (.ref gC) "__call__" = some (some (.ref fcC)))
    (ncC : PySem.W.isFn K (.ref fcC) = true)
    (lcC : K.lookup fcC = some ⟨occC, odcC, .func (PySem.W.fnOf "__call__" "Chain.__call__" (defArgs sChainCall) (defBody sChainCall) (defScope sChainCall) .none kVcC dccC pmcC ancC cdcC ctcC), slcC⟩)
    (ccC : PySem.W.codeIn K cdcC "Chain.__call__" = true)
    (kcC : PySem.W.keepIn K (.ref fcC) = true)
    (sfS : PySem.W.selfFirst K gS = true)
    (rmS : PySem.W.findIn K (.ref gS) "__rmul__" = some none)
    (rpS : PySem.W.findIn K (.ref gS) "__rpow__" = some none)
    (sfC : PySem.W.selfFirst K gC = true)
    (rmC : PySem.W.findIn K (.ref gC) "__rmul__" = some none)
    (rpC : PySem.W.findIn K (.ref gC) "__rpow__" = some none)
    (icC : PySem.W.fnIn K fcC = true)
    (nSC : (gS == gC) = false)
    (nCS : (gC == gS) = false)
    (uCS : PySem.W.subIn K (.ref gC) (.ref gS) = some false)
    (uSC : PySem.W.subIn K (.ref gS) (.ref gC) = some false)
    (uiS : PySem.W.subIn K (.type "int") (.ref gS) = some false)
    (uiC : PySem.W.subIn K (.type "int") (.ref gC) = some false)
    (ip1 : PySem.W.findIn K (.type "int") "__pow__" = some ipo)
    (ip2 : PySem.W.findIn K (.type "int") "__rpow__" = some ipr)
    (gx0a : PySem.W.nsIn K mainGlobals "InvalidStep" = some (some (.ref gx0)))
    (gx0_c : K.lookup gx0 = some (excClassObj nmx0 qx0 gx0 Nx0 bsx0 bmx0 true snx0 subx0 abx0 colx0 ddx0 z0x0 z1x0 z2x0 z3x0 z5x0 "ValueError.__new__"))
    (gx0_r : PySem.HandSPX.refsVE bmx0 = true)
    (gx0_1 : PySem.W.findIn K (.ref gx0) "__setattr__" = some (some (.builtin "object.__setattr__")))
    (gx0_2 : PySem.W.subIn K (.ref gx0) (.type "BaseException") = some true)
    (gx0_3 : PySem.W.typeIn K (.ref gx0) = some (.type "type"))
    (gx0_4 : PySem.W.keepIn K (.ref gx0) = true)
    (gx0_5 : PySem.W.findIn K (.ref gx0) "__getattribute__" = some (some (.builtin "BaseException.__getattribute__")))
    (gx0_6 : PySem.W.findIn K (.ref gx0) "__getattr__" = some none)
    (gx0_7 : PySem.W.hasDictIn K gx0 = true)
    (gx0_8 : PySem.W.findIn K (.ref gx0) "__class__" = some (some (.builtin "object.__class__")))
    (gx0_9 : PySem.W.mroIn K gx0 (.type "object") = some true)
    (ax0 : PySem.W.findIn K (.ref gx0) "__init__" = some (some (.ref fx0)))
    (tx0 : PySem.W.typeIn K (.ref fx0) = some (.type "function"))
    (lx0 : K.lookup fx0 = some ⟨ocx0, odx0, .func (PySem.W.fnOf "__init__" "InvalidStep.__init__" (defArgs (eS 0)) (defBody (eS 0)) (defScope (eS 0)) .none kVx0 dcx0 pmx0 anx0 cdx0 ctx0), slx0⟩)
    (cx0 : PySem.W.codeIn K cdx0 "InvalidStep.__init__" = true)
    (kx0 : PySem.W.keepIn K (.ref fx0) = true)
    (nx0 : PySem.W.findIn K (.ref gx0) "word" = some none)
    (gx1a : PySem.W.nsIn K mainGlobals "InvalidTrait" = some (some (.ref gx1)))
    (gx1_c : K.lookup gx1 = some (excClassObj nmx1 qx1 gx1 Nx1 bsx1 bmx1 true snx1 subx1 abx1 colx1 ddx1 z0x1 z1x1 z2x1 z3x1 z5x1 "ValueError.__new__"))
    (gx1_r : PySem.HandSPX.refsVE bmx1 = true)
    (gx1_1 : PySem.W.findIn K (.ref gx1) "__setattr__" = some (some (.builtin "object.__setattr__")))
    (gx1_2 : PySem.W.subIn K (.ref gx1) (.type "BaseException") = some true)
    (gx1_3 : PySem.W.typeIn K (.ref gx1) = some (.type "type"))
    (gx1_4 : PySem.W.keepIn K (.ref gx1) = true)
    (gx1_5 : PySem.W.findIn K (.ref gx1) "__getattribute__" = some (some (.builtin "BaseException.__getattribute__")))
    (gx1_6 : PySem.W.findIn K (.ref gx1) "__getattr__" = some none)
    (gx1_7 : PySem.W.hasDictIn K gx1 = true)
    (gx1_8 : PySem.W.findIn K (.ref gx1) "__class__" = some (some (.builtin "object.__class__")))
    (gx1_9 : PySem.W.mroIn K gx1 (.type "object") = some true)
    (ax1 : PySem.W.findIn K (.ref gx1) "__init__" = some (some (.ref fx1)))
    (tx1 : PySem.W.typeIn K (.ref fx1) = some (.type "function"))
    (lx1 : K.lookup fx1 = some ⟨ocx1, odx1, .func (PySem.W.fnOf "__init__" "InvalidTrait.__init__" (defArgs (eS 1)) (defBody (eS 1)) (defScope (eS 1)) .none kVx1 dcx1 pmx1 anx1 cdx1 ctx1), slx1⟩)
    (cx1 : PySem.W.codeIn K cdx1 "InvalidTrait.__init__" = true)
    (kx1 : PySem.W.keepIn K (.ref fx1) = true)
    (nx1 : PySem.W.findIn K (.ref gx1) "word" = some none)
    (gx2a : PySem.W.nsIn K mainGlobals "InvalidExpr" = some (some (.ref gx2)))
    (gx2_c : K.lookup gx2 = some (excClassObj nmx2 qx2 gx2 Nx2 bsx2 bmx2 true snx2 subx2 abx2 colx2 ddx2 z0x2 z1x2 z2x2 z3x2 z5x2 "ValueError.__new__"))
    (gx2_r : PySem.HandSPX.refsVE bmx2 = true)
    (gx2_1 : PySem.W.findIn K (.ref gx2) "__setattr__" = some (some (.builtin "object.__setattr__")))
    (gx2_2 : PySem.W.subIn K (.ref gx2) (.type "BaseException") = some true)
    (gx2_3 : PySem.W.typeIn K (.ref gx2) = some (.type "type"))
    (gx2_4 : PySem.W.keepIn K (.ref gx2) = true)
    (gx2_5 : PySem.W.findIn K (.ref gx2) "__getattribute__" = some (some (.builtin "BaseException.__getattribute__")))
    (gx2_6 : PySem.W.findIn K (.ref gx2) "__getattr__" = some none)
    (gx2_7 : PySem.W.hasDictIn K gx2 = true)
    (gx2_8 : PySem.W.findIn K (.ref gx2) "__class__" = some (some (.builtin "object.__class__")))
    (gx2_9 : PySem.W.mroIn K gx2 (.type "object") = some true)
    (ax2 : PySem.W.findIn K (.ref gx2) "__init__" = some (some (.ref fx2)))
    (tx2 : PySem.W.typeIn K (.ref fx2) = some (.type "function"))
    (lx2 : K.lookup fx2 = some ⟨ocx2, odx2, .func (PySem.W.fnOf "__init__" "InvalidExpr.__init__" (defArgs (eS 2)) (defBody (eS 2)) (defScope (eS 2)) .none kVx2 dcx2 pmx2 anx2 cdx2 ctx2), slx2⟩)
    (cx2 : PySem.W.codeIn K cdx2 "InvalidExpr.__init__" = true)
    (kx2 : PySem.W.keepIn K (.ref fx2) = true)
    (nx2 : PySem.W.findIn K (.ref gx2) "word" = some none)
    (gx3a : PySem.W.nsIn K mainGlobals "InvalidRow" = some (some (.ref gx3)))
    (gx3_c : K.lookup gx3 = some (excClassObj nmx3 qx3 gx3 Nx3 bsx3 bmx3 true snx3 subx3 abx3 colx3 ddx3 z0x3 z1x3 z2x3 z3x3 z5x3 "ValueError.__new__"))
    (gx3_r : PySem.HandSPX.refsVE bmx3 = true)
    (gx3_1 : PySem.W.findIn K (.ref gx3) "__setattr__" = some (some (.builtin "object.__setattr__")))
    (gx3_2 : PySem.W.subIn K (.ref gx3) (.type "BaseException") = some true)
    (gx3_3 : PySem.W.typeIn K (.ref gx3) = some (.type "type"))
    (gx3_4 : PySem.W.keepIn K (.ref gx3) = true)
    (gx3_5 : PySem.W.findIn K (.ref gx3) "__getattribute__" = some (some (.builtin "BaseException.__getattribute__")))
    (gx3_6 : PySem.W.findIn K (.ref gx3) "__getattr__" = some none)
    (gx3_7 : PySem.W.hasDictIn K gx3 = true)
    (gx3_8 : PySem.W.findIn K (.ref gx3) "__class__" = some (some (.builtin "object.__class__")))
    (gx3_9 : PySem.W.mroIn K gx3 (.type "object") = some true)
    (ax3 : PySem.W.findIn K (.ref gx3) "__init__" = some (some (.ref fx3)))
    (tx3 : PySem.W.typeIn K (.ref fx3) = some (.type "function"))
    (lx3 : K.lookup fx3 = some ⟨ocx3, odx3, .func (PySem.W.fnOf "__init__" "InvalidRow.__init__" (defArgs (eS 3)) (defBody (eS 3)) (defScope (eS 3)) .none kVx3 dcx3 pmx3 anx3 cdx3 ctx3), slx3⟩)
    (cx3 : PySem.W.codeIn K cdx3 "InvalidRow.__init__" = true)
    (kx3 : PySem.W.keepIn K (.ref fx3) = true)
    (nx3 : PySem.W.findIn K (.ref gx3) "word" = some none)
    (gx4a : PySem.W.nsIn K mainGlobals "InvalidText" = some (some (.ref gx4)))
    (gx4_c : K.lookup gx4 = some (excClassObj nmx4 qx4 gx4 Nx4 bsx4 bmx4 true snx4 subx4 abx4 colx4 ddx4 z0x4 z1x4 z2x4 z3x4 z5x4 "ValueError.__new__"))
    (gx4_r : PySem.HandSPX.refsVE bmx4 = true)
    (gx4_1 : PySem.W.findIn K (.ref gx4) "__setattr__" = some (some (.builtin "object.__setattr__")))
    (gx4_2 : PySem.W.subIn K (.ref gx4) (.type "BaseException") = some true)
    (gx4_3 : PySem.W.typeIn K (.ref gx4) = some (.type "type"))
    (gx4_4 : PySem.W.keepIn K (.ref gx4) = true)
    (gx4_5 : PySem.W.findIn K (.ref gx4) "__getattribute__" = some (some (.builtin "BaseException.__getattribute__")))
    (gx4_6 : PySem.W.findIn K (.ref gx4) "__getattr__" = some none)
    (gx4_7 : PySem.W.hasDictIn K gx4 = true)
    (gx4_8 : PySem.W.findIn K (.ref gx4) "__class__" = some (some (.builtin "object.__class__")))
    (gx4_9 : PySem.W.mroIn K gx4 (.type "object") = some true)
    (ax4 : PySem.W.findIn K (.ref gx4) "__init__" = some (some (.ref fx4)))
    (tx4 : PySem.W.typeIn K (.ref fx4) = some (.type "function"))
    (lx4 : K.lookup fx4 = some ⟨ocx4, odx4, .func (PySem.W.fnOf "__init__" "InvalidText.__init__" (defArgs (eS 4)) (defBody (eS 4)) (defScope (eS 4)) .none kVx4 dcx4 pmx4 anx4 cdx4 ctx4), slx4⟩)
    (cx4 : PySem.W.codeIn K cdx4 "InvalidText.__init__" = true)
    (kx4 : PySem.W.keepIn K (.ref fx4) = true)
    (nx4 : PySem.W.findIn K (.ref gx4) "at" = some none)
    (gx5a : PySem.W.nsIn K mainGlobals "InvalidWorld" = some (some (.ref gx5)))
    (gx5_c : K.lookup gx5 = some (excClassObj nmx5 qx5 gx5 Nx5 bsx5 bmx5 true snx5 subx5 abx5 colx5 ddx5 z0x5 z1x5 z2x5 z3x5 z5x5 "ValueError.__new__"))
    (gx5_r : PySem.HandSPX.refsVE bmx5 = true)
    (gx5_1 : PySem.W.findIn K (.ref gx5) "__setattr__" = some (some (.builtin "object.__setattr__")))
    (gx5_2 : PySem.W.subIn K (.ref gx5) (.type "BaseException") = some true)
    (gx5_3 : PySem.W.typeIn K (.ref gx5) = some (.type "type"))
    (gx5_4 : PySem.W.keepIn K (.ref gx5) = true)
    (gx5_5 : PySem.W.findIn K (.ref gx5) "__getattribute__" = some (some (.builtin "BaseException.__getattribute__")))
    (gx5_6 : PySem.W.findIn K (.ref gx5) "__getattr__" = some none)
    (gx5_7 : PySem.W.hasDictIn K gx5 = true)
    (gx5_8 : PySem.W.findIn K (.ref gx5) "__class__" = some (some (.builtin "object.__class__")))
    (gx5_9 : PySem.W.mroIn K gx5 (.type "object") = some true)
    (ax5 : PySem.W.findIn K (.ref gx5) "__init__" = some (some (.ref fx5)))
    (tx5 : PySem.W.typeIn K (.ref fx5) = some (.type "function"))
    (lx5 : K.lookup fx5 = some ⟨ocx5, odx5, .func (PySem.W.fnOf "__init__" "InvalidWorld.__init__" (defArgs (eS 5)) (defBody (eS 5)) (defScope (eS 5)) .none kVx5 dcx5 pmx5 anx5 cdx5 ctx5), slx5⟩)
    (cx5 : PySem.W.codeIn K cdx5 "InvalidWorld.__init__" = true)
    (kx5 : PySem.W.keepIn K (.ref fx5) = true)
    (nx5 : PySem.W.findIn K (.ref gx5) "word" = some none)
    (gx6a : PySem.W.nsIn K mainGlobals "InvalidStart" = some (some (.ref gx6)))
    (gx6_c : K.lookup gx6 = some (excClassObj nmx6 qx6 gx6 Nx6 bsx6 bmx6 true snx6 subx6 abx6 colx6 ddx6 z0x6 z1x6 z2x6 z3x6 z5x6 "ValueError.__new__"))
    (gx6_r : PySem.HandSPX.refsVE bmx6 = true)
    (gx6_1 : PySem.W.findIn K (.ref gx6) "__setattr__" = some (some (.builtin "object.__setattr__")))
    (gx6_2 : PySem.W.subIn K (.ref gx6) (.type "BaseException") = some true)
    (gx6_3 : PySem.W.typeIn K (.ref gx6) = some (.type "type"))
    (gx6_4 : PySem.W.keepIn K (.ref gx6) = true)
    (gx6_5 : PySem.W.findIn K (.ref gx6) "__getattribute__" = some (some (.builtin "BaseException.__getattribute__")))
    (gx6_6 : PySem.W.findIn K (.ref gx6) "__getattr__" = some none)
    (gx6_7 : PySem.W.hasDictIn K gx6 = true)
    (gx6_8 : PySem.W.findIn K (.ref gx6) "__class__" = some (some (.builtin "object.__class__")))
    (gx6_9 : PySem.W.mroIn K gx6 (.type "object") = some true)
    (ax6 : PySem.W.findIn K (.ref gx6) "__init__" = some (some (.ref fx6)))
    (tx6 : PySem.W.typeIn K (.ref fx6) = some (.type "function"))
    (lx6 : K.lookup fx6 = some ⟨ocx6, odx6, .func (PySem.W.fnOf "__init__" "InvalidStart.__init__" (defArgs (eS 6)) (defBody (eS 6)) (defScope (eS 6)) .none kVx6 dcx6 pmx6 anx6 cdx6 ctx6), slx6⟩)
    (cx6 : PySem.W.codeIn K cdx6 "InvalidStart.__init__" = true)
    (kx6 : PySem.W.keepIn K (.ref fx6) = true)
    (nx6 : PySem.W.findIn K (.ref gx6) "name" = some none)
    (gx7a : PySem.W.nsIn K mainGlobals "InvalidClaim" = some (some (.ref gx7)))
    (gx7_c : K.lookup gx7 = some (excClassObj nmx7 qx7 gx7 Nx7 bsx7 bmx7 true snx7 subx7 abx7 colx7 ddx7 z0x7 z1x7 z2x7 z3x7 z5x7 "ValueError.__new__"))
    (gx7_r : PySem.HandSPX.refsVE bmx7 = true)
    (gx7_1 : PySem.W.findIn K (.ref gx7) "__setattr__" = some (some (.builtin "object.__setattr__")))
    (gx7_2 : PySem.W.subIn K (.ref gx7) (.type "BaseException") = some true)
    (gx7_3 : PySem.W.typeIn K (.ref gx7) = some (.type "type"))
    (gx7_4 : PySem.W.keepIn K (.ref gx7) = true)
    (gx7_5 : PySem.W.findIn K (.ref gx7) "__getattribute__" = some (some (.builtin "BaseException.__getattribute__")))
    (gx7_6 : PySem.W.findIn K (.ref gx7) "__getattr__" = some none)
    (gx7_7 : PySem.W.hasDictIn K gx7 = true)
    (gx7_8 : PySem.W.findIn K (.ref gx7) "__class__" = some (some (.builtin "object.__class__")))
    (gx7_9 : PySem.W.mroIn K gx7 (.type "object") = some true)
    (ax7 : PySem.W.findIn K (.ref gx7) "__init__" = some (some (.ref fx7)))
    (tx7 : PySem.W.typeIn K (.ref fx7) = some (.type "function"))
    (lx7 : K.lookup fx7 = some ⟨ocx7, odx7, .func (PySem.W.fnOf "__init__" "InvalidClaim.__init__" (defArgs (eS 7)) (defBody (eS 7)) (defScope (eS 7)) .none kVx7 dcx7 pmx7 anx7 cdx7 ctx7), slx7⟩)
    (cx7 : PySem.W.codeIn K cdx7 "InvalidClaim.__init__" = true)
    (kx7 : PySem.W.keepIn K (.ref fx7) = true)
    (nx7 : PySem.W.findIn K (.ref gx7) "word" = some none)
    (gx8a : PySem.W.nsIn K mainGlobals "NoName" = some (some (.ref gx8)))
    (gx8_c : K.lookup gx8 = some (excClassObj nmx8 qx8 gx8 Nx8 bsx8 bmx8 true snx8 subx8 abx8 colx8 ddx8 z0x8 z1x8 z2x8 z3x8 z5x8 "ValueError.__new__"))
    (gx8_r : PySem.HandSPX.refsVE bmx8 = true)
    (gx8_1 : PySem.W.findIn K (.ref gx8) "__setattr__" = some (some (.builtin "object.__setattr__")))
    (gx8_2 : PySem.W.subIn K (.ref gx8) (.type "BaseException") = some true)
    (gx8_3 : PySem.W.typeIn K (.ref gx8) = some (.type "type"))
    (gx8_4 : PySem.W.keepIn K (.ref gx8) = true)
    (gx8_5 : PySem.W.findIn K (.ref gx8) "__getattribute__" = some (some (.builtin "BaseException.__getattribute__")))
    (gx8_6 : PySem.W.findIn K (.ref gx8) "__getattr__" = some none)
    (gx8_7 : PySem.W.hasDictIn K gx8 = true)
    (gx8_8 : PySem.W.findIn K (.ref gx8) "__class__" = some (some (.builtin "object.__class__")))
    (gx8_9 : PySem.W.mroIn K gx8 (.type "object") = some true)
    (ax8 : PySem.W.findIn K (.ref gx8) "__init__" = some (some (.ref fx8)))
    (tx8 : PySem.W.typeIn K (.ref fx8) = some (.type "function"))
    (lx8 : K.lookup fx8 = some ⟨ocx8, odx8, .func (PySem.W.fnOf "__init__" "NoName.__init__" (defArgs (eS 8)) (defBody (eS 8)) (defScope (eS 8)) .none kVx8 dcx8 pmx8 anx8 cdx8 ctx8), slx8⟩)
    (cx8 : PySem.W.codeIn K cdx8 "NoName.__init__" = true)
    (kx8 : PySem.W.keepIn K (.ref fx8) = true)
    (nx8 : PySem.W.findIn K (.ref gx8) "name" = some none)
    (gx9a : PySem.W.nsIn K mainGlobals "NoStep" = some (some (.ref gx9)))
    (gx9_c : K.lookup gx9 = some (excClassObj nmx9 qx9 gx9 Nx9 bsx9 bmx9 true snx9 subx9 abx9 colx9 ddx9 z0x9 z1x9 z2x9 z3x9 z5x9 "ValueError.__new__"))
    (gx9_r : PySem.HandSPX.refsVE bmx9 = true)
    (gx9_1 : PySem.W.findIn K (.ref gx9) "__setattr__" = some (some (.builtin "object.__setattr__")))
    (gx9_2 : PySem.W.subIn K (.ref gx9) (.type "BaseException") = some true)
    (gx9_3 : PySem.W.typeIn K (.ref gx9) = some (.type "type"))
    (gx9_4 : PySem.W.keepIn K (.ref gx9) = true)
    (gx9_5 : PySem.W.findIn K (.ref gx9) "__getattribute__" = some (some (.builtin "BaseException.__getattribute__")))
    (gx9_6 : PySem.W.findIn K (.ref gx9) "__getattr__" = some none)
    (gx9_7 : PySem.W.hasDictIn K gx9 = true)
    (gx9_8 : PySem.W.findIn K (.ref gx9) "__class__" = some (some (.builtin "object.__class__")))
    (gx9_9 : PySem.W.mroIn K gx9 (.type "object") = some true)
    (ax9 : PySem.W.findIn K (.ref gx9) "__init__" = some (some (.ref fx9)))
    (tx9 : PySem.W.typeIn K (.ref fx9) = some (.type "function"))
    (lx9 : K.lookup fx9 = some ⟨ocx9, odx9, .func (PySem.W.fnOf "__init__" "NoStep.__init__" (defArgs (eS 9)) (defBody (eS 9)) (defScope (eS 9)) .none kVx9 dcx9 pmx9 anx9 cdx9 ctx9), slx9⟩)
    (cx9 : PySem.W.codeIn K cdx9 "NoStep.__init__" = true)
    (kx9 : PySem.W.keepIn K (.ref fx9) = true)
    (nx9 : PySem.W.findIn K (.ref gx9) "name" = some none)
    (gx10a : PySem.W.nsIn K mainGlobals "NoRow" = some (some (.ref gx10)))
    (gx10_c : K.lookup gx10 = some (excClassObj nmx10 qx10 gx10 Nx10 bsx10 bmx10 true snx10 subx10 abx10 colx10 ddx10 z0x10 z1x10 z2x10 z3x10 z5x10 "ValueError.__new__"))
    (gx10_r : PySem.HandSPX.refsVE bmx10 = true)
    (gx10_1 : PySem.W.findIn K (.ref gx10) "__setattr__" = some (some (.builtin "object.__setattr__")))
    (gx10_2 : PySem.W.subIn K (.ref gx10) (.type "BaseException") = some true)
    (gx10_3 : PySem.W.typeIn K (.ref gx10) = some (.type "type"))
    (gx10_4 : PySem.W.keepIn K (.ref gx10) = true)
    (gx10_5 : PySem.W.findIn K (.ref gx10) "__getattribute__" = some (some (.builtin "BaseException.__getattribute__")))
    (gx10_6 : PySem.W.findIn K (.ref gx10) "__getattr__" = some none)
    (gx10_7 : PySem.W.hasDictIn K gx10 = true)
    (gx10_8 : PySem.W.findIn K (.ref gx10) "__class__" = some (some (.builtin "object.__class__")))
    (gx10_9 : PySem.W.mroIn K gx10 (.type "object") = some true)
    (ax10 : PySem.W.findIn K (.ref gx10) "__init__" = some (some (.ref fx10)))
    (tx10 : PySem.W.typeIn K (.ref fx10) = some (.type "function"))
    (lx10 : K.lookup fx10 = some ⟨ocx10, odx10, .func (PySem.W.fnOf "__init__" "NoRow.__init__" (defArgs (eS 10)) (defBody (eS 10)) (defScope (eS 10)) .none kVx10 dcx10 pmx10 anx10 cdx10 ctx10), slx10⟩)
    (cx10 : PySem.W.codeIn K cdx10 "NoRow.__init__" = true)
    (kx10 : PySem.W.keepIn K (.ref fx10) = true)
    (nx10 : PySem.W.findIn K (.ref gx10) "at" = some none)
    (gx11a : PySem.W.nsIn K mainGlobals "Impossible" = some (some (.ref gx11)))
    (gx11_c : K.lookup gx11 = some (excClassObj nmx11 qx11 gx11 Nx11 bsx11 bmx11 true snx11 subx11 abx11 colx11 ddx11 z0x11 z1x11 z2x11 z3x11 z5x11 "ValueError.__new__"))
    (gx11_r : PySem.HandSPX.refsVE bmx11 = true)
    (gx11_1 : PySem.W.findIn K (.ref gx11) "__setattr__" = some (some (.builtin "object.__setattr__")))
    (gx11_2 : PySem.W.subIn K (.ref gx11) (.type "BaseException") = some true)
    (gx11_3 : PySem.W.typeIn K (.ref gx11) = some (.type "type"))
    (gx11_4 : PySem.W.keepIn K (.ref gx11) = true)
    (gx11_5 : PySem.W.findIn K (.ref gx11) "__getattribute__" = some (some (.builtin "BaseException.__getattribute__")))
    (gx11_6 : PySem.W.findIn K (.ref gx11) "__getattr__" = some none)
    (gx11_7 : PySem.W.hasDictIn K gx11 = true)
    (gx11_8 : PySem.W.findIn K (.ref gx11) "__class__" = some (some (.builtin "object.__class__")))
    (gx11_9 : PySem.W.mroIn K gx11 (.type "object") = some true)
    (ax11 : PySem.W.findIn K (.ref gx11) "__init__" = some (some (.builtin "ValueError.__init__")))
    (gx12a : PySem.W.nsIn K mainGlobals "WaysError" = some (some (.ref gx12)))
    (gx12_c : K.lookup gx12 = some (excClassObj nmx12 qx12 gx12 Nx12 bsx12 bmx12 true snx12 subx12 abx12 colx12 ddx12 z0x12 z1x12 z2x12 z3x12 z5x12 "ValueError.__new__"))
    (gx12_r : PySem.HandSPX.refsVE bmx12 = true)
    (gx12_1 : PySem.W.findIn K (.ref gx12) "__setattr__" = some (some (.builtin "object.__setattr__")))
    (gx12_2 : PySem.W.subIn K (.ref gx12) (.type "BaseException") = some true)
    (gx12_3 : PySem.W.typeIn K (.ref gx12) = some (.type "type"))
    (gx12_4 : PySem.W.keepIn K (.ref gx12) = true)
    (gx12_5 : PySem.W.findIn K (.ref gx12) "__getattribute__" = some (some (.builtin "BaseException.__getattribute__")))
    (gx12_6 : PySem.W.findIn K (.ref gx12) "__getattr__" = some none)
    (gx12_7 : PySem.W.hasDictIn K gx12 = true)
    (gx12_8 : PySem.W.findIn K (.ref gx12) "__class__" = some (some (.builtin "object.__class__")))
    (gx12_9 : PySem.W.mroIn K gx12 (.type "object") = some true)
    (ax12 : PySem.W.findIn K (.ref gx12) "__init__" = some (some (.builtin "ValueError.__init__")))
    (y0_0 : PySem.W.kitOne K (.ref gx0) (.ref gx0) = some true)
    (y0_1 : PySem.W.kitOne K (.ref gx0) (.ref gx1) = some false)
    (y0_2 : PySem.W.kitOne K (.ref gx0) (.ref gx2) = some false)
    (y0_3 : PySem.W.kitOne K (.ref gx0) (.ref gx3) = some false)
    (y0_4 : PySem.W.kitOne K (.ref gx0) (.ref gx4) = some false)
    (y0_5 : PySem.W.kitOne K (.ref gx0) (.ref gx5) = some false)
    (y0_6 : PySem.W.kitOne K (.ref gx0) (.ref gx6) = some false)
    (y0_7 : PySem.W.kitOne K (.ref gx0) (.ref gx7) = some false)
    (y0_8 : PySem.W.kitOne K (.ref gx0) (.ref gx8) = some false)
    (y0_9 : PySem.W.kitOne K (.ref gx0) (.ref gx9) = some false)
    (y0_10 : PySem.W.kitOne K (.ref gx0) (.ref gx10) = some false)
    (y0_11 : PySem.W.kitOne K (.ref gx0) (.ref gx11) = some false)
    (yb0 : PySem.W.kitOne K (.ref gx12) (.ref gx0) = some false)
    (yv0 : PySem.W.kitOne K (.ref gx0) (.type "ValueError") = some true)
    (yw0 : PySem.W.kitOne K (.ref gx0) (.ref gx12) = some true)
    (y1_0 : PySem.W.kitOne K (.ref gx1) (.ref gx0) = some false)
    (y1_1 : PySem.W.kitOne K (.ref gx1) (.ref gx1) = some true)
    (y1_2 : PySem.W.kitOne K (.ref gx1) (.ref gx2) = some false)
    (y1_3 : PySem.W.kitOne K (.ref gx1) (.ref gx3) = some false)
    (y1_4 : PySem.W.kitOne K (.ref gx1) (.ref gx4) = some false)
    (y1_5 : PySem.W.kitOne K (.ref gx1) (.ref gx5) = some false)
    (y1_6 : PySem.W.kitOne K (.ref gx1) (.ref gx6) = some false)
    (y1_7 : PySem.W.kitOne K (.ref gx1) (.ref gx7) = some false)
    (y1_8 : PySem.W.kitOne K (.ref gx1) (.ref gx8) = some false)
    (y1_9 : PySem.W.kitOne K (.ref gx1) (.ref gx9) = some false)
    (y1_10 : PySem.W.kitOne K (.ref gx1) (.ref gx10) = some false)
    (y1_11 : PySem.W.kitOne K (.ref gx1) (.ref gx11) = some false)
    (yb1 : PySem.W.kitOne K (.ref gx12) (.ref gx1) = some false)
    (yv1 : PySem.W.kitOne K (.ref gx1) (.type "ValueError") = some true)
    (yw1 : PySem.W.kitOne K (.ref gx1) (.ref gx12) = some true)
    (y2_0 : PySem.W.kitOne K (.ref gx2) (.ref gx0) = some false)
    (y2_1 : PySem.W.kitOne K (.ref gx2) (.ref gx1) = some false)
    (y2_2 : PySem.W.kitOne K (.ref gx2) (.ref gx2) = some true)
    (y2_3 : PySem.W.kitOne K (.ref gx2) (.ref gx3) = some false)
    (y2_4 : PySem.W.kitOne K (.ref gx2) (.ref gx4) = some false)
    (y2_5 : PySem.W.kitOne K (.ref gx2) (.ref gx5) = some false)
    (y2_6 : PySem.W.kitOne K (.ref gx2) (.ref gx6) = some false)
    (y2_7 : PySem.W.kitOne K (.ref gx2) (.ref gx7) = some false)
    (y2_8 : PySem.W.kitOne K (.ref gx2) (.ref gx8) = some false)
    (y2_9 : PySem.W.kitOne K (.ref gx2) (.ref gx9) = some false)
    (y2_10 : PySem.W.kitOne K (.ref gx2) (.ref gx10) = some false)
    (y2_11 : PySem.W.kitOne K (.ref gx2) (.ref gx11) = some false)
    (yb2 : PySem.W.kitOne K (.ref gx12) (.ref gx2) = some false)
    (yv2 : PySem.W.kitOne K (.ref gx2) (.type "ValueError") = some true)
    (yw2 : PySem.W.kitOne K (.ref gx2) (.ref gx12) = some true)
    (y3_0 : PySem.W.kitOne K (.ref gx3) (.ref gx0) = some false)
    (y3_1 : PySem.W.kitOne K (.ref gx3) (.ref gx1) = some false)
    (y3_2 : PySem.W.kitOne K (.ref gx3) (.ref gx2) = some false)
    (y3_3 : PySem.W.kitOne K (.ref gx3) (.ref gx3) = some true)
    (y3_4 : PySem.W.kitOne K (.ref gx3) (.ref gx4) = some false)
    (y3_5 : PySem.W.kitOne K (.ref gx3) (.ref gx5) = some false)
    (y3_6 : PySem.W.kitOne K (.ref gx3) (.ref gx6) = some false)
    (y3_7 : PySem.W.kitOne K (.ref gx3) (.ref gx7) = some false)
    (y3_8 : PySem.W.kitOne K (.ref gx3) (.ref gx8) = some false)
    (y3_9 : PySem.W.kitOne K (.ref gx3) (.ref gx9) = some false)
    (y3_10 : PySem.W.kitOne K (.ref gx3) (.ref gx10) = some false)
    (y3_11 : PySem.W.kitOne K (.ref gx3) (.ref gx11) = some false)
    (yb3 : PySem.W.kitOne K (.ref gx12) (.ref gx3) = some false)
    (yv3 : PySem.W.kitOne K (.ref gx3) (.type "ValueError") = some true)
    (yw3 : PySem.W.kitOne K (.ref gx3) (.ref gx12) = some true)
    (y4_0 : PySem.W.kitOne K (.ref gx4) (.ref gx0) = some false)
    (y4_1 : PySem.W.kitOne K (.ref gx4) (.ref gx1) = some false)
    (y4_2 : PySem.W.kitOne K (.ref gx4) (.ref gx2) = some false)
    (y4_3 : PySem.W.kitOne K (.ref gx4) (.ref gx3) = some false)
    (y4_4 : PySem.W.kitOne K (.ref gx4) (.ref gx4) = some true)
    (y4_5 : PySem.W.kitOne K (.ref gx4) (.ref gx5) = some false)
    (y4_6 : PySem.W.kitOne K (.ref gx4) (.ref gx6) = some false)
    (y4_7 : PySem.W.kitOne K (.ref gx4) (.ref gx7) = some false)
    (y4_8 : PySem.W.kitOne K (.ref gx4) (.ref gx8) = some false)
    (y4_9 : PySem.W.kitOne K (.ref gx4) (.ref gx9) = some false)
    (y4_10 : PySem.W.kitOne K (.ref gx4) (.ref gx10) = some false)
    (y4_11 : PySem.W.kitOne K (.ref gx4) (.ref gx11) = some false)
    (yb4 : PySem.W.kitOne K (.ref gx12) (.ref gx4) = some false)
    (yv4 : PySem.W.kitOne K (.ref gx4) (.type "ValueError") = some true)
    (yw4 : PySem.W.kitOne K (.ref gx4) (.ref gx12) = some true)
    (y5_0 : PySem.W.kitOne K (.ref gx5) (.ref gx0) = some false)
    (y5_1 : PySem.W.kitOne K (.ref gx5) (.ref gx1) = some false)
    (y5_2 : PySem.W.kitOne K (.ref gx5) (.ref gx2) = some false)
    (y5_3 : PySem.W.kitOne K (.ref gx5) (.ref gx3) = some false)
    (y5_4 : PySem.W.kitOne K (.ref gx5) (.ref gx4) = some false)
    (y5_5 : PySem.W.kitOne K (.ref gx5) (.ref gx5) = some true)
    (y5_6 : PySem.W.kitOne K (.ref gx5) (.ref gx6) = some false)
    (y5_7 : PySem.W.kitOne K (.ref gx5) (.ref gx7) = some false)
    (y5_8 : PySem.W.kitOne K (.ref gx5) (.ref gx8) = some false)
    (y5_9 : PySem.W.kitOne K (.ref gx5) (.ref gx9) = some false)
    (y5_10 : PySem.W.kitOne K (.ref gx5) (.ref gx10) = some false)
    (y5_11 : PySem.W.kitOne K (.ref gx5) (.ref gx11) = some false)
    (yb5 : PySem.W.kitOne K (.ref gx12) (.ref gx5) = some false)
    (yv5 : PySem.W.kitOne K (.ref gx5) (.type "ValueError") = some true)
    (yw5 : PySem.W.kitOne K (.ref gx5) (.ref gx12) = some true)
    (y6_0 : PySem.W.kitOne K (.ref gx6) (.ref gx0) = some false)
    (y6_1 : PySem.W.kitOne K (.ref gx6) (.ref gx1) = some false)
    (y6_2 : PySem.W.kitOne K (.ref gx6) (.ref gx2) = some false)
    (y6_3 : PySem.W.kitOne K (.ref gx6) (.ref gx3) = some false)
    (y6_4 : PySem.W.kitOne K (.ref gx6) (.ref gx4) = some false)
    (y6_5 : PySem.W.kitOne K (.ref gx6) (.ref gx5) = some false)
    (y6_6 : PySem.W.kitOne K (.ref gx6) (.ref gx6) = some true)
    (y6_7 : PySem.W.kitOne K (.ref gx6) (.ref gx7) = some false)
    (y6_8 : PySem.W.kitOne K (.ref gx6) (.ref gx8) = some false)
    (y6_9 : PySem.W.kitOne K (.ref gx6) (.ref gx9) = some false)
    (y6_10 : PySem.W.kitOne K (.ref gx6) (.ref gx10) = some false)
    (y6_11 : PySem.W.kitOne K (.ref gx6) (.ref gx11) = some false)
    (yb6 : PySem.W.kitOne K (.ref gx12) (.ref gx6) = some false)
    (yv6 : PySem.W.kitOne K (.ref gx6) (.type "ValueError") = some true)
    (yw6 : PySem.W.kitOne K (.ref gx6) (.ref gx12) = some true)
    (y7_0 : PySem.W.kitOne K (.ref gx7) (.ref gx0) = some false)
    (y7_1 : PySem.W.kitOne K (.ref gx7) (.ref gx1) = some false)
    (y7_2 : PySem.W.kitOne K (.ref gx7) (.ref gx2) = some false)
    (y7_3 : PySem.W.kitOne K (.ref gx7) (.ref gx3) = some false)
    (y7_4 : PySem.W.kitOne K (.ref gx7) (.ref gx4) = some false)
    (y7_5 : PySem.W.kitOne K (.ref gx7) (.ref gx5) = some false)
    (y7_6 : PySem.W.kitOne K (.ref gx7) (.ref gx6) = some false)
    (y7_7 : PySem.W.kitOne K (.ref gx7) (.ref gx7) = some true)
    (y7_8 : PySem.W.kitOne K (.ref gx7) (.ref gx8) = some false)
    (y7_9 : PySem.W.kitOne K (.ref gx7) (.ref gx9) = some false)
    (y7_10 : PySem.W.kitOne K (.ref gx7) (.ref gx10) = some false)
    (y7_11 : PySem.W.kitOne K (.ref gx7) (.ref gx11) = some false)
    (yb7 : PySem.W.kitOne K (.ref gx12) (.ref gx7) = some false)
    (yv7 : PySem.W.kitOne K (.ref gx7) (.type "ValueError") = some true)
    (yw7 : PySem.W.kitOne K (.ref gx7) (.ref gx12) = some true)
    (y8_0 : PySem.W.kitOne K (.ref gx8) (.ref gx0) = some false)
    (y8_1 : PySem.W.kitOne K (.ref gx8) (.ref gx1) = some false)
    (y8_2 : PySem.W.kitOne K (.ref gx8) (.ref gx2) = some false)
    (y8_3 : PySem.W.kitOne K (.ref gx8) (.ref gx3) = some false)
    (y8_4 : PySem.W.kitOne K (.ref gx8) (.ref gx4) = some false)
    (y8_5 : PySem.W.kitOne K (.ref gx8) (.ref gx5) = some false)
    (y8_6 : PySem.W.kitOne K (.ref gx8) (.ref gx6) = some false)
    (y8_7 : PySem.W.kitOne K (.ref gx8) (.ref gx7) = some false)
    (y8_8 : PySem.W.kitOne K (.ref gx8) (.ref gx8) = some true)
    (y8_9 : PySem.W.kitOne K (.ref gx8) (.ref gx9) = some false)
    (y8_10 : PySem.W.kitOne K (.ref gx8) (.ref gx10) = some false)
    (y8_11 : PySem.W.kitOne K (.ref gx8) (.ref gx11) = some false)
    (yb8 : PySem.W.kitOne K (.ref gx12) (.ref gx8) = some false)
    (yv8 : PySem.W.kitOne K (.ref gx8) (.type "ValueError") = some true)
    (yw8 : PySem.W.kitOne K (.ref gx8) (.ref gx12) = some true)
    (y9_0 : PySem.W.kitOne K (.ref gx9) (.ref gx0) = some false)
    (y9_1 : PySem.W.kitOne K (.ref gx9) (.ref gx1) = some false)
    (y9_2 : PySem.W.kitOne K (.ref gx9) (.ref gx2) = some false)
    (y9_3 : PySem.W.kitOne K (.ref gx9) (.ref gx3) = some false)
    (y9_4 : PySem.W.kitOne K (.ref gx9) (.ref gx4) = some false)
    (y9_5 : PySem.W.kitOne K (.ref gx9) (.ref gx5) = some false)
    (y9_6 : PySem.W.kitOne K (.ref gx9) (.ref gx6) = some false)
    (y9_7 : PySem.W.kitOne K (.ref gx9) (.ref gx7) = some false)
    (y9_8 : PySem.W.kitOne K (.ref gx9) (.ref gx8) = some false)
    (y9_9 : PySem.W.kitOne K (.ref gx9) (.ref gx9) = some true)
    (y9_10 : PySem.W.kitOne K (.ref gx9) (.ref gx10) = some false)
    (y9_11 : PySem.W.kitOne K (.ref gx9) (.ref gx11) = some false)
    (yb9 : PySem.W.kitOne K (.ref gx12) (.ref gx9) = some false)
    (yv9 : PySem.W.kitOne K (.ref gx9) (.type "ValueError") = some true)
    (yw9 : PySem.W.kitOne K (.ref gx9) (.ref gx12) = some true)
    (y10_0 : PySem.W.kitOne K (.ref gx10) (.ref gx0) = some false)
    (y10_1 : PySem.W.kitOne K (.ref gx10) (.ref gx1) = some false)
    (y10_2 : PySem.W.kitOne K (.ref gx10) (.ref gx2) = some false)
    (y10_3 : PySem.W.kitOne K (.ref gx10) (.ref gx3) = some false)
    (y10_4 : PySem.W.kitOne K (.ref gx10) (.ref gx4) = some false)
    (y10_5 : PySem.W.kitOne K (.ref gx10) (.ref gx5) = some false)
    (y10_6 : PySem.W.kitOne K (.ref gx10) (.ref gx6) = some false)
    (y10_7 : PySem.W.kitOne K (.ref gx10) (.ref gx7) = some false)
    (y10_8 : PySem.W.kitOne K (.ref gx10) (.ref gx8) = some false)
    (y10_9 : PySem.W.kitOne K (.ref gx10) (.ref gx9) = some false)
    (y10_10 : PySem.W.kitOne K (.ref gx10) (.ref gx10) = some true)
    (y10_11 : PySem.W.kitOne K (.ref gx10) (.ref gx11) = some false)
    (yb10 : PySem.W.kitOne K (.ref gx12) (.ref gx10) = some false)
    (yv10 : PySem.W.kitOne K (.ref gx10) (.type "ValueError") = some true)
    (yw10 : PySem.W.kitOne K (.ref gx10) (.ref gx12) = some true)
    (y11_0 : PySem.W.kitOne K (.ref gx11) (.ref gx0) = some false)
    (y11_1 : PySem.W.kitOne K (.ref gx11) (.ref gx1) = some false)
    (y11_2 : PySem.W.kitOne K (.ref gx11) (.ref gx2) = some false)
    (y11_3 : PySem.W.kitOne K (.ref gx11) (.ref gx3) = some false)
    (y11_4 : PySem.W.kitOne K (.ref gx11) (.ref gx4) = some false)
    (y11_5 : PySem.W.kitOne K (.ref gx11) (.ref gx5) = some false)
    (y11_6 : PySem.W.kitOne K (.ref gx11) (.ref gx6) = some false)
    (y11_7 : PySem.W.kitOne K (.ref gx11) (.ref gx7) = some false)
    (y11_8 : PySem.W.kitOne K (.ref gx11) (.ref gx8) = some false)
    (y11_9 : PySem.W.kitOne K (.ref gx11) (.ref gx9) = some false)
    (y11_10 : PySem.W.kitOne K (.ref gx11) (.ref gx10) = some false)
    (y11_11 : PySem.W.kitOne K (.ref gx11) (.ref gx11) = some true)
    (yb11 : PySem.W.kitOne K (.ref gx12) (.ref gx11) = some false)
    (yv11 : PySem.W.kitOne K (.ref gx11) (.type "ValueError") = some true)
    (yw11 : PySem.W.kitOne K (.ref gx11) (.ref gx12) = some true)
    (yvb : PySem.W.kitOne K (.ref gx12) (.type "ValueError") = some true)
    (xm0 : PySem.W.exmOne K (.ref gx0) (.ref gx12) = some true)
    (xm2 : PySem.W.exmOne K (.ref gx2) (.ref gx12) = some true)
    (xm3 : PySem.W.exmOne K (.ref gx0) (.ref gx0) = some true)
    : ∃ fd : FuncData, (∀ (s : Shared) (v : Value), BindsTo s fd ⟨[v], []⟩ [("_law_script", v)]) ∧ ∀ base : Heap, K.In base → base.Ns mainGlobals mg → FnOk l.prog w K mg base CX0 29 fa fd ["_law_script"] (spLaw K) := by
  have e := hfa.symm.trans (PySem.W.mg_of X G alaw)
  cases e
  have S : Std mg := ⟨PySem.W.mg_none_of X G b_len, PySem.W.mg_none_of X G b_abs, PySem.W.mg_none_of X G b_int, PySem.W.mg_none_of X G b_range, PySem.W.mg_none_of X G b_isinstance, PySem.W.mg_none_of X G b_tuple, PySem.W.mg_none_of X G b_list, PySem.W.mg_none_of X G b_all, PySem.W.mg_none_of X G b_zip, PySem.W.mg_none_of X G b_bool, PySem.W.mg_none_of X G b_str, PySem.W.mg_none_of X G b_set, PySem.W.mg_none_of X G b_sorted, PySem.W.mg_none_of X G b_sum, PySem.W.mg_none_of X G b_any, PySem.W.mg_none_of X G b_enumerate⟩
  have hV := PySem.W.mg_none_of X G b_ve
  have Flaw_feed := fun_mk (st := sFeed) llaw_feed claw_feed klaw_feed
  have Dlaw_feed : Df K mg "_law_feed" sFeed _ _ ["_law_script", "_law_k"] := ⟨Flaw_feed, Flaw_feed.binds (ps := ["_law_script", "_law_k"]) fun _ _ _ _ _ _ us hl => match us, hl with | [_, _], _ => rfl, PySem.W.mg_of X G alaw_feed⟩
  have Flaw_draw := fun_mk (st := sDraw) llaw_draw claw_draw klaw_draw
  have Dlaw_draw : Df K mg "_law_draw" sDraw _ _ ["_law_feed_here", "_law_many"] := ⟨Flaw_draw, Flaw_draw.binds (ps := ["_law_feed_here", "_law_many"]) fun _ _ _ _ _ _ us hl => match us, hl with | [_, _], _ => rfl, PySem.W.mg_of X G alaw_draw⟩
  have Flaw_pick := fun_mk (st := sPick) llaw_pick claw_pick klaw_pick
  have Dlaw_pick : Df K mg "_law_pick" sPick _ _ ["_law_feed_here", "_law_items"] := ⟨Flaw_pick, Flaw_pick.binds (ps := ["_law_feed_here", "_law_items"]) fun _ _ _ _ _ _ us hl => match us, hl with | [_, _], _ => rfl, PySem.W.mg_of X G alaw_pick⟩
  have Flaw_same := fun_mk (st := sSame) llaw_same claw_same klaw_same
  have Dlaw_same : Df K mg "_law_same" sSame _ _ ["_law_found", "_law_due"] := ⟨Flaw_same, Flaw_same.binds (ps := ["_law_found", "_law_due"]) fun _ _ _ _ _ _ us hl => match us, hl with | [_, _], _ => rfl, PySem.W.mg_of X G alaw_same⟩
  have Flaw_word := fun_mk (st := sWord) llaw_word claw_word klaw_word
  have Dlaw_word : Df K mg "_law_word" sWord _ _ ["_law_feed_here"] := ⟨Flaw_word, Flaw_word.binds (ps := ["_law_feed_here"]) fun _ _ _ _ _ _ us hl => match us, hl with | [_], _ => rfl, PySem.W.mg_of X G alaw_word⟩
  have Flaw_words := fun_mk (st := sWords) llaw_words claw_words klaw_words
  have Dlaw_words : Df K mg "_law_words" sWords _ _ ["_law_feed_here", "_law_many"] := ⟨Flaw_words, Flaw_words.binds (ps := ["_law_feed_here", "_law_many"]) fun _ _ _ _ _ _ us hl => match us, hl with | [_, _], _ => rfl, PySem.W.mg_of X G alaw_words⟩
  have Flaw_is_name := fun_mk (st := sLIsName) llaw_is_name claw_is_name klaw_is_name
  have Dlaw_is_name : Df K mg "_law_is_name" sLIsName _ _ ["_law_word_here"] := ⟨Flaw_is_name, Flaw_is_name.binds (ps := ["_law_word_here"]) fun _ _ _ _ _ _ us hl => match us, hl with | [_], _ => rfl, PySem.W.mg_of X G alaw_is_name⟩
  have Flaw_sign := fun_mk (st := sSign) llaw_sign claw_sign klaw_sign
  have Dlaw_sign : Df K mg "_law_sign" sSign _ _ ["_law_feed_here"] := ⟨Flaw_sign, Flaw_sign.binds (ps := ["_law_feed_here"]) fun _ _ _ _ _ _ us hl => match us, hl with | [_], _ => rfl, PySem.W.mg_of X G alaw_sign⟩
  have Flaw_bent := fun_mk (st := sBent) llaw_bent claw_bent klaw_bent
  have Dlaw_bent : Df K mg "_law_bent" sBent _ _ ["_law_feed_here", "_law_text"] := ⟨Flaw_bent, Flaw_bent.binds (ps := ["_law_feed_here", "_law_text"]) fun _ _ _ _ _ _ us hl => match us, hl with | [_, _], _ => rfl, PySem.W.mg_of X G alaw_bent⟩
  have Flaw_near_name := fun_mk (st := sNear) llaw_near_name claw_near_name klaw_near_name
  have Dlaw_near_name : Df K mg "_law_near_name" sNear _ _ ["_law_feed_here"] := ⟨Flaw_near_name, Flaw_near_name.binds (ps := ["_law_feed_here"]) fun _ _ _ _ _ _ us hl => match us, hl with | [_], _ => rfl, PySem.W.mg_of X G alaw_near_name⟩
  have Flaw_any := fun_mk (st := sAny) llaw_any claw_any klaw_any
  have Dlaw_any : Df K mg "_law_any" sAny _ _ ["_law_feed_here", "_law_deep"] := ⟨Flaw_any, Flaw_any.binds (ps := ["_law_feed_here", "_law_deep"]) fun _ _ _ _ _ _ us hl => match us, hl with | [_, _], _ => rfl, PySem.W.mg_of X G alaw_any⟩
  have Flaw_ways := fun_mk (st := sWays) llaw_ways claw_ways klaw_ways
  have Dlaw_ways : Df K mg "_law_ways" sWays _ _ ["_law_feed_here"] := ⟨Flaw_ways, Flaw_ways.binds (ps := ["_law_feed_here"]) fun _ _ _ _ _ _ us hl => match us, hl with | [_], _ => rfl, PySem.W.mg_of X G alaw_ways⟩
  have Flaw_refused := fun_mk (st := sRefused) llaw_refused claw_refused klaw_refused
  have Dlaw_refused : Df K mg "_law_refused" sRefused _ _ ["_law_e"] := ⟨Flaw_refused, Flaw_refused.binds (ps := ["_law_e"]) fun _ _ _ _ _ _ us hl => match us, hl with | [_], _ => rfl, PySem.W.mg_of X G alaw_refused⟩
  have Flaw_is := fun_mk (st := sIs) llaw_is claw_is klaw_is
  have Dlaw_is : Df K mg "_law_is" sIs _ _ ["_law_expr", "_law_model"] := ⟨Flaw_is, Flaw_is.binds (ps := ["_law_expr", "_law_model"]) fun _ _ _ _ _ _ us hl => match us, hl with | [_, _], _ => rfl, PySem.W.mg_of X G alaw_is⟩
  have Flaw_power := fun_mk (st := sPower) llaw_power claw_power klaw_power
  have Dlaw_power : Df K mg "_law_power" sPower _ _ ["_law_thing", "_law_many"] := ⟨Flaw_power, Flaw_power.binds (ps := ["_law_thing", "_law_many"]) fun _ _ _ _ _ _ us hl => match us, hl with | [_, _], _ => rfl, PySem.W.mg_of X G alaw_power⟩
  have Flaw_chain := fun_mk (st := sLChain) llaw_chain claw_chain klaw_chain
  have Dlaw_chain : Df K mg "_law_chain" sLChain _ _ ["_law_some"] := ⟨Flaw_chain, Flaw_chain.binds (ps := ["_law_some"]) fun _ _ _ _ _ _ us hl => match us, hl with | [_], _ => rfl, PySem.W.mg_of X G alaw_chain⟩
  have Flaw_told := fun_mk (st := sTold) llaw_told claw_told klaw_told
  have Dlaw_told : Df K mg "_law_told" sTold _ _ ["_law_some"] := ⟨Flaw_told, Flaw_told.binds (ps := ["_law_some"]) fun _ _ _ _ _ _ us hl => match us, hl with | [_], _ => rfl, PySem.W.mg_of X G alaw_told⟩
  have Flaw_refuses := fun_mk (st := sRefuses) llaw_refuses claw_refuses klaw_refuses
  have Dlaw_refuses : Df K mg "_law_refuses" sRefuses _ _ ["_law_step", "_law_other"] := ⟨Flaw_refuses, Flaw_refuses.binds (ps := ["_law_step", "_law_other"]) fun _ _ _ _ _ _ us hl => match us, hl with | [_, _], _ => rfl, PySem.W.mg_of X G alaw_refuses⟩
  have Flaw_right := fun_mk (st := sRight) llaw_right claw_right klaw_right
  have Dlaw_right : Df K mg "_law_right" sRight _ _ ["_law_chain_here", "_law_steps_here"] := ⟨Flaw_right, Flaw_right.binds (ps := ["_law_chain_here", "_law_steps_here"]) fun _ _ _ _ _ _ us hl => match us, hl with | [_, _], _ => rfl, PySem.W.mg_of X G alaw_right⟩
  have Flaw_bad_part := fun_mk (st := sBadPart) llaw_bad_part claw_bad_part klaw_bad_part
  have Dlaw_bad_part : Df K mg "_law_bad_part" sBadPart _ _ ["_law_chain_here", "_law_thing"] := ⟨Flaw_bad_part, Flaw_bad_part.binds (ps := ["_law_chain_here", "_law_thing"]) fun _ _ _ _ _ _ us hl => match us, hl with | [_, _], _ => rfl, PySem.W.mg_of X G alaw_bad_part⟩
  have Flaw_put_together := fun_mk (st := sPutTog4) llaw_put_together claw_put_together klaw_put_together
  have Dlaw_put_together : Df K mg "_law_put_together" sPutTog4 _ _ ["_law_feed_here", "_law_steps_here"] := ⟨Flaw_put_together, Flaw_put_together.binds (ps := ["_law_feed_here", "_law_steps_here"]) fun _ _ _ _ _ _ us hl => match us, hl with | [_, _], _ => rfl, PySem.W.mg_of X G alaw_put_together⟩
  have Flaw_steps := fun_mk (st := sLSteps) llaw_steps claw_steps klaw_steps
  have Dlaw_steps : Df K mg "_law_steps" sLSteps _ _ ["_law_feed_here", "_law_steps_here", "_law_most"] := ⟨Flaw_steps, Flaw_steps.binds (ps := ["_law_feed_here", "_law_steps_here", "_law_most"]) fun _ _ _ _ _ _ us hl => match us, hl with | [_, _, _], _ => rfl, PySem.W.mg_of X G alaw_steps⟩
  have Flaw_clashes := fun_mk (st := sClashes) llaw_clashes claw_clashes klaw_clashes
  have Dlaw_clashes : Df K mg "_law_clashes" sClashes _ _ ["_law_one", "_law_others"] := ⟨Flaw_clashes, Flaw_clashes.binds (ps := ["_law_one", "_law_others"]) fun _ _ _ _ _ _ us hl => match us, hl with | [_, _], _ => rfl, PySem.W.mg_of X G alaw_clashes⟩
  have Flaw := fun_mk (st := sLaw) llaw claw klaw
  have Dlaw : Df K mg "law" sLaw _ _ ["_law_script"] := ⟨Flaw, Flaw.binds (ps := ["_law_script"]) fun _ _ _ _ _ _ us hl => match us, hl with | [_], _ => rfl, PySem.W.mg_of X G alaw⟩
  have Fis_name := fun_mk (st := sIsName) lis_name cis_name kis_name
  have Dis_name : Df K mg "is_name" sIsName _ _ ["value"] := ⟨Fis_name, Fis_name.binds (ps := ["value"]) fun _ _ _ _ _ _ us hl => match us, hl with | [_], _ => rfl, PySem.W.mg_of X G ais_name⟩
  have Fis_integer := fun_mk (st := sIsInteger) lis_integer cis_integer kis_integer
  have Dis_integer : Df K mg "is_integer" sIsInteger _ _ ["value"] := ⟨Fis_integer, Fis_integer.binds (ps := ["value"]) fun _ _ _ _ _ _ us hl => match us, hl with | [_], _ => rfl, PySem.W.mg_of X G ais_integer⟩
  have Fnamed := fun_mk (st := sNamed) lnamed cnamed knamed
  have Dnamed : Df K mg "named" sNamed _ _ ["word"] := ⟨Fnamed, Fnamed.binds (ps := ["word"]) fun _ _ _ _ _ _ us hl => match us, hl with | [_], _ => rfl, PySem.W.mg_of X G anamed⟩
  have Fapplied := fun_mk (st := sApplied) lapplied capplied kapplied
  have Dapplied : Df K mg "applied" sApplied _ _ ["step", "parts"] := ⟨Fapplied, Fapplied.binds (ps := ["step", "parts"]) fun _ _ _ _ _ _ us hl => match us, hl with | [_, _], _ => rfl, PySem.W.mg_of X G aapplied⟩
  have Fas_expr := fun_mk (st := sAsExpr) las_expr cas_expr kas_expr
  have Das_expr : Df K mg "as_expr" sAsExpr _ _ ["value"] := ⟨Fas_expr, Fas_expr.binds (ps := ["value"]) fun _ _ _ _ _ _ us hl => match us, hl with | [_], _ => rfl, PySem.W.mg_of X G aas_expr⟩
  have Fpart_expr := fun_mk (st := sPartExpr) lpart_expr cpart_expr kpart_expr
  have Dpart_expr : Df K mg "part_expr" sPartExpr _ _ ["value"] := ⟨Fpart_expr, Fpart_expr.binds (ps := ["value"]) fun _ _ _ _ _ _ us hl => match us, hl with | [_], _ => rfl, PySem.W.mg_of X G apart_expr⟩
  have Fjoined := fun_mk (st := sJoined) ljoined cjoined kjoined
  have Djoined : Df K mg "_joined" sJoined _ _ ["chain", "other"] := ⟨Fjoined, Fjoined.binds (ps := ["chain", "other"]) fun _ _ _ _ _ _ us hl => match us, hl with | [_, _], _ => rfl, PySem.W.mg_of X G ajoined⟩
  have Frepeated := fun_mk (st := sRepeated) lrepeated crepeated krepeated
  have Drepeated : Df K mg "_repeated" sRepeated _ _ ["chain", "count"] := ⟨Frepeated, Frepeated.binds (ps := ["chain", "count"]) fun _ _ _ _ _ _ us hl => match us, hl with | [_, _], _ => rfl, PySem.W.mg_of X G arepeated⟩
  have Fare_ways := fun_mk (st := sAreWays) lare_ways care_ways kare_ways
  have Dare_ways : Df K mg "_are_ways" sAreWays _ _ ["value"] := ⟨Fare_ways, Fare_ways.binds (ps := ["value"]) fun _ _ _ _ _ _ us hl => match us, hl with | [_], _ => rfl, PySem.W.mg_of X G aare_ways⟩
  have Fare_steps := fun_mk (st := sAreSteps) lare_steps care_steps kare_steps
  have Dare_steps : Df K mg "_are_steps" sAreSteps _ _ ["steps", "count"] := ⟨Fare_steps, Fare_steps.binds (ps := ["steps", "count"]) fun _ _ _ _ _ _ us hl => match us, hl with | [_, _], _ => rfl, PySem.W.mg_of X G aare_steps⟩
  have Fways_fit := fun_mk (st := sWaysFit) lways_fit cways_fit kways_fit
  have Dways_fit : Df K mg "_ways_fit" sWaysFit _ _ ["word", "steps"] := ⟨Fways_fit, Fways_fit.binds (ps := ["word", "steps"]) fun _ _ _ _ _ _ us hl => match us, hl with | [_, _], _ => rfl, PySem.W.mg_of X G aways_fit⟩
  have Fall_names : FunD K "all_names" "all_names" (defArgs sAllNames) (defBody sAllNames) (defScope sAllNames) [V.ref tall_names] [] fall_names _ := ⟨⟨ocall_names, odall_names, .ref Tall_names, kVall_names, dcall_names, pmall_names, anall_names, cdall_names, ctall_names, slall_names, rfl, lall_names, call_names, .inr ⟨by simp, Tall_names, _, [.ref tall_names], nTall_names, rfl, eall_names, rfl, .cons rfl .nil⟩, .inl rfl⟩, kall_names⟩
  have Ball_names : Binds K (PySem.W.fnOf "all_names" "all_names" (defArgs sAllNames) (defBody sAllNames) (defScope sAllNames) (.ref Tall_names) kVall_names dcall_names pmall_names anall_names cdall_names ctall_names) ["holders", "more"] [] := by
    obtain ⟨ds, hd, hb⟩ := Fall_names.binds1 (ps := ["holders", "more"]) 2 1 (by simp) rfl fun T kV doc pm an cdv ct us its h1 h2 => match us, its, h1, h2 with | [_, _], [_], _, _ => ⟨_, rfl, rfl⟩
    cases hd
    exact hb
  have Dall_names : Dd K mg "all_names" sAllNames fall_names _ ["holders", "more"] := ⟨⟨tall_names, Fall_names⟩, Ball_names, PySem.W.mg_of X G aall_names, kall_names⟩
  have Fall_steps : FunD K "all_steps" "all_steps" (defArgs sAllSteps) (defBody sAllSteps) (defScope sAllSteps) [V.ref tall_steps] [] fall_steps _ := ⟨⟨ocall_steps, odall_steps, .ref Tall_steps, kVall_steps, dcall_steps, pmall_steps, anall_steps, cdall_steps, ctall_steps, slall_steps, rfl, lall_steps, call_steps, .inr ⟨by simp, Tall_steps, _, [.ref tall_steps], nTall_steps, rfl, eall_steps, rfl, .cons rfl .nil⟩, .inl rfl⟩, kall_steps⟩
  have Ball_steps : Binds K (PySem.W.fnOf "all_steps" "all_steps" (defArgs sAllSteps) (defBody sAllSteps) (defScope sAllSteps) (.ref Tall_steps) kVall_steps dcall_steps pmall_steps anall_steps cdall_steps ctall_steps) ["holders", "more"] [] := by
    obtain ⟨ds, hd, hb⟩ := Fall_steps.binds1 (ps := ["holders", "more"]) 2 1 (by simp) rfl fun T kV doc pm an cdv ct us its h1 h2 => match us, its, h1, h2 with | [_, _], [_], _, _ => ⟨_, rfl, rfl⟩
    cases hd
    exact hb
  have Dall_steps : Dd K mg "all_steps" sAllSteps fall_steps _ ["holders", "more"] := ⟨⟨tall_steps, Fall_steps⟩, Ball_steps, PySem.W.mg_of X G aall_steps, kall_steps⟩
  have W : Words K mg kw := ⟨⟨_, PySem.W.mg_of X G w1⟩, ⟨_, PySem.W.mg_of X G w2⟩, PySem.W.mg_of X G w3, fun H => .inr ⟨_, _, _, w4, rfl, rfl, by show 3 ≤ sizeLine; decide, .cons ⟨_, rfl⟩ (.cons ⟨_, rfl⟩ (.cons ⟨_, rfl⟩ .nil))⟩⟩
  have FT : Fits K w mg dC dF tU := ⟨PySem.W.mg_of X G w7, ⟨_, _, w8, w9, w10⟩, ⟨_, w11⟩, PySem.W.mg_of X G w12, ⟨_, _, w13, w14, w15⟩, w16, fun H => .inr ⟨_, _, _, w17, rfl, rfl, by show 1 ≤ sizeLine; decide, .cons ⟨_, rfl⟩ .nil⟩⟩
  have OS : OwnCl K mg "Step" gS := ⟨⟨gS1, gS2, gS3, gS4⟩, gS5, so, tk, gS6, gSk0, gSk1, gSk2, gSk3, PySem.W.mg_of X G gSa⟩
  have FiS := fun_mk (st := sStepInit) liS ciS kiS
  have biS := FiS.binds (ps := ["self", "name", "ways"]) fun _ _ _ _ _ _ us hl => match us, hl with | [_, _, _], _ => rfl
  have MS : Mk K gS fiS := ⟨gS7, aiS, niS, gS8⟩
  have FqS := fun_mk (st := sStepEq) lqS cqS kqS
  have bqS := FqS.binds (ps := ["self", "other"]) fun _ _ _ _ _ _ us hl => match us, hl with | [_, _], _ => rfl
  have QS : EqM K gS sStepEq "Step.__eq__" fqS _ := ⟨FqS, bqS, aqS, nqS⟩
  have OE : OwnCl K mg "Expr" gE := ⟨⟨gE1, gE2, gE3, gE4⟩, gE5, so, tk, gE6, gEk0, gEk1, gEk2, gEk3, PySem.W.mg_of X G gEa⟩
  have FiE := fun_mk (st := sExprInit) liE ciE kiE
  have biE := FiE.binds (ps := ["self", "kind", "word", "step", "parts"]) fun _ _ _ _ _ _ us hl => match us, hl with | [_, _, _, _, _], _ => rfl
  have ME : Mk K gE fiE := ⟨gE7, aiE, niE, gE8⟩
  have FqE := fun_mk (st := sExprEq) lqE cqE kqE
  have bqE := FqE.binds (ps := ["self", "other"]) fun _ _ _ _ _ _ us hl => match us, hl with | [_, _], _ => rfl
  have QE : EqM K gE sExprEq "Expr.__eq__" fqE _ := ⟨FqE, bqE, aqE, nqE⟩
  have OT : OwnCl K mg "Trait" gT := ⟨⟨gT1, gT2, gT3, gT4⟩, gT5, so, tk, gT6, gTk0, gTk1, gTk2, gTk3, PySem.W.mg_of X G gTa⟩
  have FiT := fun_mk (st := sTraitInit) liT ciT kiT
  have MT : Mk K gT fiT := ⟨gT7, aiT, niT, gT8⟩
  have FqT := fun_mk (st := sTraitEq) lqT cqT kqT
  have bqT := FqT.binds (ps := ["self", "other"]) fun _ _ _ _ _ _ us hl => match us, hl with | [_, _], _ => rfl
  have QT : EqM K gT sTraitEq "Trait.__eq__" fqT _ := ⟨FqT, bqT, aqT, nqT⟩
  have OC : OwnCl K mg "Chain" gC := ⟨⟨gC1, gC2, gC3, gC4⟩, gC5, so, tk, gC6, gCk0, gCk1, gCk2, gCk3, PySem.W.mg_of X G gCa⟩
  have FiC := fun_mk (st := sChainInit) liC ciC kiC
  have MC : Mk K gC fiC := ⟨gC7, aiC, niC, gC8⟩
  have FqC := fun_mk (st := sChainEq) lqC cqC kqC
  have bqC := FqC.binds (ps := ["self", "other"]) fun _ _ _ _ _ _ us hl => match us, hl with | [_, _], _ => rfl
  have QC : EqM K gC sChainEq "Chain.__eq__" fqC _ := ⟨FqC, bqC, aqC, nqC⟩
  have FlS := fun_mk (st := sStepLen) llS clS klS
  have blS := FlS.binds (ps := ["self"]) fun _ _ _ _ _ _ us hl => match us, hl with | [_], _ => rfl
  have LS : LenM K gS flS _ sStepLen "Step.__len__" := ⟨FlS, blS, alS, nlS⟩
  have NX : ExN K gE := ⟨gE_kind, gE_word, gE_step, gE_parts, gE_names, gE_steps, gE_size, gE_applied, gS, hne, OS.cl, gS_name, gS_ways⟩
  have KI : Kin K mg ⟨gS, gE, gT, gC⟩ fqS fqE fqT fqC _ _ _ _ := ⟨OS, OE, OT, OC, QS, QE, QT, QC, gS_name, gS_ways, gE_kind, gE_word, gE_step, gE_parts, gT_word, gT_steps, gC_steps⟩
  have MK : Make K mg w ⟨gS, gE, gT, gC⟩ fiS fiT fiC fiE flS kw dC dF tU _ _ _ _ _ := ⟨MS, MT, MC, ME, FiS, FiT, FiC, FiE, biS, biE, LS, W, ⟨_, PySem.W.mg_of X G w5⟩, ⟨_, PySem.W.mg_of X G w6⟩, FT, NX⟩
  have AF : AnyF K mg flaw_draw flaw_pick flaw_sign flaw_bent flaw_word flaw_near_name flaw_ways fis_name fnamed fall_names fall_steps fare_ways fare_steps fways_fit _ _ _ _ _ _ _ _ _ _ _ _ _ _ := ⟨Dlaw_draw, Dlaw_pick, Dlaw_sign, Dlaw_bent, Dlaw_word, Dlaw_near_name, Dlaw_ways, Dis_name, Dnamed, Dall_names, Dall_steps, Dare_ways, Dare_steps, Dways_fit⟩
  have KN : KnE K ⟨gS, gE, gT, gC⟩ := ⟨kes, ken, keb, kei, kel, ket, kdS, kdT, kdC⟩
  have KO : Kno K ⟨gS, gE, gT, gC⟩ := ⟨kss, kes, ktx, kcx, ksn, ksb, ksi, ksl, kst, kfE, kfT, kfC⟩
  have FmS := fun_mk (st := sStepMul) lmS cmS kmS
  have bmS := FmS.binds (ps := ["self", "other"]) fun _ _ _ _ _ _ us hl => match us, hl with | [_, _], _ => rfl
  have FpS := fun_mk (st := sStepPow) lpS cpS kpS
  have bpS := FpS.binds (ps := ["self", "other"]) fun _ _ _ _ _ _ us hl => match us, hl with | [_, _], _ => rfl
  have FmC := fun_mk (st := sChainMul) lmC cmC kmC
  have bmC := FmC.binds (ps := ["self", "other"]) fun _ _ _ _ _ _ us hl => match us, hl with | [_, _], _ => rfl
  have FpC := fun_mk (st := sChainPow) lpC cpC kpC
  have bpC := FpC.binds (ps := ["self", "other"]) fun _ _ _ _ _ _ us hl => match us, hl with | [_, _], _ => rfl
  have FlC := fun_mk (st := sChainLen) llC clC klC
  have blC := FlC.binds (ps := ["self"]) fun _ _ _ _ _ _ us hl => match us, hl with | [_], _ => rfl
  have FsC := fun_mk (st := sChainStr) lsC csC ksC
  have bsC := FsC.binds (ps := ["self"]) fun _ _ _ _ _ _ us hl => match us, hl with | [_], _ => rfl
  have FcC := fun_mk (st := sChainCall) lcC ccC kcC
  have bcC := FcC.binds (ps := ["self", "part"]) fun _ _ _ _ _ _ us hl => match us, hl with | [_, _], _ => rfl
  have CM : ChM K mg gC gS fiC := ⟨OC, OS, gC_steps, MC, kSC, kfC⟩
  have CO : ChOps K mg gC gS fiC fmS fmC fpS fpC _ _ _ _ := ⟨CM, ⟨sfS, amS, nmS, rmS⟩, ⟨sfC, amC, nmC, rmC⟩, ⟨sfS, apS, npS, rpS⟩, ⟨sfC, apC, npC, rpC⟩, bmS, bmC, bpS, bpC, nSC, nCS, uCS, uSC, uiS, uiC, ⟨_, ip1⟩, ⟨_, ip2⟩⟩
  have LC : LenM K gC flC _ sChainLen "Chain.__len__" := ⟨FlC, blC, alC, nlC⟩
  have ME4 : ChMe K gC fcC flC fsC fqC _ _ _ _ := ⟨⟨acC, ncC, icC⟩, bcC, LC, FsC, bsC, asC, nsC, QC⟩
  have IF : IsF K mg gE gS fqS _ := ⟨OE, OS, NX, QS, gS_name, gS_ways, neS, kss⟩
  have XM : ExMk K mg gE gS fiE fall_names fall_steps _ _ _ := ⟨OE.cl, NX, hne, OS.cl, gS_name, gS_ways, PySem.W.mg_of X G gEa, ME, FiE, biE, Dall_names, Dall_steps⟩
  have Tx0 : OexC K gx0 := ⟨⟨_, _, _, _, _, _, _, _, _, _, _, _, _, _, _, gx0_c, gx0_r⟩, gx0_1, gx0_2, gx0_3, gx0_4⟩
  have Ex0 : ExcC K gx0 := ⟨gx0_5, gx0_6, gx0_2, gx0_7, gx0_8, so, tk, gx0_9⟩
  have Fx0 := fun_mk (st := eS 0) lx0 cx0 kx0
  have Rx0 : Er K mg 0 gx0 fx0 _ := ⟨PySem.W.mg_of X G gx0a, Tx0, ⟨gx0_5, gx0_6, gx0_2, gx0_7⟩, Ex0, ax0, tx0, Fx0, Fx0.binds (ps := ["self", "word"]) fun _ _ _ _ _ _ us hl => match us, hl with | [_, _], _ => rfl, nx0⟩
  have Tx1 : OexC K gx1 := ⟨⟨_, _, _, _, _, _, _, _, _, _, _, _, _, _, _, gx1_c, gx1_r⟩, gx1_1, gx1_2, gx1_3, gx1_4⟩
  have Ex1 : ExcC K gx1 := ⟨gx1_5, gx1_6, gx1_2, gx1_7, gx1_8, so, tk, gx1_9⟩
  have Fx1 := fun_mk (st := eS 1) lx1 cx1 kx1
  have Rx1 : Er K mg 1 gx1 fx1 _ := ⟨PySem.W.mg_of X G gx1a, Tx1, ⟨gx1_5, gx1_6, gx1_2, gx1_7⟩, Ex1, ax1, tx1, Fx1, Fx1.binds (ps := ["self", "word"]) fun _ _ _ _ _ _ us hl => match us, hl with | [_, _], _ => rfl, nx1⟩
  have Tx2 : OexC K gx2 := ⟨⟨_, _, _, _, _, _, _, _, _, _, _, _, _, _, _, gx2_c, gx2_r⟩, gx2_1, gx2_2, gx2_3, gx2_4⟩
  have Ex2 : ExcC K gx2 := ⟨gx2_5, gx2_6, gx2_2, gx2_7, gx2_8, so, tk, gx2_9⟩
  have Fx2 := fun_mk (st := eS 2) lx2 cx2 kx2
  have Rx2 : Er K mg 2 gx2 fx2 _ := ⟨PySem.W.mg_of X G gx2a, Tx2, ⟨gx2_5, gx2_6, gx2_2, gx2_7⟩, Ex2, ax2, tx2, Fx2, Fx2.binds (ps := ["self", "word"]) fun _ _ _ _ _ _ us hl => match us, hl with | [_, _], _ => rfl, nx2⟩
  have Tx3 : OexC K gx3 := ⟨⟨_, _, _, _, _, _, _, _, _, _, _, _, _, _, _, gx3_c, gx3_r⟩, gx3_1, gx3_2, gx3_3, gx3_4⟩
  have Ex3 : ExcC K gx3 := ⟨gx3_5, gx3_6, gx3_2, gx3_7, gx3_8, so, tk, gx3_9⟩
  have Fx3 := fun_mk (st := eS 3) lx3 cx3 kx3
  have Rx3 : Er K mg 3 gx3 fx3 _ := ⟨PySem.W.mg_of X G gx3a, Tx3, ⟨gx3_5, gx3_6, gx3_2, gx3_7⟩, Ex3, ax3, tx3, Fx3, Fx3.binds (ps := ["self", "word"]) fun _ _ _ _ _ _ us hl => match us, hl with | [_, _], _ => rfl, nx3⟩
  have Tx4 : OexC K gx4 := ⟨⟨_, _, _, _, _, _, _, _, _, _, _, _, _, _, _, gx4_c, gx4_r⟩, gx4_1, gx4_2, gx4_3, gx4_4⟩
  have Ex4 : ExcC K gx4 := ⟨gx4_5, gx4_6, gx4_2, gx4_7, gx4_8, so, tk, gx4_9⟩
  have Fx4 := fun_mk (st := eS 4) lx4 cx4 kx4
  have Rx4 : Er K mg 4 gx4 fx4 _ := ⟨PySem.W.mg_of X G gx4a, Tx4, ⟨gx4_5, gx4_6, gx4_2, gx4_7⟩, Ex4, ax4, tx4, Fx4, Fx4.binds (ps := ["self", "at"]) fun _ _ _ _ _ _ us hl => match us, hl with | [_, _], _ => rfl, nx4⟩
  have Tx5 : OexC K gx5 := ⟨⟨_, _, _, _, _, _, _, _, _, _, _, _, _, _, _, gx5_c, gx5_r⟩, gx5_1, gx5_2, gx5_3, gx5_4⟩
  have Ex5 : ExcC K gx5 := ⟨gx5_5, gx5_6, gx5_2, gx5_7, gx5_8, so, tk, gx5_9⟩
  have Fx5 := fun_mk (st := eS 5) lx5 cx5 kx5
  have Rx5 : Er K mg 5 gx5 fx5 _ := ⟨PySem.W.mg_of X G gx5a, Tx5, ⟨gx5_5, gx5_6, gx5_2, gx5_7⟩, Ex5, ax5, tx5, Fx5, Fx5.binds (ps := ["self", "word"]) fun _ _ _ _ _ _ us hl => match us, hl with | [_, _], _ => rfl, nx5⟩
  have Tx6 : OexC K gx6 := ⟨⟨_, _, _, _, _, _, _, _, _, _, _, _, _, _, _, gx6_c, gx6_r⟩, gx6_1, gx6_2, gx6_3, gx6_4⟩
  have Ex6 : ExcC K gx6 := ⟨gx6_5, gx6_6, gx6_2, gx6_7, gx6_8, so, tk, gx6_9⟩
  have Fx6 := fun_mk (st := eS 6) lx6 cx6 kx6
  have Rx6 : Er K mg 6 gx6 fx6 _ := ⟨PySem.W.mg_of X G gx6a, Tx6, ⟨gx6_5, gx6_6, gx6_2, gx6_7⟩, Ex6, ax6, tx6, Fx6, Fx6.binds (ps := ["self", "name"]) fun _ _ _ _ _ _ us hl => match us, hl with | [_, _], _ => rfl, nx6⟩
  have Tx7 : OexC K gx7 := ⟨⟨_, _, _, _, _, _, _, _, _, _, _, _, _, _, _, gx7_c, gx7_r⟩, gx7_1, gx7_2, gx7_3, gx7_4⟩
  have Ex7 : ExcC K gx7 := ⟨gx7_5, gx7_6, gx7_2, gx7_7, gx7_8, so, tk, gx7_9⟩
  have Fx7 := fun_mk (st := eS 7) lx7 cx7 kx7
  have Rx7 : Er K mg 7 gx7 fx7 _ := ⟨PySem.W.mg_of X G gx7a, Tx7, ⟨gx7_5, gx7_6, gx7_2, gx7_7⟩, Ex7, ax7, tx7, Fx7, Fx7.binds (ps := ["self", "word"]) fun _ _ _ _ _ _ us hl => match us, hl with | [_, _], _ => rfl, nx7⟩
  have Tx8 : OexC K gx8 := ⟨⟨_, _, _, _, _, _, _, _, _, _, _, _, _, _, _, gx8_c, gx8_r⟩, gx8_1, gx8_2, gx8_3, gx8_4⟩
  have Ex8 : ExcC K gx8 := ⟨gx8_5, gx8_6, gx8_2, gx8_7, gx8_8, so, tk, gx8_9⟩
  have Fx8 := fun_mk (st := eS 8) lx8 cx8 kx8
  have Rx8 : Er K mg 8 gx8 fx8 _ := ⟨PySem.W.mg_of X G gx8a, Tx8, ⟨gx8_5, gx8_6, gx8_2, gx8_7⟩, Ex8, ax8, tx8, Fx8, Fx8.binds (ps := ["self", "name"]) fun _ _ _ _ _ _ us hl => match us, hl with | [_, _], _ => rfl, nx8⟩
  have Tx9 : OexC K gx9 := ⟨⟨_, _, _, _, _, _, _, _, _, _, _, _, _, _, _, gx9_c, gx9_r⟩, gx9_1, gx9_2, gx9_3, gx9_4⟩
  have Ex9 : ExcC K gx9 := ⟨gx9_5, gx9_6, gx9_2, gx9_7, gx9_8, so, tk, gx9_9⟩
  have Fx9 := fun_mk (st := eS 9) lx9 cx9 kx9
  have Rx9 : Er K mg 9 gx9 fx9 _ := ⟨PySem.W.mg_of X G gx9a, Tx9, ⟨gx9_5, gx9_6, gx9_2, gx9_7⟩, Ex9, ax9, tx9, Fx9, Fx9.binds (ps := ["self", "name"]) fun _ _ _ _ _ _ us hl => match us, hl with | [_, _], _ => rfl, nx9⟩
  have Tx10 : OexC K gx10 := ⟨⟨_, _, _, _, _, _, _, _, _, _, _, _, _, _, _, gx10_c, gx10_r⟩, gx10_1, gx10_2, gx10_3, gx10_4⟩
  have Ex10 : ExcC K gx10 := ⟨gx10_5, gx10_6, gx10_2, gx10_7, gx10_8, so, tk, gx10_9⟩
  have Fx10 := fun_mk (st := eS 10) lx10 cx10 kx10
  have Rx10 : Er K mg 10 gx10 fx10 _ := ⟨PySem.W.mg_of X G gx10a, Tx10, ⟨gx10_5, gx10_6, gx10_2, gx10_7⟩, Ex10, ax10, tx10, Fx10, Fx10.binds (ps := ["self", "at"]) fun _ _ _ _ _ _ us hl => match us, hl with | [_, _], _ => rfl, nx10⟩
  have Tx11 : OexC K gx11 := ⟨⟨_, _, _, _, _, _, _, _, _, _, _, _, _, _, _, gx11_c, gx11_r⟩, gx11_1, gx11_2, gx11_3, gx11_4⟩
  have Ex11 : ExcC K gx11 := ⟨gx11_5, gx11_6, gx11_2, gx11_7, gx11_8, so, tk, gx11_9⟩
  have Rx11 : Er0 K mg "Impossible" gx11 := ⟨PySem.W.mg_of X G gx11a, Tx11, Ex11, ax11⟩
  have Tx12 : OexC K gx12 := ⟨⟨_, _, _, _, _, _, _, _, _, _, _, _, _, _, _, gx12_c, gx12_r⟩, gx12_1, gx12_2, gx12_3, gx12_4⟩
  have Ex12 : ExcC K gx12 := ⟨gx12_5, gx12_6, gx12_2, gx12_7, gx12_8, so, tk, gx12_9⟩
  have Rx12 : Er0 K mg "WaysError" gx12 := ⟨PySem.W.mg_of X G gx12a, Tx12, Ex12, ax12⟩
  let C : Nat → Addr := fun i => match i with | 0 => gx0 | 1 => gx1 | 2 => gx2 | 3 => gx3 | 4 => gx4 | 5 => gx5 | 6 => gx6 | 7 => gx7 | 8 => gx8 | 9 => gx9 | 10 => gx10 | _ => gx11
  let cE : Nat → Addr := fun i => match i with | 0 => fx0 | 1 => fx1 | 2 => fx2 | 3 => fx3 | 4 => fx4 | 5 => fx5 | 6 => fx6 | 7 => fx7 | 8 => fx8 | 9 => fx9 | _ => fx10
  let cD : Nat → FuncData := fun i => match i with | 0 => PySem.W.fnOf "__init__" "InvalidStep.__init__" (defArgs (eS 0)) (defBody (eS 0)) (defScope (eS 0)) .none kVx0 dcx0 pmx0 anx0 cdx0 ctx0 | 1 => PySem.W.fnOf "__init__" "InvalidTrait.__init__" (defArgs (eS 1)) (defBody (eS 1)) (defScope (eS 1)) .none kVx1 dcx1 pmx1 anx1 cdx1 ctx1 | 2 => PySem.W.fnOf "__init__" "InvalidExpr.__init__" (defArgs (eS 2)) (defBody (eS 2)) (defScope (eS 2)) .none kVx2 dcx2 pmx2 anx2 cdx2 ctx2 | 3 => PySem.W.fnOf "__init__" "InvalidRow.__init__" (defArgs (eS 3)) (defBody (eS 3)) (defScope (eS 3)) .none kVx3 dcx3 pmx3 anx3 cdx3 ctx3 | 4 => PySem.W.fnOf "__init__" "InvalidText.__init__" (defArgs (eS 4)) (defBody (eS 4)) (defScope (eS 4)) .none kVx4 dcx4 pmx4 anx4 cdx4 ctx4 | 5 => PySem.W.fnOf "__init__" "InvalidWorld.__init__" (defArgs (eS 5)) (defBody (eS 5)) (defScope (eS 5)) .none kVx5 dcx5 pmx5 anx5 cdx5 ctx5 | 6 => PySem.W.fnOf "__init__" "InvalidStart.__init__" (defArgs (eS 6)) (defBody (eS 6)) (defScope (eS 6)) .none kVx6 dcx6 pmx6 anx6 cdx6 ctx6 | 7 => PySem.W.fnOf "__init__" "InvalidClaim.__init__" (defArgs (eS 7)) (defBody (eS 7)) (defScope (eS 7)) .none kVx7 dcx7 pmx7 anx7 cdx7 ctx7 | 8 => PySem.W.fnOf "__init__" "NoName.__init__" (defArgs (eS 8)) (defBody (eS 8)) (defScope (eS 8)) .none kVx8 dcx8 pmx8 anx8 cdx8 ctx8 | 9 => PySem.W.fnOf "__init__" "NoStep.__init__" (defArgs (eS 9)) (defBody (eS 9)) (defScope (eS 9)) .none kVx9 dcx9 pmx9 anx9 cdx9 ctx9 | _ => PySem.W.fnOf "__init__" "NoRow.__init__" (defArgs (eS 10)) (defBody (eS 10)) (defScope (eS 10)) .none kVx10 dcx10 pmx10 anx10 cdx10 ctx10
  have EE : Errs K mg C gx12 cE cD := ⟨rows11 (p := fun i => Er K mg i (C i) (cE i) (cD i)) Rx0 Rx1 Rx2 Rx3 Rx4 Rx5 Rx6 Rx7 Rx8 Rx9 Rx10, Rx11, Rx12,
    fun i j hi hj => rows12 (p := fun i => ∀ j, j < 12 → PySem.W.kitOne K (.ref (C i)) (.ref (C j)) = some (decide (i = j))) (rows12 (p := fun j => PySem.W.kitOne K (.ref (C 0)) (.ref (C j)) = some (decide (0 = j))) y0_0 y0_1 y0_2 y0_3 y0_4 y0_5 y0_6 y0_7 y0_8 y0_9 y0_10 y0_11) (rows12 (p := fun j => PySem.W.kitOne K (.ref (C 1)) (.ref (C j)) = some (decide (1 = j))) y1_0 y1_1 y1_2 y1_3 y1_4 y1_5 y1_6 y1_7 y1_8 y1_9 y1_10 y1_11) (rows12 (p := fun j => PySem.W.kitOne K (.ref (C 2)) (.ref (C j)) = some (decide (2 = j))) y2_0 y2_1 y2_2 y2_3 y2_4 y2_5 y2_6 y2_7 y2_8 y2_9 y2_10 y2_11) (rows12 (p := fun j => PySem.W.kitOne K (.ref (C 3)) (.ref (C j)) = some (decide (3 = j))) y3_0 y3_1 y3_2 y3_3 y3_4 y3_5 y3_6 y3_7 y3_8 y3_9 y3_10 y3_11) (rows12 (p := fun j => PySem.W.kitOne K (.ref (C 4)) (.ref (C j)) = some (decide (4 = j))) y4_0 y4_1 y4_2 y4_3 y4_4 y4_5 y4_6 y4_7 y4_8 y4_9 y4_10 y4_11) (rows12 (p := fun j => PySem.W.kitOne K (.ref (C 5)) (.ref (C j)) = some (decide (5 = j))) y5_0 y5_1 y5_2 y5_3 y5_4 y5_5 y5_6 y5_7 y5_8 y5_9 y5_10 y5_11) (rows12 (p := fun j => PySem.W.kitOne K (.ref (C 6)) (.ref (C j)) = some (decide (6 = j))) y6_0 y6_1 y6_2 y6_3 y6_4 y6_5 y6_6 y6_7 y6_8 y6_9 y6_10 y6_11) (rows12 (p := fun j => PySem.W.kitOne K (.ref (C 7)) (.ref (C j)) = some (decide (7 = j))) y7_0 y7_1 y7_2 y7_3 y7_4 y7_5 y7_6 y7_7 y7_8 y7_9 y7_10 y7_11) (rows12 (p := fun j => PySem.W.kitOne K (.ref (C 8)) (.ref (C j)) = some (decide (8 = j))) y8_0 y8_1 y8_2 y8_3 y8_4 y8_5 y8_6 y8_7 y8_8 y8_9 y8_10 y8_11) (rows12 (p := fun j => PySem.W.kitOne K (.ref (C 9)) (.ref (C j)) = some (decide (9 = j))) y9_0 y9_1 y9_2 y9_3 y9_4 y9_5 y9_6 y9_7 y9_8 y9_9 y9_10 y9_11) (rows12 (p := fun j => PySem.W.kitOne K (.ref (C 10)) (.ref (C j)) = some (decide (10 = j))) y10_0 y10_1 y10_2 y10_3 y10_4 y10_5 y10_6 y10_7 y10_8 y10_9 y10_10 y10_11) (rows12 (p := fun j => PySem.W.kitOne K (.ref (C 11)) (.ref (C j)) = some (decide (11 = j))) y11_0 y11_1 y11_2 y11_3 y11_4 y11_5 y11_6 y11_7 y11_8 y11_9 y11_10 y11_11) i hi j hj,
    rows12 (p := fun j => PySem.W.kitOne K (.ref gx12) (.ref (C j)) = some false) yb0 yb1 yb2 yb3 yb4 yb5 yb6 yb7 yb8 yb9 yb10 yb11,
    rows12 (p := fun i => PySem.W.kitOne K (.ref (C i)) (.type "ValueError") = some true) yv0 yv1 yv2 yv3 yv4 yv5 yv6 yv7 yv8 yv9 yv10 yv11,
    rows12 (p := fun i => PySem.W.kitOne K (.ref (C i)) (.ref gx12) = some true) yw0 yw1 yw2 yw3 yw4 yw5 yw6 yw7 yw8 yw9 yw10 yw11, yvb⟩
  exact ⟨PySem.W.fnOf "law" "law" (defArgs sLaw) (defBody sLaw) (defScope sLaw) .none kVlaw dclaw pmlaw anlaw cdlaw ctlaw, fun s v => .of_eq rfl, fun base _ _ => by
    have GF := ok_feed (P := l.prog) (w := w) (base := base) S Flaw_feed
    have GA := ok_any (P := l.prog) (base := base) S KI MK AF Dlaw_any 3
    have GWd := ok_word (P := l.prog) (w := w) (base := base) S Flaw_word Dlaw_draw Dlaw_pick
    have GWs := ok_words (P := l.prog) (w := w) (base := base) S Flaw_words Dlaw_word GWd
    have GS0 := ok_stInit (P := l.prog) (w := w) (base := base) S W Dis_name (PySem.W.mg_of X G w5) (PySem.W.mg_of X G w6) Dare_ways KI.S.cl KI.s1 KI.s2 FiS
    have GM := ok_named (P := l.prog) (w := w) (base := base) S W Dis_name KI.E.cl NX KI.E.g ME FiE biE Dall_names Dall_steps Fnamed
    have GAs := ok_asExpr (P := l.prog) (w := w) (base := base) (cS := gS) S W OE Dis_name Dnamed GM Fas_expr
    have e0 := EE.er 0 (by decide)
    have e2 := EE.er 2 (by decide)
    have GPX := ok_partX (P := l.prog) (w := w) (base := base) e2 Das_expr GAs Fpart_expr
    have GAp := ok_applied (P := l.prog) (w := w) (base := base) S XM Fapplied
    have GI := ok_chInitX (P := l.prog) (w := w) (base := base) S OS gS_ways LS OC.cl gC_steps e0 FiC
    have GJ := ok_joined (P := l.prog) (w := w) (base := base) S CM GI Fjoined
    have GRp := ok_repeated (P := l.prog) (w := w) (base := base) S CM GI Frepeated
    have GM1 := ok_stMul (P := l.prog) (w := w) (base := base) S CM GI Djoined GJ FmS
    have GM2 := ok_chMul (P := l.prog) (w := w) (base := base) S CM Djoined GJ FmC
    have GP1 := ok_stPow (P := l.prog) (w := w) (base := base) S CM GI Drepeated GRp Dis_integer FpS
    have GP2 := ok_chPow (P := l.prog) (w := w) (base := base) S Drepeated GRp Dis_integer FpC
    have GC := ok_chCall (P := l.prog) (w := w) (base := base) S CM Dpart_expr GPX Dapplied GAp FcC
    have GLC := ok_lChain (P := l.prog) (w := w) (base := base) S CM GI Flaw_chain
    have GTo := ok_told4 (P := l.prog) (w := w) (base := base) S EE xm0 Dlaw_refused Dlaw_chain GLC Flaw_told
    have GBa := ok_bad4 (P := l.prog) (w := w) (base := base) S EE xm2 ME4.o bcC GC Dlaw_refused Flaw_bad_part
    have GIs := ok_is (P := l.prog) (w := w) (base := base) S IF Dlaw_is
    have GSa := ok_same (P := l.prog) (w := w) (base := base) S KI Dlaw_same 2
    have GRi := ok_right4 (P := l.prog) (w := w) (base := base) (k := ⟨gS, gE, gT, gC⟩) S CM ME4 gS_name gS_ways QS uSC kct kes rfl GC Dlaw_same GSa MS GS0 biS Dnamed GM Dlaw_is GIs Flaw_right
    have GRe := ok_refuses (P := l.prog) (w := w) (base := base) S CO e0 xm3 GM1 GM2 GP1 GP2 Flaw_refuses
    have GPu := ok_put4 (P := l.prog) (w := w) (base := base) S CO gS_name gS_ways QS QC neC Dlaw_draw Dlaw_pick Dlaw_steps Dlaw_chain GLC Dlaw_right GRi Dlaw_power GI GM1 GM2 GP1 GP2 Flaw_put_together
    have GCl := ok_clash (P := l.prog) (w := w) (base := base) S OS gS_name gS_ways QS neS Flaw_clashes
    exact ok_law4 (k := ⟨gS, gE, gT, gC⟩) S KI KO KN rfl rfl CO gS_ways LS OE MS GS0 biS Dlaw_feed GF Dlaw_draw Dlaw_pick Dlaw_words GWs Dlaw_any GA Dlaw_is_name Dlaw_steps Dlaw_clashes GCl Dlaw_told GTo Dlaw_right GRi Dlaw_same GSa Dlaw_bad_part GBa Dlaw_put_together GPu Dlaw_refuses GRe GM1 GM2 Flaw⟩
theorem walk {l : PySem.W.OpenLaw} {q : Program} {loose : List Str} {XP : (Str → Option Value) → Heap → Prop} {YP : World → Heap → Prop} {d : DefRec} {K : Params → PySem.W.Frag} (hn : l.most = some 63) (hdf : d.params.defaults = [])
    (hY : ∀ (w : World) (h : Heap), YP w h → (K w.params).In h)
    (F : ∀ (w : World) (mg : Str → Option Value) (fa : Addr) (h : Heap), (K w.params).In h → h.Ns mainGlobals mg → mg d.name = some (.ref fa) →
      ∃ fd : FuncData, (∀ (s : Shared) (u : Value), BindsTo s fd ⟨[u], []⟩ [("_law_script", u)]) ∧ ∀ base : Heap, (K w.params).In base → base.Ns mainGlobals mg → FnOk l.prog w (K w.params) mg base CX0 29 fa fd ["_law_script"] (spLaw (K w.params))) :
    PySem.W.WalkO q loose XP YP l.row.toRowW d [] (fun f vs => PySem.call f vs) :=
  L2.walk_of (n := 63) (k := 29) (x := "_law_script") (CX := fun _ => CX0) (sp := fun w => spLaw (K w.params)) hn (by decide) hdf ⟨rfl, by decide, by decide⟩ hY F (fun _ _ a ns hl _ hS => ⟨a, ns, rfl, hS, hl, fun _ => rfl⟩) fun _ _ _ _ _ z => z
end LK

open PySem PySem.W PyProof.Rows
set_option maxHeartbeats 0
open_top head for PySem.Challenge.rw_knownways_k04_chains_of_steps
set_option maxRecDepth 100000 in
set_option maxHeartbeats 0 in
theorem PySem.Challenge.cw_knownways_k04_chains_of_steps_holds : PySem.Challenge.rw_knownways_k04_chains_of_steps.Holds := by
  refine head ?_
  k_fill
  refine LK.walk (l := PySem.Challenge.rw_knownways_k04_chains_of_steps) rfl rfl (fun w h Y => PySem.W.kIn_of Y) ?F
  case F =>
    intro w mg fa h KX G hmg
    refine' LK.all_mk KX G hmg ?b_len ?b_abs ?b_int ?b_range ?b_isinstance ?b_tuple ?b_list ?b_all ?b_zip ?b_bool ?b_str ?b_set ?b_sorted ?b_sum ?b_any ?b_enumerate ?b_ve ?alaw_feed ?llaw_feed ?claw_feed ?klaw_feed ?alaw_draw ?llaw_draw ?claw_draw ?klaw_draw ?alaw_pick ?llaw_pick ?claw_pick ?klaw_pick ?alaw_same ?llaw_same ?claw_same ?klaw_same ?alaw_word ?llaw_word ?claw_word ?klaw_word ?alaw_words ?llaw_words ?claw_words ?klaw_words ?alaw_is_name ?llaw_is_name ?claw_is_name ?klaw_is_name ?alaw_sign ?llaw_sign ?claw_sign ?klaw_sign ?alaw_bent ?llaw_bent ?claw_bent ?klaw_bent ?alaw_near_name ?llaw_near_name ?claw_near_name ?klaw_near_name ?alaw_any ?llaw_any ?claw_any ?klaw_any ?alaw_ways ?llaw_ways ?claw_ways ?klaw_ways ?alaw_refused ?llaw_refused ?claw_refused ?klaw_refused ?alaw_is ?llaw_is ?claw_is ?klaw_is ?alaw_power ?llaw_power ?claw_power ?klaw_power ?alaw_chain ?llaw_chain ?claw_chain ?klaw_chain ?alaw_told ?llaw_told ?claw_told ?klaw_told ?alaw_refuses ?llaw_refuses ?claw_refuses ?klaw_refuses ?alaw_right ?llaw_right ?claw_right ?klaw_right ?alaw_bad_part ?llaw_bad_part ?claw_bad_part ?klaw_bad_part ?alaw_put_together ?llaw_put_together ?claw_put_together ?klaw_put_together ?alaw_steps ?llaw_steps ?claw_steps ?klaw_steps ?alaw_clashes ?llaw_clashes ?claw_clashes ?klaw_clashes ?alaw ?llaw ?claw ?klaw ?ais_name ?lis_name ?cis_name ?kis_name ?ais_integer ?lis_integer ?cis_integer ?kis_integer ?anamed ?lnamed ?cnamed ?knamed ?aapplied ?lapplied ?capplied ?kapplied ?aas_expr ?las_expr ?cas_expr ?kas_expr ?apart_expr ?lpart_expr ?cpart_expr ?kpart_expr ?ajoined ?ljoined ?cjoined ?kjoined ?arepeated ?lrepeated ?crepeated ?krepeated ?aare_ways ?lare_ways ?care_ways ?kare_ways ?aare_steps ?lare_steps ?care_steps ?kare_steps ?aways_fit ?lways_fit ?cways_fit ?kways_fit ?aall_names ?lall_names ?call_names ?kall_names ?eall_names ?aall_steps ?lall_steps ?call_steps ?kall_steps ?eall_steps ?w1 ?w2 ?w3 ?w4 ?w5 ?w6 ?w7 ?w8 ?w9 ?w10 ?w11 ?w12 ?w13 ?w14 ?w15 ?w16 ?w17 ?so ?tk ?gSa ?gS1 ?gS2 ?gS3 ?gS4 ?gS5 ?gS6 ?gSk0 ?gSk1 ?gSk2 ?gSk3 ?gS7 ?gS8 ?aiS ?niS ?liS ?ciS ?kiS ?aqS ?nqS ?lqS ?cqS ?kqS ?gS_name ?gS_ways ?gEa ?gE1 ?gE2 ?gE3 ?gE4 ?gE5 ?gE6 ?gEk0 ?gEk1 ?gEk2 ?gEk3 ?gE7 ?gE8 ?aiE ?niE ?liE ?ciE ?kiE ?aqE ?nqE ?lqE ?cqE ?kqE ?gE_kind ?gE_word ?gE_step ?gE_parts ?gE_names ?gE_steps ?gE_size ?gE_applied ?gTa ?gT1 ?gT2 ?gT3 ?gT4 ?gT5 ?gT6 ?gTk0 ?gTk1 ?gTk2 ?gTk3 ?gT7 ?gT8 ?aiT ?niT ?liT ?ciT ?kiT ?aqT ?nqT ?lqT ?cqT ?kqT ?gT_word ?gT_steps ?gCa ?gC1 ?gC2 ?gC3 ?gC4 ?gC5 ?gC6 ?gCk0 ?gCk1 ?gCk2 ?gCk3 ?gC7 ?gC8 ?aiC ?niC ?liC ?ciC ?kiC ?aqC ?nqC ?lqC ?cqC ?kqC ?gC_steps ?alS ?nlS ?llS ?clS ?klS ?neS ?neC ?hne ?kes ?ken ?keb ?kei ?kel ?ket ?kss ?ksn ?ksb ?ksi ?ksl ?kst ?ktx ?kcx ?kct ?kdS ?kdT ?kdC ?kfE ?kfT ?kfC ?kSC ?amS ?nmS ?lmS ?cmS ?kmS ?apS ?npS ?lpS ?cpS ?kpS ?amC ?nmC ?lmC ?cmC ?kmC ?apC ?npC ?lpC ?cpC ?kpC ?alC ?nlC ?llC ?clC ?klC ?asC ?nsC ?lsC ?csC ?ksC ?acC ?ncC ?lcC ?ccC ?kcC ?sfS ?rmS ?rpS ?sfC ?rmC ?rpC ?icC ?nSC ?nCS ?uCS ?uSC ?uiS ?uiC ?ip1 ?ip2 ?gx0a ?gx0_c ?gx0_r ?gx0_1 ?gx0_2 ?gx0_3 ?gx0_4 ?gx0_5 ?gx0_6 ?gx0_7 ?gx0_8 ?gx0_9 ?ax0 ?tx0 ?lx0 ?cx0 ?kx0 ?nx0 ?gx1a ?gx1_c ?gx1_r ?gx1_1 ?gx1_2 ?gx1_3 ?gx1_4 ?gx1_5 ?gx1_6 ?gx1_7 ?gx1_8 ?gx1_9 ?ax1 ?tx1 ?lx1 ?cx1 ?kx1 ?nx1 ?gx2a ?gx2_c ?gx2_r ?gx2_1 ?gx2_2 ?gx2_3 ?gx2_4 ?gx2_5 ?gx2_6 ?gx2_7 ?gx2_8 ?gx2_9 ?ax2 ?tx2 ?lx2 ?cx2 ?kx2 ?nx2 ?gx3a ?gx3_c ?gx3_r ?gx3_1 ?gx3_2 ?gx3_3 ?gx3_4 ?gx3_5 ?gx3_6 ?gx3_7 ?gx3_8 ?gx3_9 ?ax3 ?tx3 ?lx3 ?cx3 ?kx3 ?nx3 ?gx4a ?gx4_c ?gx4_r ?gx4_1 ?gx4_2 ?gx4_3 ?gx4_4 ?gx4_5 ?gx4_6 ?gx4_7 ?gx4_8 ?gx4_9 ?ax4 ?tx4 ?lx4 ?cx4 ?kx4 ?nx4 ?gx5a ?gx5_c ?gx5_r ?gx5_1 ?gx5_2 ?gx5_3 ?gx5_4 ?gx5_5 ?gx5_6 ?gx5_7 ?gx5_8 ?gx5_9 ?ax5 ?tx5 ?lx5 ?cx5 ?kx5 ?nx5 ?gx6a ?gx6_c ?gx6_r ?gx6_1 ?gx6_2 ?gx6_3 ?gx6_4 ?gx6_5 ?gx6_6 ?gx6_7 ?gx6_8 ?gx6_9 ?ax6 ?tx6 ?lx6 ?cx6 ?kx6 ?nx6 ?gx7a ?gx7_c ?gx7_r ?gx7_1 ?gx7_2 ?gx7_3 ?gx7_4 ?gx7_5 ?gx7_6 ?gx7_7 ?gx7_8 ?gx7_9 ?ax7 ?tx7 ?lx7 ?cx7 ?kx7 ?nx7 ?gx8a ?gx8_c ?gx8_r ?gx8_1 ?gx8_2 ?gx8_3 ?gx8_4 ?gx8_5 ?gx8_6 ?gx8_7 ?gx8_8 ?gx8_9 ?ax8 ?tx8 ?lx8 ?cx8 ?kx8 ?nx8 ?gx9a ?gx9_c ?gx9_r ?gx9_1 ?gx9_2 ?gx9_3 ?gx9_4 ?gx9_5 ?gx9_6 ?gx9_7 ?gx9_8 ?gx9_9 ?ax9 ?tx9 ?lx9 ?cx9 ?kx9 ?nx9 ?gx10a ?gx10_c ?gx10_r ?gx10_1 ?gx10_2 ?gx10_3 ?gx10_4 ?gx10_5 ?gx10_6 ?gx10_7 ?gx10_8 ?gx10_9 ?ax10 ?tx10 ?lx10 ?cx10 ?kx10 ?nx10 ?gx11a ?gx11_c ?gx11_r ?gx11_1 ?gx11_2 ?gx11_3 ?gx11_4 ?gx11_5 ?gx11_6 ?gx11_7 ?gx11_8 ?gx11_9 ?ax11 ?gx12a ?gx12_c ?gx12_r ?gx12_1 ?gx12_2 ?gx12_3 ?gx12_4 ?gx12_5 ?gx12_6 ?gx12_7 ?gx12_8 ?gx12_9 ?ax12 ?y0_0 ?y0_1 ?y0_2 ?y0_3 ?y0_4 ?y0_5 ?y0_6 ?y0_7 ?y0_8 ?y0_9 ?y0_10 ?y0_11 ?yb0 ?yv0 ?yw0 ?y1_0 ?y1_1 ?y1_2 ?y1_3 ?y1_4 ?y1_5 ?y1_6 ?y1_7 ?y1_8 ?y1_9 ?y1_10 ?y1_11 ?yb1 ?yv1 ?yw1 ?y2_0 ?y2_1 ?y2_2 ?y2_3 ?y2_4 ?y2_5 ?y2_6 ?y2_7 ?y2_8 ?y2_9 ?y2_10 ?y2_11 ?yb2 ?yv2 ?yw2 ?y3_0 ?y3_1 ?y3_2 ?y3_3 ?y3_4 ?y3_5 ?y3_6 ?y3_7 ?y3_8 ?y3_9 ?y3_10 ?y3_11 ?yb3 ?yv3 ?yw3 ?y4_0 ?y4_1 ?y4_2 ?y4_3 ?y4_4 ?y4_5 ?y4_6 ?y4_7 ?y4_8 ?y4_9 ?y4_10 ?y4_11 ?yb4 ?yv4 ?yw4 ?y5_0 ?y5_1 ?y5_2 ?y5_3 ?y5_4 ?y5_5 ?y5_6 ?y5_7 ?y5_8 ?y5_9 ?y5_10 ?y5_11 ?yb5 ?yv5 ?yw5 ?y6_0 ?y6_1 ?y6_2 ?y6_3 ?y6_4 ?y6_5 ?y6_6 ?y6_7 ?y6_8 ?y6_9 ?y6_10 ?y6_11 ?yb6 ?yv6 ?yw6 ?y7_0 ?y7_1 ?y7_2 ?y7_3 ?y7_4 ?y7_5 ?y7_6 ?y7_7 ?y7_8 ?y7_9 ?y7_10 ?y7_11 ?yb7 ?yv7 ?yw7 ?y8_0 ?y8_1 ?y8_2 ?y8_3 ?y8_4 ?y8_5 ?y8_6 ?y8_7 ?y8_8 ?y8_9 ?y8_10 ?y8_11 ?yb8 ?yv8 ?yw8 ?y9_0 ?y9_1 ?y9_2 ?y9_3 ?y9_4 ?y9_5 ?y9_6 ?y9_7 ?y9_8 ?y9_9 ?y9_10 ?y9_11 ?yb9 ?yv9 ?yw9 ?y10_0 ?y10_1 ?y10_2 ?y10_3 ?y10_4 ?y10_5 ?y10_6 ?y10_7 ?y10_8 ?y10_9 ?y10_10 ?y10_11 ?yb10 ?yv10 ?yw10 ?y11_0 ?y11_1 ?y11_2 ?y11_3 ?y11_4 ?y11_5 ?y11_6 ?y11_7 ?y11_8 ?y11_9 ?y11_10 ?y11_11 ?yb11 ?yv11 ?yw11 ?yvb ?xm0 ?xm2 ?xm3
    (case b_len => k_is)
    (case b_abs => k_is)
    (case b_int => k_is)
    (case b_range => k_is)
    (case b_isinstance => k_is)
    (case b_tuple => k_is)
    (case b_list => k_is)
    (case b_all => k_is)
    (case b_zip => k_is)
    (case b_bool => k_is)
    (case b_str => k_is)
    (case b_set => k_is)
    (case b_sorted => k_is)
    (case b_sum => k_is)
    (case b_any => k_is)
    (case b_enumerate => k_is)
    (case b_ve => k_is)
    (case alaw_feed => k_is)
    (case llaw_feed => k_is)
    (case claw_feed => k_is)
    (case klaw_feed => k_is)
    (case alaw_draw => k_is)
    (case llaw_draw => k_is)
    (case claw_draw => k_is)
    (case klaw_draw => k_is)
    (case alaw_pick => k_is)
    (case llaw_pick => k_is)
    (case claw_pick => k_is)
    (case klaw_pick => k_is)
    (case alaw_same => k_is)
    (case llaw_same => k_is)
    (case claw_same => k_is)
    (case klaw_same => k_is)
    (case alaw_word => k_is)
    (case llaw_word => k_is)
    (case claw_word => k_is)
    (case klaw_word => k_is)
    (case alaw_words => k_is)
    (case llaw_words => k_is)
    (case claw_words => k_is)
    (case klaw_words => k_is)
    (case alaw_is_name => k_is)
    (case llaw_is_name => k_is)
    (case claw_is_name => k_is)
    (case klaw_is_name => k_is)
    (case alaw_sign => k_is)
    (case llaw_sign => k_is)
    (case claw_sign => k_is)
    (case klaw_sign => k_is)
    (case alaw_bent => k_is)
    (case llaw_bent => k_is)
    (case claw_bent => k_is)
    (case klaw_bent => k_is)
    (case alaw_near_name => k_is)
    (case llaw_near_name => k_is)
    (case claw_near_name => k_is)
    (case klaw_near_name => k_is)
    (case alaw_any => k_is)
    (case llaw_any => k_is)
    (case claw_any => k_is)
    (case klaw_any => k_is)
    (case alaw_ways => k_is)
    (case llaw_ways => k_is)
    (case claw_ways => k_is)
    (case klaw_ways => k_is)
    (case alaw_refused => k_is)
    (case llaw_refused => k_is)
    (case claw_refused => k_is)
    (case klaw_refused => k_is)
    (case alaw_is => k_is)
    (case llaw_is => k_is)
    (case claw_is => k_is)
    (case klaw_is => k_is)
    (case alaw_power => k_is)
    (case llaw_power => k_is)
    (case claw_power => k_is)
    (case klaw_power => k_is)
    (case alaw_chain => k_is)
    (case llaw_chain => k_is)
    (case claw_chain => k_is)
    (case klaw_chain => k_is)
    (case alaw_told => k_is)
    (case llaw_told => k_is)
    (case claw_told => k_is)
    (case klaw_told => k_is)
    (case alaw_refuses => k_is)
    (case llaw_refuses => k_is)
    (case claw_refuses => k_is)
    (case klaw_refuses => k_is)
    (case alaw_right => k_is)
    (case llaw_right => k_is)
    (case claw_right => k_is)
    (case klaw_right => k_is)
    (case alaw_bad_part => k_is)
    (case llaw_bad_part => k_is)
    (case claw_bad_part => k_is)
    (case klaw_bad_part => k_is)
    (case alaw_put_together => k_is)
    (case llaw_put_together => k_is)
    (case claw_put_together => k_is)
    (case klaw_put_together => k_is)
    (case alaw_steps => k_is)
    (case llaw_steps => k_is)
    (case claw_steps => k_is)
    (case klaw_steps => k_is)
    (case alaw_clashes => k_is)
    (case llaw_clashes => k_is)
    (case claw_clashes => k_is)
    (case klaw_clashes => k_is)
    (case alaw => k_is)
    (case llaw => k_is)
    (case claw => k_is)
    (case klaw => k_is)
    (case ais_name => k_is)
    (case lis_name => k_is)
    (case cis_name => k_is)
    (case kis_name => k_is)
    (case ais_integer => k_is)
    (case lis_integer => k_is)
    (case cis_integer => k_is)
    (case kis_integer => k_is)
    (case anamed => k_is)
    (case lnamed => k_is)
    (case cnamed => k_is)
    (case knamed => k_is)
    (case aapplied => k_is)
    (case lapplied => k_is)
    (case capplied => k_is)
    (case kapplied => k_is)
    (case aas_expr => k_is)
    (case las_expr => k_is)
    (case cas_expr => k_is)
    (case kas_expr => k_is)
    (case apart_expr => k_is)
    (case lpart_expr => k_is)
    (case cpart_expr => k_is)
    (case kpart_expr => k_is)
    (case ajoined => k_is)
    (case ljoined => k_is)
    (case cjoined => k_is)
    (case kjoined => k_is)
    (case arepeated => k_is)
    (case lrepeated => k_is)
    (case crepeated => k_is)
    (case krepeated => k_is)
    (case aare_ways => k_is)
    (case lare_ways => k_is)
    (case care_ways => k_is)
    (case kare_ways => k_is)
    (case aare_steps => k_is)
    (case lare_steps => k_is)
    (case care_steps => k_is)
    (case kare_steps => k_is)
    (case aways_fit => k_is)
    (case lways_fit => k_is)
    (case cways_fit => k_is)
    (case kways_fit => k_is)
    (case aall_names => k_is)
    (case lall_names => k_is)
    (case call_names => k_is)
    (case kall_names => k_is)
    (case eall_names => k_is)
    (case aall_steps => k_is)
    (case lall_steps => k_is)
    (case call_steps => k_is)
    (case kall_steps => k_is)
    (case eall_steps => k_is)
    (case w1 => k_is)
    (case w2 => k_is)
    (case w3 => k_is)
    (case w4 => k_is)
    (case w5 => k_is)
    (case w6 => k_is)
    (case w7 => k_is)
    (case w8 => k_is)
    (case w9 => k_keys)
    (case w10 => decide)
    (case w11 => k_is)
    (case w12 => k_is)
    (case w13 => k_is)
    (case w14 => k_keys)
    (case w15 => decide)
    (case w16 => k_is)
    (case w17 => k_is)
    (case so => k_is)
    (case tk => k_is)
    (case gSa => k_is)
    (case gS1 => k_is)
    (case gS2 => k_is)
    (case gS3 => k_is)
    (case gS4 => k_is)
    (case gS5 => k_is)
    (case gS6 => k_is)
    (case gSk0 => kit_is)
    (case gSk1 => kit_is)
    (case gSk2 => kit_is)
    (case gSk3 => kit_is)
    (case gS7 => k_is)
    (case gS8 => k_is)
    (case aiS => k_is)
    (case niS => k_is)
    (case liS => k_is)
    (case ciS => k_is)
    (case kiS => k_is)
    (case aqS => k_is)
    (case nqS => k_is)
    (case lqS => k_is)
    (case cqS => k_is)
    (case kqS => k_is)
    (case gS_name => k_is)
    (case gS_ways => k_is)
    (case gEa => k_is)
    (case gE1 => k_is)
    (case gE2 => k_is)
    (case gE3 => k_is)
    (case gE4 => k_is)
    (case gE5 => k_is)
    (case gE6 => k_is)
    (case gEk0 => kit_is)
    (case gEk1 => kit_is)
    (case gEk2 => kit_is)
    (case gEk3 => kit_is)
    (case gE7 => k_is)
    (case gE8 => k_is)
    (case aiE => k_is)
    (case niE => k_is)
    (case liE => k_is)
    (case ciE => k_is)
    (case kiE => k_is)
    (case aqE => k_is)
    (case nqE => k_is)
    (case lqE => k_is)
    (case cqE => k_is)
    (case kqE => k_is)
    (case gE_kind => k_is)
    (case gE_word => k_is)
    (case gE_step => k_is)
    (case gE_parts => k_is)
    (case gE_names => k_is)
    (case gE_steps => k_is)
    (case gE_size => k_is)
    (case gE_applied => k_is)
    (case gTa => k_is)
    (case gT1 => k_is)
    (case gT2 => k_is)
    (case gT3 => k_is)
    (case gT4 => k_is)
    (case gT5 => k_is)
    (case gT6 => k_is)
    (case gTk0 => kit_is)
    (case gTk1 => kit_is)
    (case gTk2 => kit_is)
    (case gTk3 => kit_is)
    (case gT7 => k_is)
    (case gT8 => k_is)
    (case aiT => k_is)
    (case niT => k_is)
    (case liT => k_is)
    (case ciT => k_is)
    (case kiT => k_is)
    (case aqT => k_is)
    (case nqT => k_is)
    (case lqT => k_is)
    (case cqT => k_is)
    (case kqT => k_is)
    (case gT_word => k_is)
    (case gT_steps => k_is)
    (case gCa => k_is)
    (case gC1 => k_is)
    (case gC2 => k_is)
    (case gC3 => k_is)
    (case gC4 => k_is)
    (case gC5 => k_is)
    (case gC6 => k_is)
    (case gCk0 => kit_is)
    (case gCk1 => kit_is)
    (case gCk2 => kit_is)
    (case gCk3 => kit_is)
    (case gC7 => k_is)
    (case gC8 => k_is)
    (case aiC => k_is)
    (case niC => k_is)
    (case liC => k_is)
    (case ciC => k_is)
    (case kiC => k_is)
    (case aqC => k_is)
    (case nqC => k_is)
    (case lqC => k_is)
    (case cqC => k_is)
    (case kqC => k_is)
    (case gC_steps => k_is)
    (case alS => k_is)
    (case nlS => k_is)
    (case llS => k_is)
    (case clS => k_is)
    (case klS => k_is)
    (case neS => k_is)
    (case neC => k_is)
    (case hne => decide)
    (case kes => kit_is)
    (case ken => kit_is)
    (case keb => kit_is)
    (case kei => kit_is)
    (case kel => kit_is)
    (case ket => kit_is)
    (case kss => kit_is)
    (case ksn => kit_is)
    (case ksb => kit_is)
    (case ksi => kit_is)
    (case ksl => kit_is)
    (case kst => kit_is)
    (case ktx => kit_is)
    (case kcx => kit_is)
    (case kct => kit_is)
    (case kdS => kit_is)
    (case kdT => kit_is)
    (case kdC => kit_is)
    (case kfE => kit_is)
    (case kfT => kit_is)
    (case kfC => kit_is)
    (case kSC => kit_is)
    (case amS => k_is)
    (case nmS => k_is)
    (case lmS => k_is)
    (case cmS => k_is)
    (case kmS => k_is)
    (case apS => k_is)
    (case npS => k_is)
    (case lpS => k_is)
    (case cpS => k_is)
    (case kpS => k_is)
    (case amC => k_is)
    (case nmC => k_is)
    (case lmC => k_is)
    (case cmC => k_is)
    (case kmC => k_is)
    (case apC => k_is)
    (case npC => k_is)
    (case lpC => k_is)
    (case cpC => k_is)
    (case kpC => k_is)
    (case alC => k_is)
    (case nlC => k_is)
    (case llC => k_is)
    (case clC => k_is)
    (case klC => k_is)
    (case asC => k_is)
    (case nsC => k_is)
    (case lsC => k_is)
    (case csC => k_is)
    (case ksC => k_is)
    (case acC => k_is)
    (case ncC => k_is)
    (case lcC => k_is)
    (case ccC => k_is)
    (case kcC => k_is)
    (case sfS => k_is)
    (case rmS => k_is)
    (case rpS => k_is)
    (case sfC => k_is)
    (case rmC => k_is)
    (case rpC => k_is)
    (case icC => k_is)
    (case nSC => decide)
    (case nCS => decide)
    (case uCS => k_is)
    (case uSC => k_is)
    (case uiS => k_is)
    (case uiC => k_is)
    (case ip1 => k_is)
    (case ip2 => k_is)
    (case gx0a => k_is)
    (case gx0_c => k_is)
    (case gx0_r => decide +kernel)
    (case gx0_1 => k_is)
    (case gx0_2 => k_is)
    (case gx0_3 => k_is)
    (case gx0_4 => k_is)
    (case gx0_5 => k_is)
    (case gx0_6 => k_is)
    (case gx0_7 => k_is)
    (case gx0_8 => k_is)
    (case gx0_9 => k_is)
    (case ax0 => k_is)
    (case tx0 => k_is)
    (case lx0 => k_is)
    (case cx0 => k_is)
    (case kx0 => k_is)
    (case nx0 => k_is)
    (case gx1a => k_is)
    (case gx1_c => k_is)
    (case gx1_r => decide +kernel)
    (case gx1_1 => k_is)
    (case gx1_2 => k_is)
    (case gx1_3 => k_is)
    (case gx1_4 => k_is)
    (case gx1_5 => k_is)
    (case gx1_6 => k_is)
    (case gx1_7 => k_is)
    (case gx1_8 => k_is)
    (case gx1_9 => k_is)
    (case ax1 => k_is)
    (case tx1 => k_is)
    (case lx1 => k_is)
    (case cx1 => k_is)
    (case kx1 => k_is)
    (case nx1 => k_is)
    (case gx2a => k_is)
    (case gx2_c => k_is)
    (case gx2_r => decide +kernel)
    (case gx2_1 => k_is)
    (case gx2_2 => k_is)
    (case gx2_3 => k_is)
    (case gx2_4 => k_is)
    (case gx2_5 => k_is)
    (case gx2_6 => k_is)
    (case gx2_7 => k_is)
    (case gx2_8 => k_is)
    (case gx2_9 => k_is)
    (case ax2 => k_is)
    (case tx2 => k_is)
    (case lx2 => k_is)
    (case cx2 => k_is)
    (case kx2 => k_is)
    (case nx2 => k_is)
    (case gx3a => k_is)
    (case gx3_c => k_is)
    (case gx3_r => decide +kernel)
    (case gx3_1 => k_is)
    (case gx3_2 => k_is)
    (case gx3_3 => k_is)
    (case gx3_4 => k_is)
    (case gx3_5 => k_is)
    (case gx3_6 => k_is)
    (case gx3_7 => k_is)
    (case gx3_8 => k_is)
    (case gx3_9 => k_is)
    (case ax3 => k_is)
    (case tx3 => k_is)
    (case lx3 => k_is)
    (case cx3 => k_is)
    (case kx3 => k_is)
    (case nx3 => k_is)
    (case gx4a => k_is)
    (case gx4_c => k_is)
    (case gx4_r => decide +kernel)
    (case gx4_1 => k_is)
    (case gx4_2 => k_is)
    (case gx4_3 => k_is)
    (case gx4_4 => k_is)
    (case gx4_5 => k_is)
    (case gx4_6 => k_is)
    (case gx4_7 => k_is)
    (case gx4_8 => k_is)
    (case gx4_9 => k_is)
    (case ax4 => k_is)
    (case tx4 => k_is)
    (case lx4 => k_is)
    (case cx4 => k_is)
    (case kx4 => k_is)
    (case nx4 => k_is)
    (case gx5a => k_is)
    (case gx5_c => k_is)
    (case gx5_r => decide +kernel)
    (case gx5_1 => k_is)
    (case gx5_2 => k_is)
    (case gx5_3 => k_is)
    (case gx5_4 => k_is)
    (case gx5_5 => k_is)
    (case gx5_6 => k_is)
    (case gx5_7 => k_is)
    (case gx5_8 => k_is)
    (case gx5_9 => k_is)
    (case ax5 => k_is)
    (case tx5 => k_is)
    (case lx5 => k_is)
    (case cx5 => k_is)
    (case kx5 => k_is)
    (case nx5 => k_is)
    (case gx6a => k_is)
    (case gx6_c => k_is)
    (case gx6_r => decide +kernel)
    (case gx6_1 => k_is)
    (case gx6_2 => k_is)
    (case gx6_3 => k_is)
    (case gx6_4 => k_is)
    (case gx6_5 => k_is)
    (case gx6_6 => k_is)
    (case gx6_7 => k_is)
    (case gx6_8 => k_is)
    (case gx6_9 => k_is)
    (case ax6 => k_is)
    (case tx6 => k_is)
    (case lx6 => k_is)
    (case cx6 => k_is)
    (case kx6 => k_is)
    (case nx6 => k_is)
    (case gx7a => k_is)
    (case gx7_c => k_is)
    (case gx7_r => decide +kernel)
    (case gx7_1 => k_is)
    (case gx7_2 => k_is)
    (case gx7_3 => k_is)
    (case gx7_4 => k_is)
    (case gx7_5 => k_is)
    (case gx7_6 => k_is)
    (case gx7_7 => k_is)
    (case gx7_8 => k_is)
    (case gx7_9 => k_is)
    (case ax7 => k_is)
    (case tx7 => k_is)
    (case lx7 => k_is)
    (case cx7 => k_is)
    (case kx7 => k_is)
    (case nx7 => k_is)
    (case gx8a => k_is)
    (case gx8_c => k_is)
    (case gx8_r => decide +kernel)
    (case gx8_1 => k_is)
    (case gx8_2 => k_is)
    (case gx8_3 => k_is)
    (case gx8_4 => k_is)
    (case gx8_5 => k_is)
    (case gx8_6 => k_is)
    (case gx8_7 => k_is)
    (case gx8_8 => k_is)
    (case gx8_9 => k_is)
    (case ax8 => k_is)
    (case tx8 => k_is)
    (case lx8 => k_is)
    (case cx8 => k_is)
    (case kx8 => k_is)
    (case nx8 => k_is)
    (case gx9a => k_is)
    (case gx9_c => k_is)
    (case gx9_r => decide +kernel)
    (case gx9_1 => k_is)
    (case gx9_2 => k_is)
    (case gx9_3 => k_is)
    (case gx9_4 => k_is)
    (case gx9_5 => k_is)
    (case gx9_6 => k_is)
    (case gx9_7 => k_is)
    (case gx9_8 => k_is)
    (case gx9_9 => k_is)
    (case ax9 => k_is)
    (case tx9 => k_is)
    (case lx9 => k_is)
    (case cx9 => k_is)
    (case kx9 => k_is)
    (case nx9 => k_is)
    (case gx10a => k_is)
    (case gx10_c => k_is)
    (case gx10_r => decide +kernel)
    (case gx10_1 => k_is)
    (case gx10_2 => k_is)
    (case gx10_3 => k_is)
    (case gx10_4 => k_is)
    (case gx10_5 => k_is)
    (case gx10_6 => k_is)
    (case gx10_7 => k_is)
    (case gx10_8 => k_is)
    (case gx10_9 => k_is)
    (case ax10 => k_is)
    (case tx10 => k_is)
    (case lx10 => k_is)
    (case cx10 => k_is)
    (case kx10 => k_is)
    (case nx10 => k_is)
    (case gx11a => k_is)
    (case gx11_c => k_is)
    (case gx11_r => decide +kernel)
    (case gx11_1 => k_is)
    (case gx11_2 => k_is)
    (case gx11_3 => k_is)
    (case gx11_4 => k_is)
    (case gx11_5 => k_is)
    (case gx11_6 => k_is)
    (case gx11_7 => k_is)
    (case gx11_8 => k_is)
    (case gx11_9 => k_is)
    (case ax11 => k_is)
    (case gx12a => k_is)
    (case gx12_c => k_is)
    (case gx12_r => decide +kernel)
    (case gx12_1 => k_is)
    (case gx12_2 => k_is)
    (case gx12_3 => k_is)
    (case gx12_4 => k_is)
    (case gx12_5 => k_is)
    (case gx12_6 => k_is)
    (case gx12_7 => k_is)
    (case gx12_8 => k_is)
    (case gx12_9 => k_is)
    (case ax12 => k_is)
    (case y0_0 => kit_is)
    (case y0_1 => kit_is)
    (case y0_2 => kit_is)
    (case y0_3 => kit_is)
    (case y0_4 => kit_is)
    (case y0_5 => kit_is)
    (case y0_6 => kit_is)
    (case y0_7 => kit_is)
    (case y0_8 => kit_is)
    (case y0_9 => kit_is)
    (case y0_10 => kit_is)
    (case y0_11 => kit_is)
    (case yb0 => kit_is)
    (case yv0 => kit_is)
    (case yw0 => kit_is)
    (case y1_0 => kit_is)
    (case y1_1 => kit_is)
    (case y1_2 => kit_is)
    (case y1_3 => kit_is)
    (case y1_4 => kit_is)
    (case y1_5 => kit_is)
    (case y1_6 => kit_is)
    (case y1_7 => kit_is)
    (case y1_8 => kit_is)
    (case y1_9 => kit_is)
    (case y1_10 => kit_is)
    (case y1_11 => kit_is)
    (case yb1 => kit_is)
    (case yv1 => kit_is)
    (case yw1 => kit_is)
    (case y2_0 => kit_is)
    (case y2_1 => kit_is)
    (case y2_2 => kit_is)
    (case y2_3 => kit_is)
    (case y2_4 => kit_is)
    (case y2_5 => kit_is)
    (case y2_6 => kit_is)
    (case y2_7 => kit_is)
    (case y2_8 => kit_is)
    (case y2_9 => kit_is)
    (case y2_10 => kit_is)
    (case y2_11 => kit_is)
    (case yb2 => kit_is)
    (case yv2 => kit_is)
    (case yw2 => kit_is)
    (case y3_0 => kit_is)
    (case y3_1 => kit_is)
    (case y3_2 => kit_is)
    (case y3_3 => kit_is)
    (case y3_4 => kit_is)
    (case y3_5 => kit_is)
    (case y3_6 => kit_is)
    (case y3_7 => kit_is)
    (case y3_8 => kit_is)
    (case y3_9 => kit_is)
    (case y3_10 => kit_is)
    (case y3_11 => kit_is)
    (case yb3 => kit_is)
    (case yv3 => kit_is)
    (case yw3 => kit_is)
    (case y4_0 => kit_is)
    (case y4_1 => kit_is)
    (case y4_2 => kit_is)
    (case y4_3 => kit_is)
    (case y4_4 => kit_is)
    (case y4_5 => kit_is)
    (case y4_6 => kit_is)
    (case y4_7 => kit_is)
    (case y4_8 => kit_is)
    (case y4_9 => kit_is)
    (case y4_10 => kit_is)
    (case y4_11 => kit_is)
    (case yb4 => kit_is)
    (case yv4 => kit_is)
    (case yw4 => kit_is)
    (case y5_0 => kit_is)
    (case y5_1 => kit_is)
    (case y5_2 => kit_is)
    (case y5_3 => kit_is)
    (case y5_4 => kit_is)
    (case y5_5 => kit_is)
    (case y5_6 => kit_is)
    (case y5_7 => kit_is)
    (case y5_8 => kit_is)
    (case y5_9 => kit_is)
    (case y5_10 => kit_is)
    (case y5_11 => kit_is)
    (case yb5 => kit_is)
    (case yv5 => kit_is)
    (case yw5 => kit_is)
    (case y6_0 => kit_is)
    (case y6_1 => kit_is)
    (case y6_2 => kit_is)
    (case y6_3 => kit_is)
    (case y6_4 => kit_is)
    (case y6_5 => kit_is)
    (case y6_6 => kit_is)
    (case y6_7 => kit_is)
    (case y6_8 => kit_is)
    (case y6_9 => kit_is)
    (case y6_10 => kit_is)
    (case y6_11 => kit_is)
    (case yb6 => kit_is)
    (case yv6 => kit_is)
    (case yw6 => kit_is)
    (case y7_0 => kit_is)
    (case y7_1 => kit_is)
    (case y7_2 => kit_is)
    (case y7_3 => kit_is)
    (case y7_4 => kit_is)
    (case y7_5 => kit_is)
    (case y7_6 => kit_is)
    (case y7_7 => kit_is)
    (case y7_8 => kit_is)
    (case y7_9 => kit_is)
    (case y7_10 => kit_is)
    (case y7_11 => kit_is)
    (case yb7 => kit_is)
    (case yv7 => kit_is)
    (case yw7 => kit_is)
    (case y8_0 => kit_is)
    (case y8_1 => kit_is)
    (case y8_2 => kit_is)
    (case y8_3 => kit_is)
    (case y8_4 => kit_is)
    (case y8_5 => kit_is)
    (case y8_6 => kit_is)
    (case y8_7 => kit_is)
    (case y8_8 => kit_is)
    (case y8_9 => kit_is)
    (case y8_10 => kit_is)
    (case y8_11 => kit_is)
    (case yb8 => kit_is)
    (case yv8 => kit_is)
    (case yw8 => kit_is)
    (case y9_0 => kit_is)
    (case y9_1 => kit_is)
    (case y9_2 => kit_is)
    (case y9_3 => kit_is)
    (case y9_4 => kit_is)
    (case y9_5 => kit_is)
    (case y9_6 => kit_is)
    (case y9_7 => kit_is)
    (case y9_8 => kit_is)
    (case y9_9 => kit_is)
    (case y9_10 => kit_is)
    (case y9_11 => kit_is)
    (case yb9 => kit_is)
    (case yv9 => kit_is)
    (case yw9 => kit_is)
    (case y10_0 => kit_is)
    (case y10_1 => kit_is)
    (case y10_2 => kit_is)
    (case y10_3 => kit_is)
    (case y10_4 => kit_is)
    (case y10_5 => kit_is)
    (case y10_6 => kit_is)
    (case y10_7 => kit_is)
    (case y10_8 => kit_is)
    (case y10_9 => kit_is)
    (case y10_10 => kit_is)
    (case y10_11 => kit_is)
    (case yb10 => kit_is)
    (case yv10 => kit_is)
    (case yw10 => kit_is)
    (case y11_0 => kit_is)
    (case y11_1 => kit_is)
    (case y11_2 => kit_is)
    (case y11_3 => kit_is)
    (case y11_4 => kit_is)
    (case y11_5 => kit_is)
    (case y11_6 => kit_is)
    (case y11_7 => kit_is)
    (case y11_8 => kit_is)
    (case y11_9 => kit_is)
    (case y11_10 => kit_is)
    (case y11_11 => kit_is)
    (case yb11 => kit_is)
    (case yv11 => kit_is)
    (case yw11 => kit_is)
    (case yvb => kit_is)
    (case xm0 => kts_exm)
    (case xm2 => kts_exm)
    (case xm3 => kts_exm)
