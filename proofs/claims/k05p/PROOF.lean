import PyProof.Rows.All
import Wide.All
import OpenK.AllK
import Wide.FinOn
import HandS.Base
import HandS.Call
import HandS.List
import HandS.Comp
import HandS.Ends
import HandS.Dict
import HandS.Iter
import HandS.Text
import HandS.Words
import HandS.WordsList
import HandS.Conv
import HandS.ForMost
import HandS.OwnEq
import HandS.Star
import HandS.IsInst
import HandS.More
import HandS.ExcInit
import HandS.ExcField
import HandS.ExcIs
import KE.KExcIs
import KE.KExcMake
import HandS.Set
import HandS.SetFor
import HandS.Strs
import HandS.Zip
import HandS.TupAny
import HandS.DictComp
import HandS.Sort
import HandS.Defaults
import HandS.Style
import PyProof.EnumIter
import HandS.Hot
import HandS.HotCalls
import HandS.WordsExc
import HandS.ExcCtx
import KE.KCallOwn
import PyProof.InstEq
import HandS.ListEq
import HandS.ExcOwn
import PyProof.CollectStr
import KE.KDictList
import PyProof.EqKinds
import KE.RegKIsAll
import KE.RegKTryMore
import PySem.Challenge.RW_knownways_k05_traits_of_steps
set_option Elab.async false
set_option linter.all false
set_option maxRecDepth 100000
set_option maxHeartbeats 4000000
namespace LK
open PySem PySem.Spec PyProof.Rows L2
def top (i : Nat) : Stmt := PySem.Challenge.pw_knownways_k05_traits_of_steps.main.body.getD i (.Pass ⟨0, 0, 0, 0⟩)
abbrev sAllNames : Stmt := top 15
abbrev sAllSteps : Stmt := top 16
abbrev sIsName : Stmt := top 21
abbrev sExprInit : Stmt := inClass (top 24) 0
abbrev sExprEq : Stmt := inClass (top 24) 6
abbrev sNamed : Stmt := top 25
abbrev sStepInit : Stmt := inClass (top 35) 0
abbrev sStepLen : Stmt := inClass (top 35) 4
abbrev sStepEq : Stmt := inClass (top 35) 5
abbrev sChainInit : Stmt := inClass (top 36) 0
abbrev sChainEq : Stmt := inClass (top 36) 5
abbrev sAreWays : Stmt := top 37
abbrev sTraitInit : Stmt := inClass (top 43) 0
abbrev sTraitEq : Stmt := inClass (top 43) 1
abbrev sAreSteps : Stmt := top 44
abbrev sWaysFit : Stmt := top 45
abbrev sFeed : Stmt := top 47
abbrev sDraw : Stmt := top 48
abbrev sPick : Stmt := top 49
abbrev sSame : Stmt := top 50
abbrev sWord : Stmt := top 51
abbrev sSign : Stmt := top 53
abbrev sBent : Stmt := top 54
abbrev sNear : Stmt := top 55
abbrev sAny : Stmt := top 56
abbrev sWays : Stmt := top 57
abbrev sRefused : Stmt := top 58
abbrev sWords : Stmt := top 52
abbrev sFits : Stmt := top 59
abbrev sPoolSteps : Stmt := top 60
abbrev sPoolTraits : Stmt := top 61
abbrev sTrait : Stmt := top 62
abbrev sTold : Stmt := top 63
abbrev sDue : Stmt := top 64
abbrev sRight : Stmt := top 65
abbrev sStepStr : Stmt := inClass (top 35) 6
abbrev sLaw : Stmt := top 66
/-- the built-ins that stand -/
structure Std (mg : Str → Option Value) : Prop where
  len : mg "len" = none
  abs : mg "abs" = none
  int : mg "int" = none
  range : mg "range" = none
  isi : mg "isinstance" = none
  tuple : mg "tuple" = none
  list : mg "list" = none
  all : mg "all" = none
  zip : mg "zip" = none
  bool : mg "bool" = none
  str : mg "str" = none
  set : mg "set" = none
  sorted : mg "sorted" = none
  sum : mg "sum" = none
  any : mg "any" = none
  enumerate : mg "enumerate" = none
/-- a def of the text, as its callers see it -/
structure Df (K : PySem.W.Frag) (mg : Str → Option Value) (x : Str) (st : Stmt) (f : Addr) (fd : FuncData) (ps : List Str) : Prop where
  F : Fun K x x st f fd
  b : Binds K fd ps []
  g : mg x = some (.ref f)
/-- all but l stands -/
def Keep (l : Addr) (H H' : Hp) : Prop := ∀ b o, b ≠ l → H b = some o → H' b = some o
theorem Keep.refl {l : Addr} {H : Hp} : Keep l H H := fun _ _ _ e => e
theorem Keep.trans {l : Addr} {H H1 H2 : Hp} (a : Keep l H H1) (b : Keep l H1 H2) : Keep l H H2 := fun c o n e => b c o n (a c o n e)
theorem Keep.same {l : Addr} {H H1 : Hp} (a : Same H H1) : Keep l H H1 := fun c o n e => a c o e
theorem Keep.put {l : Addr} {H : Hp} {o : HO} : Keep l H (upd H l o) := fun c u n e => by rw [upd_ne n]; exact e
theorem same_new {H : Hp} {p : Addr} {o : HO} (h : H p = none) : Same H (upd H p o) := fun c u e => by rw [upd_ne (ne_of_none e h)]; exact e
theorem Keep.new {l : Addr} {H : Hp} {p : Addr} {o : HO} (h : H p = none) : Keep l H (upd H p o) := Keep.same (same_new h)
/-- the feed of draws at l -/
def Feed (H : Hp) (l : Addr) : Prop := ∃ a b : Int, H l = some (.lst [.int a, .int b]) ∧ 0 ≤ a ∧ 0 ≤ b
theorem Feed.keep {l m : Addr} {H H' : Hp} (h : Feed H l) (k : Keep m H H') (n : l ≠ m) : Feed H' l := by
  obtain ⟨a, b, e, h0, h1⟩ := h
  exact ⟨a, b, k _ _ n e, h0, h1⟩
theorem Feed.same {l : Addr} {H H' : Hp} (h : Feed H l) (k : Same H H') : Feed H' l := by
  obtain ⟨a, b, e, h0, h1⟩ := h
  exact ⟨a, b, k _ _ e, h0, h1⟩
theorem Feed.ne {l d : Addr} {H : Hp} (h : Feed H l) (e : H d = none) : l ≠ d := by
  obtain ⟨a, b, q, _⟩ := h
  exact ne_of_none q e
def spFeed (K : PySem.W.Frag) : Sp := fun vs H Q _ => ∃ (a : Addr) (ns : List Int) (k : Nat), vs = [.ref a, .int k] ∧ SqL K H a (ns.map V.int) ∧
  ∀ l H', H l = none → Feed H' l → Same H H' → Q (.ref l) H'
def spDraw : Sp := fun vs H Q _ => ∃ (l : Addr) (m : Int), vs = [.ref l, .int m] ∧ Feed H l ∧ 1 ≤ m ∧ m < 1073741824 ∧
  ∀ d H', 0 ≤ d → d < m → Feed H' l → Keep l H H' → Q (.int d) H'
section
variable {P : Program} {w : World} {K : PySem.W.Frag} {mg : Str → Option Value} {base : Heap}
theorem scFeed : FnScope ["_law_script", "_law_k", "_law_cell"] ["_law_script", "_law_k"] (defScope sFeed) := ⟨rfl, rfl, rfl, by decide +kernel, rfl, by decide +kernel, by decide +kernel⟩
theorem item_int {ns : List Int} {j : Nat} (h : j < ns.length) : (ns.map V.int)[j]? = some (V.int ns[j]) := by
  rw [List.getElem?_map, List.getElem?_eq_getElem h]
  rfl
theorem ok_feed {f : Addr} {fd : FuncData} (S : Std mg) (F : Fun K "_law_feed" "_law_feed" sFeed f fd) : FnOk P w K mg base CX0 1 f fd ["_law_script", "_law_k"] (spFeed K) := by
  refine F.ok scFeed (fun vs H Q E h => ?_) (fun cdv A outer s H vs Q E hr h => ?_)
  · obtain ⟨a, ns, k, rfl, _⟩ := h
    rfl
  · obtain ⟨a, ns, k, rfl, hS, q⟩ := h
    refine ⟨_, pss_cons (ps_set (i := 2) scFeed.nd rfl (Or.inl rfl) (pe_op op_add (pe_op op_mul pe_int (pv 1)) pe_int))
      (pss_cons (ps_if (pt_cmpR op_lt (pv 1) (pe_callB call_len_seq (by rfl) S.len PySem.boot_len (pa_cons (pv 0) pa_nil)) (nomark _))
          (pss_one (ps_set (i := 2) scFeed.nd rfl (Or.inl rfl) (pe_ix ix_list (pv 0) (pv 1) (fun _ _ => rfl))))
          (pss_one (ps_if (pt_cmpR op_gt (pe_callB call_len_seq (by rfl) S.len PySem.boot_len (pa_cons (pv 0) pa_nil)) pe_int (nomark _))
            (pss_one (ps_set (i := 2) scFeed.nd rfl (Or.inl rfl) (pe_op op_add (pv 2) (pe_op op_mul (pe_op op_mod (pe_callB call_abs (by rfl) S.abs (by decide +kernel) (pa_cons
              (pe_ix ix_list (pv 0) (pe_op op_mod (pe_callTy call_int1 (by rfl) S.int (by decide +kernel) (pa_cons (pv 1) pa_nil)) (pe_callB call_len_seq (by rfl) S.len PySem.boot_len (pa_cons (pv 0) pa_nil))) (fun _ _ => rfl)) pa_nil)) pe_int) pe_int))))
            pss_nil)))
      (pss_cons (ps_if (pt_cmpR op_lt (pv 2) pe_int (nomark _)) (pss_one (ps_set (i := 2) scFeed.nd rfl (Or.inl rfl) (pe_op op_sub pe_int (pe_op op_mul pe_int (pv 2))))) pss_nil)
      (pss_one (ps_ret (pe_lst (pa_cons (pe_ifExp (pt_cmpR op_ge (pv 2) (pe_op op_pow pe_int pe_int) (nomark _)) (pv 2) pe_int)
        (pa_cons (pe_op op_add (pe_op op_add (pe_op op_mod (pe_callTy call_int1 (by rfl) S.int (by decide +kernel) (pa_cons (pv 2) pa_nil)) pe_int) (pe_op op_mul pe_int (pv 1))) pe_int) pa_nil))))))), ?_⟩
    -- the end, from any value of the cell
    have fin : ∀ c : Int, 0 ≤ c → (tRet (tLst (tCons (tIf (tTest (tOp (rI0 fun i j => .bl (decide (j ≤ i))) (tVar 2) (tOp (rI CPow fun i j => .int (i ^ j.toNat)) (tC (.int 10)) (tC (.int 18))))) (tVar 2) (tC (.int 0)))
        (tCons (tOp (rI0 fun i j => .int (i + j)) (tOp (rI0 fun i j => .int (i + j)) (tOp (rI (fun _ j => 0 < j) fun i j => .int (i % j)) (tCB (fun xs H Q => (∃ i, xs = [.int i] ∧ Q (.int i) H) ∨ ∃ k, xs = [.bl k] ∧ Q (.int (if k then 1 else 0)) H) (tCons (tVar 2) tNil)) (tC (.int 1000003))) (tOp (rI CMul fun i j => .int (i * j)) (tC (.int 13)) (tVar 1))) (tC (.int 1))) tNil))))
        { nx := fun _ H' => Q .non H', rt := Q } [some (.ref a), some (.int k), some (.int c)] H := by
      intro c hc
      have stp : ∀ x : Int, 0 ≤ x → ∀ p, H p = none → Q (.ref p) (upd H p (.lst [.int x, .int (c % 1000003 + 13 * k + 1)])) := fun x hx p hp =>
        q p _ hp ⟨x, _, upd_same, hx, by omega⟩ (same_new hp)
      refine ⟨_, rfl, _, _, rfl, rfl, ⟨by decide, by decide, by decide⟩, _, _, rfl, rfl, _, rfl, ite2 (fun h1 => ?_) (fun h1 => ?_)⟩
      · refine ⟨_, rfl, _, rfl, .inl ⟨_, rfl, _, _, rfl, rfl, (by show (0 : Int) < 1000003; decide), _, rfl, _, _, rfl, rfl, .inl ⟨by decide, by decide⟩, _, _, rfl, rfl, _, _, rfl, rfl, (by show 2 ≤ sizeLine; decide), stp c hc⟩⟩
      · refine ⟨_, rfl, .inl ⟨_, rfl, _, _, rfl, rfl, (by show (0 : Int) < 1000003; decide), _, rfl, _, _, rfl, rfl, .inl ⟨by decide, by decide⟩, _, _, rfl, rfl, _, _, rfl, rfl, (by show 2 ≤ sizeLine; decide), stp 0 (Int.le_refl 0)⟩⟩
    have neg : ∀ c : Int, tSeq (tIfS (tTest (tOp (rI0 fun i j => .bl (decide (i < j))) (tVar 2) (tC (.int 0)))) (tAsg (tOp (rI0 fun i j => .int (i - j)) (tC (.int 3)) (tOp (rI CMul fun i j => .int (i * j)) (tC (.int 5)) (tVar 2))) (gName 2)) tNext) (tRet (tLst (tCons (tIf (tTest (tOp (rI0 fun i j => .bl (decide (j ≤ i))) (tVar 2) (tOp (rI CPow fun i j => .int (i ^ j.toNat)) (tC (.int 10)) (tC (.int 18))))) (tVar 2) (tC (.int 0)))
        (tCons (tOp (rI0 fun i j => .int (i + j)) (tOp (rI0 fun i j => .int (i + j)) (tOp (rI (fun _ j => 0 < j) fun i j => .int (i % j)) (tCB (fun xs H Q => (∃ i, xs = [.int i] ∧ Q (.int i) H) ∨ ∃ k, xs = [.bl k] ∧ Q (.int (if k then 1 else 0)) H) (tCons (tVar 2) tNil)) (tC (.int 1000003))) (tOp (rI CMul fun i j => .int (i * j)) (tC (.int 13)) (tVar 1))) (tC (.int 1))) tNil))))
        { nx := fun _ H' => Q .non H', rt := Q } [some (.ref a), some (.int k), some (.int c)] H := by
      intro c
      refine ⟨_, rfl, _, _, rfl, rfl, _, rfl, ite2 (fun h1 => ?_) (fun h1 => ?_)⟩
      · have h2 : c < 0 := of_decide_eq_true h1
        exact ⟨_, rfl, _, _, rfl, rfl, .inl ⟨by decide, by decide⟩, _, _, rfl, rfl, fin (3 - 5 * c) (by omega)⟩
      · have h2 : ¬ c < 0 := fun e => h1 (decide_eq_true e)
        exact fin c (by omega)
    refine ⟨_, rfl, _, _, rfl, rfl, .inl ⟨by decide, by decide⟩, _, _, rfl, rfl, ?_⟩
    refine ⟨_, rfl, _, rfl, a, _, rfl, .inl hS, _, _, rfl, rfl, _, rfl, ite2 (fun h1 => ?_) (fun h1 => ?_)⟩
    · have h2 : (k : Int) < ((ns.map V.int).length : Nat) := of_decide_eq_true h1
      have h3 : k < ns.length := by rw [List.length_map] at h2; omega
      exact ⟨_, rfl, _, rfl, a, _, _, _, rfl, rfl, hS, atI_nat (item_int h3), neg _⟩
    · refine ⟨_, rfl, a, _, rfl, .inl hS, _, _, rfl, rfl, _, rfl, ite2 (fun h2 => ?_) (fun h2 => ?_)⟩
      · have h3 : (0 : Int) < ((ns.map V.int).length : Nat) := of_decide_eq_true h2
        have h4 : 0 < ns.length := by rw [List.length_map] at h3; omega
        obtain ⟨j, ej, hj⟩ : ∃ j : Nat, (k : Int) % ((ns.map V.int).length : Nat) = (j : Int) ∧ j < ns.length := by
          have e1 := Int.emod_nonneg (k : Int) (b := ((ns.map V.int).length : Nat)) (by omega)
          have e2 := Int.emod_lt_of_pos (k : Int) h3
          refine ⟨((k : Int) % ((ns.map V.int).length : Nat)).toNat, by omega, ?_⟩
          have e3 : (ns.map V.int).length = ns.length := List.length_map ..
          omega
        refine ⟨_, rfl, _, rfl, _, rfl, .inl ⟨_, rfl, _, rfl, a, _, rfl, .inl hS, _, _, rfl, rfl, h3, a, _, _, _, rfl, rfl, hS, at_of ej (item_int hj), ?_⟩⟩
        exact ⟨_, rfl, _, _, rfl, rfl, (by show (0 : Int) < 1000003; decide), _, _, rfl, rfl, .inr ⟨by decide, by decide⟩, _, _, rfl, rfl, neg _⟩
      · exact neg _
end
end LK

namespace LK
open PySem PySem.Spec PyProof.Rows L2
def spPick (K : PySem.W.Frag) : Sp := fun vs H Q _ => ∃ (l : Addr) (x : V) (P : V → Prop), vs = [.ref l, x] ∧ Feed H l ∧
  ((∃ z : Str, x = .str z ∧ 0 < z.length ∧ z.length ≤ 1000 ∧ ∀ c, c ∈ z.cps.toList → P (.str ⟨#[c]⟩)) ∨ (∃ (a : Addr) (xs : List V), x = .ref a ∧ a ≠ l ∧ SqL K H a xs ∧ 0 < xs.length ∧ xs.length ≤ 1000 ∧ ∀ v, v ∈ xs → P v)) ∧
  ∀ v H', P v → Feed H' l → Keep l H H' → Q v H'
section
variable {P : Program} {w : World} {K : PySem.W.Frag} {mg : Str → Option Value} {base : Heap}
theorem scDraw : FnScope ["_law_feed_here", "_law_many", "_law_digit"] ["_law_feed_here", "_law_many"] (defScope sDraw) := ⟨rfl, rfl, rfl, by decide +kernel, rfl, by decide +kernel, by decide +kernel⟩
theorem ok_draw {f : Addr} {fd : FuncData} (S : Std mg) (F : Fun K "_law_draw" "_law_draw" sDraw f fd) : FnOk P w K mg base CX0 1 f fd ["_law_feed_here", "_law_many"] spDraw := by
  refine F.ok scDraw (fun vs H Q E h => ?_) (fun cdv A outer s H vs Q E hr h => ?_)
  · obtain ⟨l, m, rfl, _⟩ := h
    rfl
  · obtain ⟨l, m, rfl, ⟨a, b, hl, ha, hb⟩, h1, h2, q⟩ := h
    refine ⟨_, pss_cons (ps_if (pt_cmpR op_gt (pe_ix ix_list (pv 0) pe_int (fun _ _ => rfl)) pe_int (nomark _))
        (pss_cons (ps_set (i := 2) scDraw.nd rfl (Or.inl rfl) (pe_op op_mod (pe_callTy call_int1 (by rfl) S.int (by decide +kernel) (pa_cons (pe_ix ix_list (pv 0) pe_int (fun _ _ => rfl)) pa_nil)) (pv 1)))
        (pss_cons (ps_asg (pe_op op_fdiv (pe_ix ix_list (pv 0) pe_int (fun _ _ => rfl)) (pv 1)) (pg_sub (pv 0) pe_int set_list))
        (pss_one (ps_ret (pv 2))))) pss_nil)
      (pss_cons (ps_asg (pe_op op_mod (pe_callTy call_int1 (by rfl) S.int (by decide +kernel) (pa_cons (pe_op op_add (pe_op op_mul (pe_ix ix_list (pv 0) pe_int (fun _ _ => rfl)) pe_int) pe_int) pa_nil)) pe_int) (pg_sub (pv 0) pe_int set_list))
      (pss_one (ps_ret (pe_op op_mod (pe_callTy call_int1 (by rfl) S.int (by decide +kernel) (pa_cons (pe_op op_fdiv (pe_ix ix_list (pv 0) pe_int (fun _ _ => rfl)) pe_int) pa_nil)) (pv 1))))), ?_⟩
    have hS : SqL K H l [.int a, .int b] := SqL.of hl
    refine ⟨_, rfl, l, _, _, _, rfl, rfl, hS, rfl, _, _, rfl, rfl, _, rfl, ite2 (fun c => ?_) (fun c => ?_)⟩
    · refine ⟨_, rfl, l, _, _, _, rfl, rfl, hS, rfl, .inl ⟨_, rfl, _, rfl, _, _, rfl, rfl, (by show 0 < m; omega), ?_⟩⟩
      refine ⟨_, rfl, l, _, _, _, rfl, rfl, hS, rfl, _, rfl, _, _, rfl, rfl, ⟨by omega, h2⟩, _, rfl, l, _, _, 0, rfl, rfl, hl, rfl, _, rfl, ?_⟩
      exact q _ _ (Int.emod_nonneg _ (by omega)) (Int.emod_lt_of_pos _ (by omega)) ⟨_, _, upd_same, Int.ediv_nonneg ha (by omega), hb⟩ Keep.put
    · refine ⟨_, rfl, l, _, _, _, rfl, rfl, hS, rfl, _, _, rfl, rfl, .inr ⟨by decide, by decide⟩, _, _, rfl, rfl, .inl ⟨_, rfl, _, _, rfl, rfl, (by show (0 : Int) < 2147483647; decide), _, rfl, l, _, _, 1, rfl, rfl, hl, rfl, ?_⟩⟩
      refine ⟨_, rfl, l, _, _, _, rfl, rfl, SqL.of upd_same, rfl, _, _, rfl, rfl, ⟨by decide, by decide⟩, .inl ⟨_, rfl, _, rfl, _, _, rfl, rfl, (by show 0 < m; omega), ?_⟩⟩
      exact q _ _ (Int.emod_nonneg _ (by omega)) (Int.emod_lt_of_pos _ (by omega)) ⟨_, _, upd_same, ha, Int.emod_nonneg _ (by decide)⟩ Keep.put
theorem scPick : FnScope ["_law_feed_here", "_law_items"] ["_law_feed_here", "_law_items"] (defScope sPick) := ⟨rfl, rfl, rfl, by decide +kernel, rfl, by decide +kernel, by decide +kernel⟩
theorem ok_pick {f fD : Addr} {fd fdD : FuncData} (S : Std mg) (F : Fun K "_law_pick" "_law_pick" sPick f fd) (D : Df K mg "_law_draw" sDraw fD fdD ["_law_feed_here", "_law_many"]) : FnOk P w K mg base CX0 2 f fd ["_law_feed_here", "_law_items"] (spPick K) := by
  have GD : FnOk P w K mg base CX0 1 fD fdD ["_law_feed_here", "_law_many"] spDraw := ok_draw S D.F
  refine F.ok scPick (fun vs H Q E h => ?_) (fun cdv A outer s H vs Q E hr h => ?_)
  · obtain ⟨l, x, PP, rfl, _⟩ := h
    rfl
  · obtain ⟨l, x, PP, rfl, hf, hi, q⟩ := h
    refine ⟨_, pss_one (ps_ret (pe_ix ix_seq (pv 1) (pe_call GD hr rfl D.g D.F.kp D.b .nil pass0 (pa_cons (pv 0) (pa_cons (pe_callB call_len (by rfl) S.len PySem.boot_len (pa_cons (pv 1) pa_nil)) pa_nil))) (fun _ _ => rfl))), ?_⟩
    rcases hi with ⟨z, rfl, h0, h1, hP⟩ | ⟨a, xs, rfl, hne, hS, h0, h1, hP⟩
    · refine ⟨_, rfl, _, rfl, _, rfl, _, z.length, rfl, ⟨Nat.le_of_lt (small1000 h1), rfl⟩, l, (z.length : Int), rfl, hf, by omega, by omega, fun d H' d0 d1 hf' kp => ?_⟩
      obtain ⟨j, rfl⟩ : ∃ j : Nat, d = (j : Int) := ⟨d.toNat, by omega⟩
      have hj : j < z.cps.toList.length := by
        have : z.length = z.cps.toList.length := by show z.cps.size = _; simp
        omega
      refine .inr (.inr ⟨z, (j : Int), z.cps.toList[j], rfl, rfl, Nat.le_of_lt (small1000 h1), atI_nat (List.getElem?_eq_getElem hj), ?_⟩)
      exact q _ _ (hP _ (List.getElem_mem hj)) hf' kp
    · refine ⟨_, rfl, _, rfl, _, rfl, _, xs.length, rfl, .inl ⟨_, hS, rfl⟩, l, (xs.length : Int), rfl, hf, by omega, by omega, fun d H' d0 d1 hf' kp => ?_⟩
      obtain ⟨j, rfl⟩ : ∃ j : Nat, d = (j : Int) := ⟨d.toNat, by omega⟩
      have hj : j < xs.length := by omega
      have hS' : SqL K H' a xs := by
        rcases hS with (h | ⟨o, h⟩) | h
        · exact .inl (.inl (kp _ _ hne h))
        · exact .inl (.inr ⟨o, kp _ _ hne h⟩)
        · exact .inr h
      refine .inl ⟨a, xs, (j : Int), xs[j], rfl, rfl, hS', atI_nat (List.getElem?_eq_getElem hj), ?_⟩
      exact q _ _ (hP _ (List.getElem_mem hj)) hf' kp
end
end LK

namespace LK
open PySem PySem.Spec PyProof.Rows L2
/-- a name: one to four lower-case letters -/
structure NameOk (z : Str) : Prop where
  pos : 0 < z.length
  len : z.length ≤ 4
  low : ∀ c, c ∈ TL.tl z → 97 ≤ c ∧ c ≤ 122
  nif : z ≠ "if"
  nelse : z ≠ "else"
  nend : z ≠ "end"
def letters : Str := "abcdefghijklmnopqrstuvwxyz"
theorem letters_low : ∀ c, c ∈ TL.tl letters → 97 ≤ c ∧ c ≤ 122 := by decide +kernel
theorem letters_len : letters.length = 26 := by decide +kernel
theorem joinL_nil_flat : ∀ ps : List (List Nat), TL.joinL [] ps = ps.flatten
  | [] => rfl
  | [p] => by simp [TL.joinL]
  | p :: q :: r => by
    show p ++ ([] ++ TL.joinL [] (q :: r)) = _
    rw [joinL_nil_flat (q :: r), List.nil_append]
    rfl
theorem flat_one : ∀ {ys : List Str}, (∀ y, y ∈ ys → y.length = 1) → ((ys.map TL.tl).flatten).length = ys.length
  | [], _ => rfl
  | y :: r, h => by
    rw [List.map_cons, List.flatten_cons, List.length_append, flat_one fun z hz => h z (List.mem_cons_of_mem _ hz), ← TL.len_tl, h y (List.mem_cons_self ..), List.length_cons]
    omega
theorem tl_join0 (ys : List Str) : TL.tl (Txt.join "" ys) = (ys.map TL.tl).flatten := by
  rw [TL.join_eq, TL.tl_join]
  exact joinL_nil_flat _
theorem sum_one : ∀ {ys : List Str}, (∀ y, y ∈ ys → y.length = 1) → (ys.map (·.length)).sum = ys.length
  | [], _ => rfl
  | y :: r, h => by
    rw [List.map_cons, List.sum_cons, sum_one fun z hz => h z (List.mem_cons_of_mem _ hz), h y (List.mem_cons_self ..), List.length_cons]
    omega
theorem nameOk_q : NameOk "q" := ⟨by decide +kernel, by decide +kernel, by decide +kernel, by decide +kernel, by decide +kernel, by decide +kernel⟩
def spWord : Sp := fun vs H Q _ => ∃ (l : Addr), vs = [.ref l] ∧ Feed H l ∧ ∀ z H', NameOk z → Feed H' l → Keep l H H' → Q (.str z) H'
section
variable {P : Program} {w : World} {K : PySem.W.Frag} {mg : Str → Option Value} {base : Heap}
def nWord : List Str := ["_law_feed_here", "_law_letters", "_law_word_here", "_law_k"]
theorem scWord : FnScope nWord ["_law_feed_here"] (defScope sWord) := ⟨rfl, rfl, rfl, by decide +kernel, rfl, by decide +kernel, by decide +kernel⟩
theorem ok_word {f fD fP : Addr} {fd fdD fdP : FuncData} (S : Std mg) (F : Fun K "_law_word" "_law_word" sWord f fd) (D : Df K mg "_law_draw" sDraw fD fdD ["_law_feed_here", "_law_many"]) (PK : Df K mg "_law_pick" sPick fP fdP ["_law_feed_here", "_law_items"]) : FnOk P w K mg base CX0 3 f fd ["_law_feed_here"] spWord := by
  have GD : FnOk P w K mg base CX0 1 fD fdD ["_law_feed_here", "_law_many"] spDraw := ok_draw S D.F
  have GP : FnOk P w K mg base CX0 2 fP fdP ["_law_feed_here", "_law_items"] (spPick K) := ok_pick S PK.F D
  refine F.ok scWord (fun vs H Q E h => ?_) (fun cdv A outer s H vs Q E hr h => ?_)
  · obtain ⟨l, rfl, _⟩ := h
    rfl
  · obtain ⟨l, rfl, hf, q⟩ := h
    have hr1 : Room 1 _ := hr.mono (by decide)
    refine ⟨_, pss_cons (ps_set (i := 1) scWord.nd rfl (Or.inr rfl) pe_str)
      (pss_cons (ps_set (i := 2) scWord.nd rfl (Or.inl rfl) (pe_join pe_str (pe_lc (own := [("_law_k", 3)]) (g := gName 3) (tt := tYes) rfl scWord.nd
          (pi_range1 (by rfl) S.range (pa_cons (pe_op op_add pe_int (pe_call GD hr1 rfl D.g D.F.kp D.b .nil pass0 (pa_cons (pv 0) (pa_cons pe_int pa_nil)))) pa_nil))
          (blkOk_by (N := nWord) (sc := defScope sWord) (by decide +kernel)) (fun _ _ _ _ _ => pg_name (i := 3) scWord.nd rfl (Or.inl rfl)) (fun _ _ _ _ _ => pts_nil)
          (fun _ _ _ _ _ => pe_call GP hr rfl PK.g PK.F.kp PK.b .nil pass0 (pa_cons (pv 0) (pa_cons (pv 1) pa_nil))))))
      (pss_one (ps_ret (pe_ifExp (pt_cmpR op_in_seq (pv 2) (pe_tup (pa_cons pe_str (pa_cons pe_str (pa_cons pe_str pa_nil)))) (by rfl)) pe_str (pv 2))))), ?_⟩
    refine ⟨⟨_, rfl⟩, _, rfl, l, 4, rfl, hf, by decide, by decide, fun d H1 d0 d1 hf1 k1 => ⟨_, _, rfl, rfl, 1 + d, rfl, by omega, by omega, fun D hD => ?_⟩⟩
    have hlD : l ≠ D := fun e => by
      obtain ⟨a, b, e1, _⟩ := hf1
      rw [e, hD] at e1
      cases e1
    refine lc_range (lo := 0) (n := (1 + d).toNat) (fun i H2 => Feed H2 l ∧ (∀ b o, b ≠ l → H b = some o → H2 b = some o) ∧ ∃ ys : List Str, ys.length = i ∧ H2 D = some (.lst (ys.map V.str)) ∧ ∀ y, y ∈ ys → y.length = 1 ∧ ∀ c, c ∈ TL.tl y → 97 ≤ c ∧ c ≤ 122)
      ⟨hf1.same (same_new hD), fun b o n e => same_new hD b o (k1 b o n e), [], rfl, upd_same, fun y hy => by simp at hy⟩ ?_ ?_
    · rintro i H2 hi ⟨hf2, k2, ys, el, hy, hys⟩
      refine ⟨rfl, _, rfl, _, rfl, l, .str letters, (fun v => ∃ c : Nat, v = .str ⟨#[c]⟩ ∧ 97 ≤ c ∧ c ≤ 122), rfl, hf2, .inl ⟨_, rfl, by decide +kernel, by decide +kernel, fun c hc => ⟨c, rfl, letters_low c hc⟩⟩, ?_⟩
      rintro v H3 ⟨c, rfl, c0, c1⟩ hf3 k3
      refine ⟨ys.map V.str, k3 _ _ hlD.symm hy, ?_, ?_⟩
      · rw [List.length_map]
        exact small1000 (by omega)
      · refine ⟨hf3.keep (m := D) Keep.put hlD, fun b o n e => ?_, ys ++ [⟨#[c]⟩], by simp [el], by rw [upd_same]; simp, fun y hy' => ?_⟩
        · by_cases hb : b = D
          · exfalso
            rw [hb] at e n
            have z := k1 _ _ n e
            rw [hD] at z
            cases z
          · rw [upd_ne hb]
            exact k3 b o n (k2 b o n e)
        · rcases List.mem_append.mp hy' with z | z
          · exact hys y z
          · have e : y = ⟨#[c]⟩ := by simpa using z
            subst e
            exact ⟨rfl, fun c' hc' => by
              have e : c' = c := by simpa [TL.tl] using hc'
              subst e
              exact ⟨c0, c1⟩⟩
    · rintro H2 ⟨hf2, k2, ys, el, hy, hys⟩
      have hone : ∀ y, y ∈ ys → y.length = 1 := fun y h => (hys y h).1
      have l1 : ys.length = 1 + d.toNat := by omega
      have htl := tl_join0 ys
      have hlen : (Txt.join "" ys).length = ys.length := by rw [TL.len_tl, htl, flat_one hone]
      have hlow : ∀ c, c ∈ TL.tl (Txt.join "" ys) → 97 ≤ c ∧ c ≤ 122 := fun c hc => by
        rw [htl] at hc
        obtain ⟨l', h1, h2⟩ := List.mem_flatten.mp hc
        obtain ⟨y, hy', rfl⟩ := List.mem_map.mp h1
        exact (hys y hy').2 c h2
      refine ⟨_, _, ys, rfl, rfl, .inl (SqL.of hy), ?_, ?_⟩
      · rw [sum_one hone]
        show ys.length + ys.length * 0 ≤ 16777216
        omega
      refine ⟨_, rfl, (by show 3 ≤ sizeLine; decide), fun p hp => ⟨p, _, rfl, .inr (SqT.of upd_same), rfl, rfl, _, rfl, ?_⟩⟩
      have hl2 : l ≠ p := fun e => by
        obtain ⟨a, b, e1, _⟩ := hf2
        rw [e, hp] at e1
        cases e1
      have kk : Keep l H (upd H2 p (.tup [.str "if", .str "else", .str "end"])) := fun b o n e => same_new hp b o (k2 b o n e)
      refine ite2 (fun c => ?_) (fun c => ?_)
      · exact q _ _ nameOk_q (hf2.same (same_new hp)) kk
      · refine ⟨_, rfl, q _ _ ⟨by omega, by omega, hlow, fun e => ?_, fun e => ?_, fun e => ?_⟩ (hf2.same (same_new hp)) kk⟩
        · exact c (by rw [e]; decide +kernel)
        · exact c (by rw [e]; decide +kernel)
        · exact c (by rw [e]; decide +kernel)
end
end LK

/-! operations on instances of own classes that have a method for them -/
namespace LR
open PySem PySem.Spec PyProof.Rows L2
section
variable {X : Cx} {CX : CXT} {n : Nat} {f C : Addr} {fd : FuncData} {ps : List Str} {sp : Sp} {E : XK}
/-- a def called somewhere below the running body -/
theorem call_run {A : Around} {pins : List (Addr × Obj)} {σ : L2.St} {H : Hp} {s : Shared} {vs : List V} {us : List Value} {Q : VK} (sb : Sub X n A) (F : FnOk X.prog X.w X.K X.mg X.base CX n f fd ps sp) (hb : Binds X.K fd ps []) (hx : Passes CX X E)
    (I : Inv X pins σ H s) (r : Vals vs us) (h : sp vs H Q E) : wpAny (model X.prog X.w) A (call (.ref f) us) (EP X pins σ Q) X.xe s := by
  have e0 : Env0 X.prog X.w X.K X.mg X.base A X.stack s H := by
    have e := I.env0
    exact ⟨by rw [sb.fr]; exact e.frames, e.mod, e.bs, e.bsz, e.funs, e.frf, e.hok, e.bare⟩
  have hl := F.len _ _ _ _ h
  have hl2 : us.length = ps.length := by rw [← r.length, hl]
  refine wpAny_call (codeAny_mono (F.run A X.stack s H ⟨us, []⟩ us vs Q E sb.room e0 (by
    have z := hb s us I.kIn (by simpa using hl2)
    simpa using z) r h) fun res s' hq => ?_)
  cases res with
  | error e => exact hx pins σ H s e s' I hq
  | ok fl =>
    cases fl with
    | ret v => exact I.after hq
    | next => exact False.elim hq
    | brk => exact False.elim hq
    | cont => exact False.elim hq
theorem vals1r {a : Addr} {us : List Value} (r : Vals [V.ref a] us) : us = [.ref a] := by
  cases r with
  | cons r1 r2 =>
    cases r2
    cases r1
    rfl
/-- len(x) by an own __len__ -/
theorem call_lenOwn (F : FnOk X.prog X.w X.K X.mg X.base CX n f fd ps sp) (hs : PySem.W.findIn X.K (.ref C) "__len__" = some (some (.ref f))) (hf : PySem.W.isFn X.K (.ref f) = true) (hb : Binds X.K fd ps []) (hx : Passes CX X E) (hr : Room (n + 1) X.A) :
    CallR X (.builtin "len") (fun xs H Q => ∃ a dx fs, xs = [V.ref a] ∧ H a = some (.ins C dx fs) ∧ sp [V.ref a] H (fun v H' => ∃ k : Nat, v = .int k ∧ k < 4611686018427387904 ∧ Q (.int k) H') E) := by
  intro pins s σ H xs us Q I r h
  obtain ⟨a, dx, fs, rfl, ha, h⟩ := h
  have e := vals1r r
  subst e
  obtain ⟨mA, J, _⟩ := ins_get I.hok ha
  obtain ⟨od, J, _⟩ := J.look
  obtain ⟨m, hF⟩ := I.fr
  refine PySem.W.len_K hF I.ok.mod.kin J hs hf ?_
  refine wpAny_mono (call_run (A := X.A.in1) ⟨hr.in1, rfl⟩ F hb hx I (.cons (show RelV (V.ref a) (Value.ref a) from rfl) .nil) h) (fun v s' q => ?_) fun _ _ z => z
  obtain ⟨y, H', I', ry, k, rfl, hk, q⟩ := q
  obtain ⟨t, rfl⟩ := ry
  exact ⟨⟨by omega, by omega⟩, .int k, H', I'.tok _, ⟨_, rfl⟩, q⟩
/-- what an own operator must give -/
def NotNI (v : V) : Prop := True
/-- x == y by an own __eq__ of x's class -/
theorem op_eqOwn (F : FnOk X.prog X.w X.K X.mg X.base CX n f fd ps sp) (hs : PySem.W.findIn X.K (.ref C) "__eq__" = some (some (.ref f))) (hf : PySem.W.isFn X.K (.ref f) = true) (hb : Binds X.K fd ps []) (hx : Passes CX X E) (hr : Room n X.A) :
    OpR X (compareOp .Eq) (fun x y H Q => ∃ a dx fs t, x = V.ref a ∧ H a = some (.ins C dx fs) ∧ TyX X.K H y t ∧ PySem.W.notFirst X.K C t = true ∧ sp [V.ref a, y] H (fun v H' => ∃ b, v = .bl b ∧ Q (.bl b) H') E) := by
  intro pins s σ H x y v u Q I rx ry h
  obtain ⟨a, dx, fs, t, rfl, ha, ty, hn, h⟩ := h
  cases rx
  obtain ⟨mA, J, _⟩ := ins_get I.hok ha
  obtain ⟨od, J, _⟩ := J.look
  obtain ⟨m, hF⟩ := I.fr
  obtain ⟨Pk, Z, pk, _⟩ := kit_of I ry ty
  show wpAny (model X.prog X.w) X.A (richCompare .Eq (.ref a) u) (EP X pins σ Q) X.xe s
  refine PySem.W.cmp_K (op := .Eq) (tb := t) hr.units0 hF I.ok.mod.kin J (Z.ty _ _ I.kIn pk) hn hs hf ?_
  refine wpAny_mono (call_run (A := X.A) ⟨hr, rfl⟩ F hb hx I (.cons (show RelV (V.ref a) (Value.ref a) from rfl) (.cons ry .nil)) h) (fun v s' q => ?_) fun _ _ z => z
  obtain ⟨y', H', I', ry', b, rfl, q⟩ := q
  cases ry'
  exact ⟨.bl b, H', I', rfl, q⟩
end
end LR

/-! error objects of own classes as plain values: made, kept, read, asked for their class -/
namespace LR
open PySem PySem.Spec PyProof.Rows L2
/-- Err(e, ..), by the __init__ that keeps sp; the object stays a value -/
def tErrV (C : Addr) (sp : Sp) (ta : TA) : TE := fun σ H Q => ta σ H fun vs H1 => vs.length ≤ 1000 ∧ ∀ a, H1 a = none → sp (.ref a :: vs) (upd H1 a (exo a C none)) (fun _ H2 => Q (.ref a) H2) E0
/-- Err(), where nothing keeps arguments -/
def tErr0 (C : Addr) : TE := fun _ H Q => ∀ a, H a = none → Q (.ref a) (upd H a (exo a C none))
/-- (..).n of such an object -/
def tErrF (K : PySem.W.Frag) (n : Str) (te : TE) : TE := fun σ H Q => te σ H fun x H1 => ∃ (a C dx : Addr) (fs : List (Str × V)) (v : V), x = .ref a ∧ XfC K C ∧ PySem.W.findIn K (.ref C) n = some none ∧
  H1 a = some (exo a C (some dx)) ∧ H1 dx = some (exd dx fs) ∧ fs.lookup n = some v ∧ Q v H1
/-- isinstance of such an object -/
def rIsErr (K : PySem.W.Frag) : List V → Hp → VK → Prop := fun xs H Q => ∃ (a D : Addr) (d : Option Addr) (c : V) (cv : Value) (b : Bool), xs = [.ref a, c] ∧ H a = some (exo a D d) ∧ (∀ dx, d = some dx → ∃ fs, H dx = some (exd dx fs)) ∧ ExcC K D ∧ ClsV c cv ∧
  PySem.W.kitOne K (.ref D) cv = some b ∧ Q (.bl b) H
section
variable {X : Cx} {pins : List (Addr × Obj)} {σ : L2.St} {H : Hp} {s : Shared}
/-- where it stands -/
theorem err_inst {a D : Addr} {d : Option Addr} (I : Inv X pins σ H s) (ha : H a = some (exo a D d)) (hd : ∀ dx, d = some dx → ∃ fs, H dx = some (exd dx fs)) : ∃ (ox : Obj) (od : Option Obj), PySem.W.InstAt s.heap a ox D od ∧
    ∀ dx fs n v, d = some dx → H dx = some (exd dx fs) → fs.lookup n = some v → ∃ o u, od = some o ∧ PySem.W.lookIn n o = some (some u) ∧ RelV v u := by
  obtain ⟨t1, ho⟩ := exo_at I.hok ha
  cases d with
  | none => exact ⟨_, none, ⟨ho, rfl, rfl, trivial⟩, fun dx fs n v e => nomatch e⟩
  | some dx =>
    obtain ⟨fs0, h0⟩ := hd dx rfl
    obtain ⟨m0, hn0, _⟩ := exd_at I.hok h0
    obtain ⟨od, hod, look⟩ := lookIn_ns hn0
    refine ⟨_, some od, ⟨ho, rfl, rfl, hod⟩, fun dx' fs n v e hx hl => ?_⟩
    obtain rfl : dx = dx' := Option.some.inj e
    obtain ⟨m1, hn1, rel⟩ := exd_at I.hok hx
    obtain ⟨od1, hod1, look1⟩ := lookIn_ns hn1
    rw [hod] at hod1
    obtain rfl : od = od1 := Option.some.inj hod1
    obtain ⟨u, hu, ru⟩ := RelO.some_of (v := v) (o := m1 n) (by rw [← hl]; exact rel n)
    exact ⟨od, u, rfl, by rw [look1, hu], ru⟩
theorem pe_errF {e : Expr} {te : TE} {n : Str} {pos : Pos} (he : PE X e te) (hb : attributeBase e n X.env (eval e X.env) = eval e X.env := by rfl) : PE X (.Attribute e n pos) (tErrF X.K n te) := by
  refine ⟨fun pins s σ H Q I h => attr_of hb (thn (he.run pins s σ H _ I h) fun u s1 hh => ?_)⟩
  obtain ⟨x, H1, I1, rx, a, C, dx, fs, v, ex, T, hno, ha, hx, hl, q⟩ := hh
  subst ex
  obtain rfl : u = Value.ref a := rx
  obtain ⟨ox, od, J, field⟩ := err_inst I1 ha fun dx' e => ⟨fs, by rw [← Option.some.inj e]; exact hx⟩
  obtain ⟨o, u, rfl, hlk, ru⟩ := field dx fs n v rfl hx hl
  exact HandSPX.exc_get I1.kIn J T.ga T.gg T.exC (PySem.W.findObj_own T.hdC hno rfl hlk) (handed_of ru) ⟨v, H1, I1.tok _, ru, q⟩
theorem call_isErr : CallR X (.builtin "isinstance") (rIsErr X.K) := by
  intro pins s σ H xs us Q I r h
  obtain ⟨a, D, d, c, cv, b, rfl, ha, hd, T, k, e, q⟩ := h
  obtain ⟨u1, u2, rfl, r1, r2⟩ := vals2 r
  obtain rfl := k.eq r2
  obtain rfl : u1 = Value.ref a := r1
  obtain ⟨ox, od, J, _⟩ := err_inst I ha hd
  refine PySem.W.kia_one (PySem.W.kitx_exc ?_ T.hg T.hk T.hs T.ha T.hn T.ht T.hm) I.kIn J e (fun z => nomatch z) fun tk => ⟨.bl b, H, I.tok tk, rfl, q⟩
  obtain ⟨cd, hc, _⟩ := PySem.W.any_some T.hd
  rw [hc]
  rfl
end
section
variable {X : Cx} {e : Expr} {es : List Expr} {ta : TA} {p pos : Pos}
/-- the exception's plain form is the tracked one -/
theorem exo_new {P : Program} {w : World} {H : Hp} {h : Heap} {a t C : Addr} (he : h.get? a = some ({ cls := .ref C, dict := none, data := .fields #[.ref t, .none, .none, .none, .bool false, .none] } : Obj)) : ObjOk P w H h a (exo a C none) := exo_ok he
theorem pe_errV {CX : CXT} {x : Str} {C fI : Addr} {k : Nat} {fd : FuncData} {ps : List Str} {sp : Sp} (T : OexC X.K C) (iC : PySem.W.findIn X.K (.ref C) "__init__" = some (some (.ref fI))) (tI : PySem.W.typeIn X.K (.ref fI) = some (.type "function"))
    (F1 : FnOk X.prog X.w X.K X.mg X.base CX k fI fd ps sp) (ret : ∀ vs H Q, sp vs H Q E0 → sp vs H (fun v H' => v = .non ∧ Q v H') E0) (hr : Room (k + 1) X.A) (hb : Binds X.K fd ps []) (hx : Passes CX X E0) (hg : Gl X x) (hm : X.mg x = some (.ref C)) (ha : PA X (e :: es) ta)
    (hdb : (x == ("__debug__" : Str)) = false := by decide) (he : starEach (e :: es) X.env = (false, eval e X.env) :: starEach es X.env := by rfl) (hpl : (backTo pos (starEach es X.env)).any (·.1) = false := by rfl) :
    PE X (.Call (.Name x p) (e :: es) [] pos) (tErrV C sp ta) := by
  refine ⟨fun pins s σ H Q I h => ?_⟩
  obtain ⟨nm, q, N, bs, bm, sn, sub, ab, col, dd, k0, k1, k2, k3, k5, hC, hbm⟩ := T.cls
  refine wpAny_Call_Name_kw (ld_glob I hg hm ?_ hdb)
  refine PySem.W.callWith_K (h₀ := X.base) I.ok.mod.kin T.kC (thn (ha.run pos pins s σ H _ I h) fun us s1 ⟨vs, H1, I1, r1, hz, q1⟩ => ⟨I1.kIn, ?_⟩) he hpl
  obtain ⟨hp, g, dr, tk, os⟩ := s1
  have new := q1 (hp.objs.size + 1) (I1.hok.fresh (Nat.le_succ _))
  have run := ret _ _ _ new
  have J := I1.laid (t' := tk) (h' := (hp.push (PySem.W.kdv_tup us)).push (PySem.HandSPX.excO C hp.objs.size)) (fun b o z => Heap.get?_push_of_some _ (Heap.get?_push_of_some _ z)) (Nat.le_succ hp.objs.size) (exo_ok (C := C) (d := none) (t1 := hp.objs.size) (by heap_get))
  have rels : Vals (V.ref (hp.objs.size + 1) :: vs) (Value.ref (hp.objs.size + 1) :: us) := .cons rfl r1
  have many : (Value.ref (hp.objs.size + 1) :: us).length = ps.length := by rw [← rels.length, F1.len _ _ _ _ new]
  have few : us.length ≤ sizeLine := by rw [← Paired.length r1, sizeLine_eq]; omega
  have bound := hb _ (Value.ref (hp.objs.size + 1) :: us) J.kIn (by simpa using many)
  rw [List.append_nil] at bound
  refine wpAny_call (PySem.HandSPX.call_own F.excBase_ValueError (fun Y => PySem.HandSPX.refsVE_contains Y bm hbm) (I1.kIn _ _ hC) (PySem.W.looks_findIn I1.kIn iC) (fun self => PySem.W.bind_fn I1.kIn self tI) few
    (codeAny_mono (F1.run _ X.stack _ _ _ _ _ _ E0 (hr.make C us []) (J.env0.make C us []) bound rels run) fun r s' out => ?_))
  cases r with
  | error er => exact hx pins σ _ _ er s' J out
  | ok fl =>
    cases fl with
    | ret u =>
      have out' := out
      obtain ⟨v, H2, _, _, _, _, rv, ev, _⟩ := out'
      subst ev
      obtain ⟨v', H3, J3, r3, e3, q3⟩ := J.after out
      exact ⟨rv, ⟨.ref (hp.objs.size + 1), H3, J3, rfl, q3⟩⟩
    | next => exact False.elim out
    | brk => exact False.elim out
    | cont => exact False.elim out
/-- Err(), by ValueError's own __init__ -/
theorem pe_err0 {x : Str} {C : Addr} (T : OexC X.K C) (iC : PySem.W.findIn X.K (.ref C) "__init__" = some (some (.builtin "ValueError.__init__"))) (hg : Gl X x) (hm : X.mg x = some (.ref C)) (hdb : (x == ("__debug__" : Str)) = false := by decide) :
    PE X (.Call (.Name x p) [] [] pos) (tErr0 C) := by
  refine ⟨fun pins s σ H Q I h => ?_⟩
  obtain ⟨nm, q, N, bs, bm, sn, sub, ab, col, dd, k0, k1, k2, k3, k5, hC, hbm⟩ := T.cls
  refine wpAny_Call_Name_kw (ld_glob I hg hm ?_ hdb)
  obtain ⟨hp, g, dr, tk, os⟩ := s
  refine PySem.W.callWith_K0 I.kIn T.kC ?_
  refine PySem.W.call_B F.excBase_ValueError (fun Y => PySem.HandSPX.refsVE_contains Y bm hbm) (I.kIn _ _ hC) (PySem.W.looks_findIn I.kIn iC) (Nat.zero_le _) fun h' keep at1 at2 => ?_
  exact ⟨.ref (hp.objs.size + 1), _, I.laid (t' := tk) keep (Nat.le_succ _) (exo_ok at1), rfl, h _ (I.hok.fresh (Nat.le_succ _))⟩
end
end LR

/-! sets of texts: set(list of texts), sorted(that) -/
namespace LR
open PySem PySem.Spec PyProof.Rows L2
/-- the text of a member -/
def txtOf (e : Int × Value) : Str := match e.2 with | .str z _ => z | _ => Str.empty
/-- a member is a text, with its hash -/
def TxtE (w : World) (e : Int × Value) : Prop := ∃ (z : Str) (tk : Tok), e.2 = Value.str z tk ∧ e.1 = hashStr w z
/-- what a table keeps beside its members: its places rise, and its maker is known -/
def Led (w : World) (t : SetTable) : Prop := Ris t.place.toList ∧ (w.params.followText "set-order" = true ∨ t.led = true)
/-- the set of texts at a -/
def SetS (w : World) (h : Heap) (a : Addr) (S : Str → Bool) (n : Nat) : Prop :=
  ∃ (o : Obj) (es : Array (Int × Value)) (ep : Nat) (t : SetTable), h.get? a = some o ∧ o.ExactSet ∧ o.data = .set es ep t ∧
    ((∀ e ∈ es.toList, TxtE w e) ∧ (es.toList.map txtOf).Nodup ∧ ∀ k, S k = true ↔ k ∈ es.toList.map txtOf) ∧ (es.size < scanBound ∧ t.fits es.size = true ∧ es.size = n) ∧ Led w t
section
variable {P : Program} {w : World} {h h' : Heap} {a : Addr} {S : Str → Bool} {n : Nat}
theorem SetS.at (R : SetS w h a S n) (k : ∀ o, h.get? a = some o → h'.get? a = some o) : SetS w h' a S n := by
  obtain ⟨o, es, ep, t, q, r⟩ := R
  exact ⟨o, es, ep, t, k o q, r⟩
theorem SetS.congr {S' : Str → Bool} (R : SetS w h a S n) (e : ∀ k, S' k = S k) : SetS w h a S' n := by rwa [show S' = S from funext e]
theorem txt_elems {l : List (Int × Value)} (g : ∀ e ∈ l, TxtE w e) : ElemsOf (PySem.strKind P w) l := fun e he => by
  obtain ⟨z, tk, q1, q2⟩ := g e he
  refine ⟨⟨z, ?_, q2⟩, ?_⟩ <;> rw [q1]
  · exact strKind_is P w z tk
  · rfl
theorem txt_is {e : Int × Value} (g : TxtE w e) (k : Str) : (PySem.strKind P w).is k e.2 = true ↔ txtOf e = k := by
  obtain ⟨z, tk, q, _⟩ := g
  have h1 : txtOf e = z := by unfold txtOf; rw [q]
  rw [h1, q]
  show Value.isStrOf k (.str z tk) = true ↔ z = k
  simp [Value.isStrOf]
theorem txt_mem {l : List (Int × Value)} (g : ∀ e ∈ l, TxtE w e) (k : Str) : k ∈ l.map txtOf ↔ ∃ e ∈ l, (PySem.strKind P w).is k e.2 = true :=
  ⟨fun z => by obtain ⟨e, he, q⟩ := List.mem_map.mp z; exact ⟨e, he, (txt_is (g e he) k).2 q⟩, fun ⟨e, he, q⟩ => List.mem_map.mpr ⟨e, he, (txt_is (g e he) k).1 q⟩⟩
end
section
variable {P : Program} {w : World} {A : Around} {E : Value → Shared → Prop} {s : Shared} {a : Addr} {S : Str → Bool} {n : Nat}
/-- the members stored, the table relaid if it is too full -/
theorem setS_tail {give : Bool → Sem Unit} (hg : ∀ (b : Bool) (s₁ : Shared) (Q' : Unit → Shared → Prop), Q' () s₁ → wpAny (model P w) A (give b) Q' E s₁) {o : Obj} {es es1 : Array (Int × Value)} {ep : Nat} {t t2 : SetTable} {S' : Str → Bool}
    (ho : s.heap.get? a = some o) (hex : o.ExactSet) (hd : o.data = .set es ep t) (g1 : (∀ e ∈ es1.toList, TxtE w e) ∧ (es1.toList.map txtOf).Nodup ∧ ∀ k, S' k = true ↔ k ∈ es1.toList.map txtOf)
    (hb1 : es1.size < scanBound) (hf2 : t2.fits es1.size = true) (hr : Led w t2) {wasDummy : Bool} {R : Option Bool → Shared → Prop} (hR : ∀ h', Heap.SameBut a s.heap h' → SetS w h' a S' es1.size → R (some true) { s with heap := h' }) :
    wpAny (model P w) A (do
        storeSet a es1 t2
        if (!wasDummy && t2.tooFull) = true then do
            give (relayAll t2 es1 (SetTable.grown es1.size)).2.2
            storeSet a (relayAll t2 es1 (SetTable.grown es1.size)).1 (relayAll t2 es1 (SetTable.grown es1.size)).2.1
            pure (some true)
          else pure (some true)) R E s := by
  have z1 := store_at (es' := es1) (t' := t2) ho hd
  have z2 := Heap.SameBut.update s.heap a (Obj.putSet es1 t2)
  refine wpAny_bind (wpAny_storeSet_of ho hd ?_ (fits_of_scanBound hb1))
  split
  · obtain ⟨g1a, g1b, g1c⟩ := g1
    have y1 := relayAll_perm t2 es1 (SetTable.grown es1.size)
    have y2 := relayAll_fits t2 es1 (SetTable.grown es1.size)
    have y3 := relayAll_ris t2 es1 (SetTable.grown es1.size)
    have y4 := relayAll_led t2 es1 (SetTable.grown es1.size)
    revert y1 y2 y3 y4
    generalize relayAll t2 es1 (SetTable.grown es1.size) = Z
    obtain ⟨es2, t3, gave⟩ := Z
    intro y1 y2 y3 y4
    dsimp only at y1 y2 y3 y4 ⊢
    have sz : es2.size = es1.size := by simpa using y1.length_eq
    refine wpAny_bind (hg _ _ _ (wpAny_bind (wpAny_storeSet_of z1 rfl ?_ (fits_of_scanBound (by rw [sz]; exact hb1)))))
    refine wpAny_pure (hR _ (z2.trans (Heap.SameBut.update _ a _)) ⟨_, es2, _, t3, store_at (es' := es2) (t' := t3) z1 rfl, hex, rfl, ⟨fun e he => g1a e (y1.mem_iff.mp he), (y1.map txtOf).nodup_iff.mpr g1b, fun k => (g1c k).trans (y1.map txtOf).mem_iff.symm⟩, ⟨by rw [sz]; exact hb1, y2, sz⟩, y3, ?_⟩)
    rcases hr.2 with q | q
    · exact .inl q
    · exact .inr (y4.trans q)
  · exact wpAny_pure (hR _ z2 ⟨_, es1, _, t2, z1, hex, rfl, g1, ⟨hb1, hf2, rfl⟩, hr⟩)
/-- one more text -/
theorem setS_add {k : Str} {tk : Tok} {Q : Bool → Shared → Prop} (R : SetS w s.heap a S n) (room : n + 1 < scanBound)
    (hQ : ∀ h', Heap.SameBut a s.heap h' → SetS w h' a (fun j => S j || decide (j = k)) (if S k = true then n else n + 1) → Q (!S k) { s with heap := h' }) :
    wpAny (model P w) A (setAddHashed a (.str k tk) ((PySem.strKind P w).hash k)) Q E s := by
  obtain ⟨o, es, ep, t, ho, hex, hd, ⟨g, nd, hm⟩, ⟨hb, hf, hn⟩, hr⟩ := R
  have el : ElemsOf (PySem.strKind P w) es.toList := txt_elems g
  have sc : (Value.str k tk).scannable = true := rfl
  unfold setAddHashed setAddHashedIn
  refine wpAny_holding (wpAny_bind (wpAny_setState_of ho hd hf ?_))
  dsimp only
  rw [byScan_of sc hb el]
  simp only [↓reduceIte]
  unfold setAddByScan
  refine wpAny_bind (wpAny_bind (wpAny_rule (wpAny_bind (wpAny_setScan_of (strKind_is P w k tk) ho hd hf el ?_))))
  cases hfi : List.findIdx? (fun e => (PySem.strKind P w).is k e.2) es.toList with
  | some j =>
    obtain ⟨hj, pj, _⟩ := List.findIdx?_eq_some_iff_getElem.mp hfi
    have yes : S k = true := (hm k).2 ((txt_mem (P := P) g k).2 ⟨_, List.getElem_mem hj, pj⟩)
    have q := hQ s.heap (Heap.SameBut.refl a s.heap) ⟨o, es, ep, t, ho, hex, hd, ⟨g, nd, fun i => ?_⟩, ⟨hb, hf, by rw [if_pos yes]; exact hn⟩, hr⟩
    · rw [yes] at q
      exact wpAny_pure (wpAny_pure q)
    · rw [← hm i]
      by_cases e : i = k
      · rw [e, yes]; simp
      · simp [e]
  | none =>
    have fresh : k ∉ es.toList.map txtOf := fun z => by
      obtain ⟨e, he, q⟩ := (txt_mem (P := P) g k).1 z
      have c := List.findIdx?_eq_none_iff.mp hfi e he
      rw [c] at q
      cases q
    have no : S k = false := by
      cases q : S k with
      | false => rfl
      | true => exact absurd ((hm k).1 q) fresh
    have gw : ∀ (b : Bool) (s₁ : Shared) (Q' : Unit → Shared → Prop), Q' () s₁ → wpAny (model P w) A (match b with | true => rule "set.scan.the-table-gave-way" | false => pure ()) Q' E s₁ := fun b s₁ Q' q => by
      cases b
      · exact wpAny_pure q
      · exact wpAny_rule q
    dsimp only
    have y1 := layNew_perm t es ((PySem.strKind P w).hash k) (.str k tk)
    have y2 := layNew_fits t es ((PySem.strKind P w).hash k) (.str k tk)
    have y3 := layNew_ris t es ((PySem.strKind P w).hash k) (.str k tk) hr.1
    have y4 := layNew_led t es ((PySem.strKind P w).hash k) (.str k tk)
    revert y1 y2 y3 y4
    generalize layNew t es ((PySem.strKind P w).hash k) (.str k tk) = Z
    obtain ⟨es1, t1, wasDummy, gave⟩ := Z
    intro y1 y2 y3 y4
    dsimp only at y1 y2 y3 y4 ⊢
    rw [Array.toList_push] at y1
    have pc : es1.toList.Perm (((PySem.strKind P w).hash k, Value.str k tk) :: es.toList) := y1.trans (List.perm_append_singleton _ _)
    have pk : (es1.toList.map txtOf).Perm (k :: es.toList.map txtOf) := pc.map txtOf
    have mem1 : (∀ e ∈ es1.toList, TxtE w e) ∧ (es1.toList.map txtOf).Nodup ∧ ∀ i, (S i || decide (i = k)) = true ↔ i ∈ es1.toList.map txtOf := by
      refine ⟨fun e he => ?_, pk.nodup_iff.mpr (List.nodup_cons.mpr ⟨fresh, nd⟩), fun i => ?_⟩
      · rcases List.mem_cons.mp (pc.mem_iff.mp he) with z | z
        · rw [z]; exact ⟨k, tk, rfl, rfl⟩
        · exact g e z
      · rw [pk.mem_iff, List.mem_cons, ← hm i]
        by_cases e : i = k <;> simp [e]
    have sz : es1.size = n + 1 := by
      have := pc.length_eq
      simp at this
      omega
    have bd : es1.size < scanBound := by omega
    have ld : Led w t1 := ⟨y3, hr.2.imp id fun z => y4.trans z⟩
    have fin : ∀ h', Heap.SameBut a s.heap h' → SetS w h' a (fun j => S j || decide (j = k)) es1.size → Q true { s with heap := h' } := fun h' sb r => by
      have q := hQ h' sb
      rw [no] at q
      rw [sz] at r
      exact q r
    refine wpAny_bind (gw _ _ _ ?_)
    split
    · refine wpAny_bind ?_
      rw [hashByValue_scannable 8 sc]
      refine wpAny_pure (setS_tail (fun b s₁ Q' q => gw b s₁ Q' q) ho hex hd mem1 bd ?_ ?_ fun h' sb r => wpAny_pure (fin h' sb r))
      · first | exact y2 | (split <;> first | exact y2 | exact SetTable.fits_plain_off y2)
      · first | exact ld | (split <;> exact ld)
    · refine wpAny_bind (wpAny_pure ?_)
      simp only [↓reduceIte]
      exact setS_tail (fun b s₁ Q' q => gw b s₁ Q' q) ho hex hd mem1 bd y2 ld fun h' sb r => wpAny_pure (fin h' sb r)
end

section
variable {P : Program} {w : World} {A : Around} {E : Value → Shared → Prop} {s : Shared}
/-- set.update of an iterator that yields the texts xs -/
theorem setS_loop {I S : Addr} {fp wr : List Addr} {G : Array GenState → Array GenState → Prop} {n : Nat} {Pv : Nat → Value → Prop} {St : Nat → Shared → Prop} {R : Result → Shared → Prop} (W : WalksS P w A.in1 I fp wr G n Pv St) (hSf : S ∉ fp) (xs : List Str) (hn : n = xs.length)
    (hb : xs.length + 1 < scanBound) (hval : ∀ i v, Pv i v → ∃ k t, xs[i]? = some k ∧ v = .str k t) : ∀ (k i : Nat) (s : Shared), i + k = n → St i s → (∃ c, c ≤ i ∧ SetS w s.heap S (fun j => decide (j ∈ xs.take i)) c) →
      (∀ s' c, Moved (S :: wr) G s s' → c ≤ n → SetS w s'.heap S (fun j => decide (j ∈ xs)) c → R (.ok (.ret .none)) s') → codeAny (model P w) A (.builtin "set.update.loop" ⟨[.ref S, .ref I], []⟩) R s := by
  have nw : S ∉ wr := fun h => hSf (W.sub _ h)
  have up : ∀ b ∈ wr, b ∈ S :: wr := fun b hb => List.mem_cons_of_mem _ hb
  intro k
  induction k with
  | zero =>
    rintro i s rfl hst ⟨c, hc, hS⟩ hR
    refine codeAny_builtin PyProof.Rows.F.entry_set_update_loop ?_
    rw [Around.under_plainId PyProof.Rows.F.plain_set_update_loop _]
    show wpAny _ A.in1 (pyNext (.ref I) >>= _) _ _ s
    refine wpAny_bind (W.done s _ _ hst fun s' hm => ?_)
    rw [List.take_of_length_le (by omega)] at hS
    exact wpAny_pure (hR s' c (hm.mono up) hc (hS.at fun o e => hm.heap S o nw e))
  | succ k ih =>
    rintro i s hk hst ⟨c, hc, hS⟩ hR
    have lt : i < n := by omega
    refine codeAny_builtin PyProof.Rows.F.entry_set_update_loop ?_
    rw [Around.under_plainId PyProof.Rows.F.plain_set_update_loop _]
    show wpAny _ A.in1 (pyNext (.ref I) >>= _) _ _ s
    refine wpAny_bind (W.item i s _ _ lt hst fun v s' hP hst' hm => ?_)
    obtain ⟨z, t, hz, rfl⟩ := hval i v hP
    show wpAny _ A.in1 (holding [Value.str z t] (setAdd S (.str z t)) >>= _) _ _ s'
    unfold setAdd
    refine wpAny_bind (wpAny_holding (wpAny_holding (wpAny_bind ((PySem.strKind P w).pyHash (k := z) (strKind_is _ _ _ _) ?_))))
    refine setS_add (s := { s' with toks := s'.toks + 1 }) (hS.at fun o e => hm.heap S o nw e) (by omega) fun h' hsb hS2 => ?_
    have hS3 : SetS w h' S (fun j => decide (j ∈ xs.take (i + 1))) (if decide (z ∈ xs.take i) = true then c else c + 1) := hS2.congr fun j => by
      rw [List.take_add_one, hz]
      simp [List.mem_append]
    refine wpAny_pure ⟨plainId_quiet PyProof.Rows.F.plain_set_update_loop _, ih (i + 1) _ (by omega) (W.frame _ s' _ _ hst' (Nat.le_succ _) fun b hb o e => (hsb.2 b (fun h => hSf (h ▸ hb))).trans e) ⟨_, by split <;> omega, hS3⟩ fun s'' c2 hm2 hc2 hS4 => ?_⟩
    exact hR s'' c2 (Moved.trans W.gtrans ((hm.mono up).then_heap (Nat.le_succ _) fun b o hb e => (hsb.2 b (fun h => hb (h ▸ List.mem_cons_self))).trans e) hm2) hc2 hS4
/-- a set as it is made -/
abbrev bareSet (w : World) : Obj := { cls := .type "set", dict := none, data := .set #[] 0 (.fresh 0 0 (!w.params.followText "set-order")) }
theorem setS_none {h : Heap} {a : Addr} {xs : List Str} (ho : h.get? a = some (bareSet w)) : SetS w h a (fun j => decide (j ∈ xs.take 0)) 0 := by
  refine ⟨bareSet w, #[], 0, _, ho, ⟨rfl, rfl, rfl⟩, rfl, ⟨fun e he => by simp at he, by simp, fun k => by simp⟩, ⟨by decide, rfl, rfl⟩, List.Pairwise.nil, ?_⟩
  show _ ∨ (!w.params.followText "set-order") = true
  cases w.params.followText "set-order" <;> simp
set_option maxHeartbeats 6400000 in
/-- set(xs), xs a list of texts -/
theorem set_of_list {l : Addr} {items : Array Value} (xs : List Str) {Q : Value → Shared → Prop} (hh : A.handled = none) (hl : s.heap.IsList l items) (hit : PyProof.Rows.StrsAre items.toList xs) (hb : xs.length + 1 < scanBound)
    (h : ∀ (h' : Heap) (tk c : Nat), SetS w h' s.heap.objs.size (fun j => decide (j ∈ xs)) c → c ≤ xs.length → (∀ b o, s.heap.get? b = some o → h'.get? b = some o) → Q (.ref s.heap.objs.size) { s with heap := h', toks := tk }) :
    wpAny (model P w) A (call (.type "set") [.ref l]) Q E s := by
  have isz : items.size = xs.length := by
    rw [← StrsAre.len_eq hit, Array.length_toList]
  obtain ⟨c, tl, hmro⟩ := PySem.F.called_set.mro
  have hmade := PySem.F.called_set.made
  have hsub := PySem.F.called_set.sub
  refine wpAny_call (codeAny_of_tree ?_)
  show wpAny _ _ (callAny (.type "set") _) _ _ _
  refine wpAny_pure ⟨Code.quiet_builtin _ (by decide +kernel), codeAny_builtin PySem.F.entry_type_call ?_⟩
  rw [Around.under_plain (weight_type_call_type "set" [.ref l] []) rfl]
  have h1 := PySem.F.called_set.notType
  have h2 := PySem.F.called_set.canCreate
  have hct := PySem.F.typeCall_set_1 (.ref l)
  repeat (any_goals (first | assumption | wp_step))
  refine codeAny_mono (code_set_led1 (.ref l) (E := E) (Q₁ := fun obj s₁ => obj = .ref s.heap.objs.size ∧ s₁ = { s with heap := s.heap.push (bareSet w) }) ⟨rfl, rfl⟩) fun r s₁ hr => ?_
  cases r with
  | error er => exact hr
  | ok fl =>
   cases fl with
   | ret obj =>
    obtain ⟨rfl, rfl⟩ := hr
    have hS : (s.heap.push (bareSet w)).get? s.heap.objs.size = some (bareSet w) := Heap.get?_push_size _ rfl
    have hT : Shared.TypeIs { s with heap := s.heap.push (bareSet w) } (.ref s.heap.objs.size) "set" := ⟨_, hS, rfl⟩
    have hli := PySem.F.called_set.init.lookup
    have hbi := PySem.F.called_set.init.bind (.ref s.heap.objs.size)
    repeat (any_goals (first | assumption | wp_step))
    refine codeAny_mono (codeAny_call_builtin (R := wants (fun r s₂ => r = .none ∧ ∃ h' tk c, s₂ = { s with heap := h', toks := tk } ∧ SetS w h' s.heap.objs.size (fun j => decide (j ∈ xs)) c ∧ c ≤ xs.length ∧ (∀ b o, s.heap.get? b = some o → h'.get? b = some o)) E)
      PySem.F.called_set.init.plain PySem.F.entry_set_init (check_set_init_1 hT ?_)) fun r₂ s₂ hr₂ => ?_
    · obtain ⟨⟨k0, k1, k2, k3⟩, hol, hcl, nl, hdl⟩ := hl
      dsimp only at hcl hdl
      subst hcl hdl
      have hol' : (s.heap.push (bareSet w)).get? l = some { cls := .type "list", dict := k1, data := .seq items nl, slots := k3 } := Heap.get?_push_of_some _ hol
      have u1 := PySem.F.sub_list_set
      have u2 := PySem.F.sub_list_frozenset
      have u3 : (Value.type "list" == Value.type "dict") = false := by decide
      have hl1 : (s.heap.push (bareSet w)).IsList l items := ⟨_, hol', rfl, nl, rfl⟩
      unfold Builtin.«set.__init__» noKeywords Builtin.Frozenset.updateFrom
      generalize hPI : pyIter = PI
      wp_walk
      subst hPI
      refine wpAny_pyIter_list hl1 (wpAny_bind (wpAny_runValue ?_))
      have lS : l < s.heap.objs.size := Heap.lt_size hol
      have hh3 : A.in1.in1.in1.handled = none := by simp [hh]
      have sz1 : (s.heap.push (bareSet w)).objs.size = s.heap.objs.size + 1 := Heap.size_push ..
      have neI : l ≠ (s.heap.push (bareSet w)).objs.size := by rw [sz1]; exact Nat.ne_of_lt (Nat.lt_succ_of_lt lS)
      have hSf : s.heap.objs.size ∉ [(s.heap.push (bareSet w)).objs.size, l] := by
        rw [sz1]
        simp only [List.mem_cons, List.not_mem_nil, or_false, not_or]
        exact ⟨Nat.ne_of_lt (Nat.lt_succ_self _), Nat.ne_of_gt lS⟩
      have hval : ∀ (i : Nat) (v : Value), items[i]? = some v → ∃ k t, xs[i]? = some k ∧ v = .str k t := fun i v hv => by
        have hi : i < xs.length := by rw [← isz]; exact (Array.getElem?_eq_some_iff.mp hv).1
        obtain ⟨t, e⟩ := SS.strs_at hit i v (by rw [Array.getElem?_toList]; exact hv)
        exact ⟨xs[i], t, List.getElem?_eq_getElem hi, by rw [e, List.getD_eq_getElem?_getD, List.getElem?_eq_getElem hi]; rfl⟩
      refine setS_loop ((Walks.list hh3 _ l neI items).toS) hSf xs isz hb hval items.size 0 _ (Nat.zero_add _) ⟨⟨_, Heap.get?_push_size _ rfl, rfl, rfl⟩, (hl1.push _)⟩ ?hS0 ?hR
      case hS0 => exact ⟨0, Nat.le_refl 0, setS_none (Heap.get?_push_of_some _ hS)⟩
      case hR =>
        intro s' c' hm hc' hS'
        obtain ⟨h', g2, d', tk', os'⟩ := s'
        have e1 : g2 = s.gens := hm.gens
        have e2 : d' = s.drawn := hm.drawn
        have e3 : os' = s.os := hm.os
        subst e1 e2 e3
        refine wpAny_pure ?_
        show wpAny _ _ (ret Value.none) _ _ _
        rw [isz] at hc'
        refine wpAny_pure ⟨rfl, h', tk', c', rfl, hS', hc', fun b o e => hm.heap b o ?_ (Heap.get?_push_of_some _ (Heap.get?_push_of_some _ e))⟩
        have b0 : b < s.heap.objs.size := Heap.lt_size e
        simp only [List.mem_cons, List.not_mem_nil, or_false, not_or]
        exact ⟨Nat.ne_of_lt b0, by rw [sz1]; exact Nat.ne_of_lt (Nat.lt_succ_of_lt b0)⟩
    · cases r₂ with
      | error er => exact hr₂
      | ok fl₂ =>
       cases fl₂ with
       | ret r =>
        obtain ⟨rfl, h', tk, c', rfl, hS', hc', hk'⟩ := hr₂
        repeat (any_goals (first | assumption | wp_step))
        exact h _ _ _ hS' hc' hk'
       | _ => exact hr₂.elim
   | _ => exact hr.elim
end
end LR

namespace LR
open PySem PySem.Spec PyProof.Rows L2
section
variable {P : Program} {w : World} {A : Around} {E : Value → Shared → Prop} {s : Shared} {a : Addr}
theorem strs_of_txt : ∀ (l : List Value), (∀ v ∈ l, ∃ (k : Str) (tk : Tok), v = Value.str k tk) → StrsAre l (l.map fun v => txtOf (0, v))
  | [], _ => .nil
  | v :: l, h => by
    obtain ⟨k, tk, rfl⟩ := h v List.mem_cons_self
    exact .cons k tk (strs_of_txt l fun u hu => h u (List.mem_cons_of_mem _ hu))
/-- sorted of a set of texts -/
theorem sorted_setS {S : Str → Bool} {n : Nat} {Q : Value → Shared → Prop} (R : SetS w s.heap a S n) (hh : A.handled = none) (h64 : n < 64)
    (hQ : ∀ s' p (out : Array Value) (c : Nat) (ys : List Str), (∀ b o, s.heap.get? b = some o → s'.heap.get? b = some o) → s'.gens = s.gens → s'.os = s.os → s.heap.objs.size ≤ p →
      s'.heap.get? p = some (seqObj "list" out c) → StrsAre out.toList ys → (sortedS ys = true ∧ ys.Nodup) → (∀ k, k ∈ ys ↔ S k = true) → ys.length = n → Q (.ref p) s') :
    wpAny (model P w) A (call (.builtin "sorted") [.ref a]) Q E s := by
  obtain ⟨o, es, ep, t, ho, hex, hd, ⟨g, nd, hm⟩, ⟨hb, hf, hn⟩, hr⟩ := R
  refine Calls.call_function_entry kind_sorted plain_sorted entry_sorted (args_sorted1 _) ?_
  unfold Builtin.«sorted»
  refine wpAny_bind (m := checkCount "sorted" 1 1 _) (wpAny_pure (wpAny_bind (collect_set (A := A.in1) hh ⟨o, ho, hex.1, hd⟩ hf hb hr.1 hr.2 fun s1 vs k1 hz g1 o1 pm => ?_)))
  have vl : vs.length = n := by
    have := pm.length_eq
    simp at this
    omega
  have sa : StrsAre vs (vs.map fun v => txtOf (0, v)) := strs_of_txt vs fun v hv => by
    obtain ⟨e, he, q⟩ := List.mem_map.mp (pm.mem_iff.mp hv)
    obtain ⟨k, tk, h1, _⟩ := g e he
    exact ⟨k, tk, q ▸ h1⟩
  have pk : (vs.map fun v => txtOf (0, v)).Perm (es.toList.map txtOf) := by
    have q := pm.map fun v => txtOf (0, v)
    rw [List.map_map] at q
    exact q
  refine wpAny_bind (wpAny_newList ?_ (by rw [vl, sizeLine_eq]; omega))
  have hoL : (s1.heap.push (seqObj "list" vs.toArray 0)).get? s1.heap.objs.size = some (seqObj "list" vs.toArray 0) := Heap.get?_push_size _ rfl
  refine wpAny_bind (wpAny_holding (wpAny_call_entry slot_list_sort ⟨_, hoL, rfl⟩ entry_list_sort (list_sort_treeK strKind_oneLt hoL sa.keysOf (fun v₁ v₂ rest e => keyKind_strs (by rw [← e]; exact sa)) (by rw [vl]; exact h64) fun st' hp hs => ⟨_, rfl, ?_⟩) (args_list_sort _)))
  obtain ⟨ys, a1, a2, a3⟩ := sorted_out_str sa hp hs
  obtain ⟨c, hc⟩ := sortedHeap_at (vs := vs) (out := (arrOf st').map (·.2)) hoL
  have pn : ys.Perm (es.toList.map txtOf) := a2.trans pk
  refine wpAny_pure ⟨_, rfl, hQ _ s1.heap.objs.size _ c ys (fun b u e => ?_) g1 o1 hz hc a1 ⟨a3, pn.nodup_iff.mpr nd⟩ (fun k => by rw [pn.mem_iff, ← hm k]) (by rw [pn.length_eq, List.length_map, Array.length_toList]; exact hn)⟩
  have q := k1 b u e
  have lt := Heap.lt_size q
  show (sortedHeap (s1.heap.push (seqObj "list" vs.toArray 0)) s1.heap.objs.size vs ((arrOf st').map (·.2))).get? b = some u
  rw [sortedHeap_old (Nat.ne_of_lt lt) (by rw [size_push']; exact Nat.lt_succ_of_lt lt)]
  exact Heap.get?_push_of_some _ q
end
/-- a tracked set of texts -/
def SetSO (w : World) (a : Addr) (S : Str → Bool) (n : Nat) : HO := .ext fun h => SetS w h a S n
section
variable {X : Cx}
theorem setSO_get {pins : List (Addr × Obj)} {σ : L2.St} {H : Hp} {s : Shared} {a : Addr} {S : Str → Bool} {n : Nat} (I : Inv X pins σ H s) (ha : H a = some (SetSO X.w a S n)) : SetS X.w s.heap a S n := (I.hok a _ ha).1
/-- set(xs), xs a list of texts -/
theorem cr_setL (hc : X.calm = true) : CallR X (.type "set") (fun xs H Q => ∃ (l : Addr) (zs : List Str), xs = [V.ref l] ∧ SqL X.K H l (zs.map V.str) ∧ zs.length < 64 ∧
    ∀ p c, H p = none → c ≤ zs.length → Q (.ref p) (upd H p (SetSO X.w p (fun j => decide (j ∈ zs)) c))) := by
  intro pins s σ H xs us Q I r h
  obtain ⟨l, zs, rfl, hl, h64, q⟩ := h
  rw [Vals.ref1 r]
  obtain ⟨its, rv, pl, _⟩ := I.list hl
  refine set_of_list zs (I.ok.hd hc) pl.isList (by rw [List.toList_toArray]; exact rv.strs) (by unfold scanBound; omega) fun h' tk c R hc' k => ?_
  have hn : H s.heap.objs.size = none := I.hok.fresh (Nat.le_refl _)
  have R' := R
  obtain ⟨o, es, ep, t, ho, _⟩ := R'
  have ok : ObjOk X.prog X.w (upd H s.heap.objs.size (SetSO X.w s.heap.objs.size (fun j => decide (j ∈ zs)) c)) h' s.heap.objs.size (SetSO X.w s.heap.objs.size (fun j => decide (j ∈ zs)) c) := ⟨R, ⟨o, ho⟩, fun h1 h2 z k => z.at fun o e => k o e⟩
  exact ⟨.ref s.heap.objs.size, _, I.laid (t' := tk) k (Nat.le_refl _) ok, rfl, q _ c hn hc'⟩
/-- sorted(found), found a set of texts -/
theorem cr_sortedSetS (hc : X.calm = true) : CallR X (.builtin "sorted") (fun vs H Q => ∃ (a : Addr) (S : Str → Bool) (n : Nat), vs = [V.ref a] ∧ H a = some (SetSO X.w a S n) ∧ n < 64 ∧
    ∀ (ys : List Str) (p : Addr), sortedS ys = true → ys.Nodup → (∀ k, k ∈ ys ↔ S k = true) → ys.length = n → H p = none → Q (.ref p) (upd H p (.lst (ys.map V.str)))) := by
  intro pins s σ H vs us Q I r h
  obtain ⟨a, S, n, rfl, ha, h64, q⟩ := h
  rw [Vals.ref1 r]
  refine sorted_setS (setSO_get I ha) (I.ok.hd hc) h64 fun s' p out c ys k g o hp hg hi hs hm hl => ?_
  have len : (ys.map V.str).length ≤ sizeLine := by rw [List.length_map, hl, sizeLine_eq]; omega
  have hn : H p = none := I.hok.fresh hp
  have J : Inv X pins σ (upd H p (.lst (ys.map V.str))) { s with heap := s'.heap, gens := s'.gens, drawn := s'.drawn, toks := s'.toks } :=
    I.call (ch := []) (Un.laid k hp hn) (I.hok.laid k hp ⟨len, out.toList, c, vals_of_strs hi, hg⟩) (by rw [g]; exact I.bare) (fun _ z => nomatch z)
  have e : s' = { s with heap := s'.heap, gens := s'.gens, drawn := s'.drawn, toks := s'.toks } := by
    cases s'
    cases s
    cases o
    rfl
  rw [e]
  exact ⟨.ref p, _, J, rfl, q ys p hs.1 hs.2 hm hl hn⟩
end
end LR

namespace LK
open PySem PySem.Spec PyProof.Rows L2
/-! ### the four classes, their objects, each equal to itself -/
/-- what is known of a class of the program -/
structure OwnCl (K : PySem.W.Frag) (mg : Str → Option Value) (x : Str) (C : Addr) : Prop where
  cl : Cls K C
  ca : PySem.W.findIn K (.ref C) "__class__" = some (some (.builtin "object.__class__"))
  so : PySem.W.specialIn K (.builtin "object.__class__") "__get__" = some (some (.builtin "getset_descriptor.__get__"))
  tk : PySem.W.takesIn K (.builtin "object.__class__") = some true
  ob : PySem.W.mroIn K C (.type "object") = some true
  nt : PySem.W.kitOne K (.ref C) (.type "tuple") = some false
  nl : PySem.W.kitOne K (.ref C) (.type "list") = some false
  nb : PySem.W.kitOne K (.ref C) (.type "bool") = some false
  ns : PySem.W.kitOne K (.ref C) (.type "str") = some false
  g : mg x = some (.ref C)
theorem OwnCl.ty {K : PySem.W.Frag} {mg : Str → Option Value} {x : Str} {C a dx : Addr} {fs : List (Str × V)} {H : Hp} (c : OwnCl K mg x C) (h : H a = some (.ins C dx fs)) : TyX K H (.ref a) (.ref C) := .base (.ins h c.cl c.ca c.so c.tk c.ob)
theorem kit_self {K : PySem.W.Frag} {C : Addr} : PySem.W.kitOne K (.ref C) (.ref C) = some true := by
  unfold PySem.W.kitOne
  rw [if_pos (beq_self_eq_true _)]
/-- a method __eq__ of the class -/
structure EqM (K : PySem.W.Frag) (C : Addr) (st : Stmt) (q : Str) (f : Addr) (fd : FuncData) : Prop where
  F : Fun K "__eq__" q st f fd
  b : Binds K fd ["self", "other"] []
  at_ : PySem.W.findIn K (.ref C) "__eq__" = some (some (.ref f))
  fn : PySem.W.isFn K (.ref f) = true
def StepAt (C : Addr) (H : Hp) (a : Addr) (z w : Str) : Prop := ∃ dx, H a = some (.ins C dx [("name", .str z), ("ways", .str w)])
def ExprAt (K : PySem.W.Frag) (C : Addr) (H : Hp) (a : Addr) : Prop := ∃ dx z p x1 x2 x3 x4, H a = some (.ins C dx [("kind", .str "name"), ("word", .str z), ("step", .non), ("parts", .ref p), ("names", x1), ("steps", x2), ("size", x3), ("applied", x4)]) ∧ SqT K H p []
def TraitAt (K : PySem.W.Frag) (C : Addr) (H : Hp) (a : Addr) : Prop := ∃ dx z p b, H a = some (.ins C dx [("word", .str z), ("steps", .ref p)]) ∧ SqT K H p [.ref b]
def ChainAt (K : PySem.W.Frag) (C : Addr) (H : Hp) (a : Addr) : Prop := ∃ dx p b, H a = some (.ins C dx [("steps", .ref p)]) ∧ SqT K H p [.ref b]
/-- the very same thing -/
def DSame : Eqv := fun x y _ => ∃ a, x = .ref a ∧ y = .ref a
theorem mon_same : Mon DSame := fun _ _ _ _ _ d => d
theorem eqG_same {X : Cx} : EqG X 0 DSame := by
  intro A pins s σ H x y u v sb I rx ry d
  obtain ⟨a, rfl, rfl⟩ := d
  cases rx
  cases ry
  exact SeqAt.EqAt.same (A := A) (s := s) (.ref a) X.prog X.w X.xe _ ⟨rfl, H, I, Ext.rfl'⟩
theorem op_or {X : Cx} {op : Value → Value → Sem Value} {r r' : R2} (h : OpR X op r) (h' : OpR X op r') : OpR X op (fun x y H Q => r x y H Q ∨ r' x y H Q) := fun pins s σ H x y u v Q I rx ry d => d.elim (fun d => h pins s σ H x y u v Q I rx ry d) fun d => h' pins s σ H x y u v Q I rx ry d
/-- the same object, so seen by its class -/
def spSelf (R : Hp → Addr → Prop) : Sp := spEq fun a b H => a = b ∧ R H a
section
variable {P : Program} {w : World} {K : PySem.W.Frag} {mg : Str → Option Value} {base : Heap}
theorem scStepEq : FnScope ["self", "other"] ["self", "other"] (defScope sStepEq) := ⟨rfl, rfl, rfl, by decide +kernel, rfl, by decide +kernel, by decide +kernel⟩
theorem ok_stepEq {C f : Addr} {fd : FuncData} (S : Std mg) (c : OwnCl K mg "Step" C) (n1 : NoAttr K C "name") (n2 : NoAttr K C "ways") (F : Fun K "__eq__" "Step.__eq__" sStepEq f fd) :
    FnOk P w K mg base CX0 1 f fd ["self", "other"] (spSelf fun H a => ∃ z y, StepAt C H a z y) := by
  refine F.ok scStepEq (fun vs H Q E h => ?_) (fun cdv A outer s H vs Q E hr h => ?_)
  · obtain ⟨a, b, rfl, _⟩ := h
    rfl
  · obtain ⟨a, b, rfl, ⟨rfl, z, y, dx, ha⟩, q⟩ := h
    refine ⟨_, pss_one (ps_ret (pe_and (pe_callB call_isi (by rfl) S.isi (by decide +kernel) (pa_cons (pv 1) (pa_cons (pe_glob (v := .ref C) rfl c.g rfl) pa_nil)))
      (pe_and (pe_cmpR op_eq (pe_fld (pv 0) rfl) (pe_fld (pv 1) rfl) (nomark _)) (pe_one (pe_cmpR op_eq (pe_fld (pv 0) rfl) (pe_fld (pv 1) rfl) (nomark _)))))), ?_⟩
    refine ⟨_, rfl, _, _, _, _, true, rfl, .own C, c.ty ha, kit_self, true, rfl, iteT ?_⟩
    refine ⟨_, rfl, _, _, _, _, _, rfl, ha, c.cl, n1, rfl, _, rfl, _, _, _, _, _, rfl, ha, c.cl, n1, rfl, rfl, _, rfl, ?_⟩
    rw [decide_eq_true (show V.str z = V.str z from rfl)]
    refine iteT ⟨_, rfl, _, _, _, _, _, rfl, ha, c.cl, n2, rfl, _, rfl, _, _, _, _, _, rfl, ha, c.cl, n2, rfl, rfl, ?_⟩
    rw [decide_eq_true (show V.str y = V.str y from rfl)]
    exact q H Ext.rfl'
theorem prs_same {xs : List V} {H : Hp} (h : ∀ v, v ∈ xs → ∃ a, v = .ref a) : Prs DSame xs xs H := ⟨rfl, fun i x y e1 e2 => by
  rw [e1] at e2
  cases e2
  obtain ⟨a, rfl⟩ := h x (List.mem_of_getElem? e1)
  exact ⟨a, rfl, rfl⟩⟩
theorem scExprEq : FnScope ["self", "other"] ["self", "other"] (defScope sExprEq) := ⟨rfl, rfl, rfl, by decide +kernel, rfl, by decide +kernel, by decide +kernel⟩
theorem ok_exprEq {C f : Addr} {fd : FuncData} (S : Std mg) (c : OwnCl K mg "Expr" C) (n1 : NoAttr K C "kind") (n2 : NoAttr K C "word") (n3 : NoAttr K C "step") (n4 : NoAttr K C "parts") (F : Fun K "__eq__" "Expr.__eq__" sExprEq f fd) :
    FnOk P w K mg base CX0 2 f fd ["self", "other"] (spSelf (ExprAt K C)) := by
  refine F.ok scExprEq (fun vs H Q E h => ?_) (fun cdv A outer s H vs Q E hr h => ?_)
  · obtain ⟨a, b, rfl, _⟩ := h
    rfl
  · obtain ⟨a, b, rfl, ⟨rfl, dx, z, p, x1, x2, x3, x4, ha, hp⟩, q⟩ := h
    refine ⟨_, pss_one (ps_ret (pe_and (pe_callB call_isi (by rfl) S.isi (by decide +kernel) (pa_cons (pv 1) (pa_cons (pe_glob (v := .ref C) rfl c.g rfl) pa_nil)))
      (pe_and (pe_cmpR op_eq (pe_fld (pv 0) rfl) (pe_fld (pv 1) rfl) (nomark _)) (pe_and (pe_cmpR op_eq (pe_fld (pv 0) rfl) (pe_fld (pv 1) rfl) (nomark _)) (pe_and (pe_cmpR op_eq (pe_fld (pv 0) rfl) (pe_fld (pv 1) rfl) (nomark _))
        (pe_one (pe_cmpR (op_eqG (rcG_tup mon_same eqG_same) hr) (pe_fld (pv 0) rfl) (pe_fld (pv 1) rfl) (nomark _)))))))), ?_⟩
    refine ⟨_, rfl, _, _, _, _, true, rfl, .own C, c.ty ha, kit_self, true, rfl, iteT ?_⟩
    refine ⟨_, rfl, _, _, _, _, _, rfl, ha, c.cl, n1, rfl, _, rfl, _, _, _, _, _, rfl, ha, c.cl, n1, rfl, rfl, _, rfl, ?_⟩
    rw [decide_eq_true (show V.str "name" = V.str "name" from rfl)]
    refine iteT ⟨_, rfl, _, _, _, _, _, rfl, ha, c.cl, n2, rfl, _, rfl, _, _, _, _, _, rfl, ha, c.cl, n2, rfl, rfl, _, rfl, ?_⟩
    rw [decide_eq_true (show V.str z = V.str z from rfl)]
    refine iteT ⟨_, rfl, _, _, _, _, _, rfl, ha, c.cl, n3, rfl, _, rfl, _, _, _, _, _, rfl, ha, c.cl, n3, rfl, rfl, _, rfl, ?_⟩
    rw [decide_eq_true (show V.non = V.non from rfl)]
    refine iteT ⟨_, rfl, _, _, _, _, _, rfl, ha, c.cl, n4, rfl, _, rfl, _, _, _, _, _, rfl, ha, c.cl, n4, rfl, ?_⟩
    exact ⟨⟨p, p, [], [], rfl, rfl, hp, hp, Prs.nil⟩, q⟩
theorem scTraitEq : FnScope ["self", "other"] ["self", "other"] (defScope sTraitEq) := ⟨rfl, rfl, rfl, by decide +kernel, rfl, by decide +kernel, by decide +kernel⟩
theorem ok_traitEq {C f : Addr} {fd : FuncData} (S : Std mg) (c : OwnCl K mg "Trait" C) (n1 : NoAttr K C "word") (n2 : NoAttr K C "steps") (F : Fun K "__eq__" "Trait.__eq__" sTraitEq f fd) :
    FnOk P w K mg base CX0 2 f fd ["self", "other"] (spSelf (TraitAt K C)) := by
  refine F.ok scTraitEq (fun vs H Q E h => ?_) (fun cdv A outer s H vs Q E hr h => ?_)
  · obtain ⟨a, b, rfl, _⟩ := h
    rfl
  · obtain ⟨a, b, rfl, ⟨rfl, dx, z, p, o, ha, hp⟩, q⟩ := h
    refine ⟨_, pss_one (ps_ret (pe_and (pe_callB call_isi (by rfl) S.isi (by decide +kernel) (pa_cons (pv 1) (pa_cons (pe_glob (v := .ref C) rfl c.g rfl) pa_nil)))
      (pe_and (pe_cmpR op_eq (pe_fld (pv 0) rfl) (pe_fld (pv 1) rfl) (nomark _)) (pe_one (pe_cmpR (op_eqG (rcG_tup mon_same eqG_same) hr) (pe_fld (pv 0) rfl) (pe_fld (pv 1) rfl) (nomark _)))))), ?_⟩
    refine ⟨_, rfl, _, _, _, _, true, rfl, .own C, c.ty ha, kit_self, true, rfl, iteT ?_⟩
    refine ⟨_, rfl, _, _, _, _, _, rfl, ha, c.cl, n1, rfl, _, rfl, _, _, _, _, _, rfl, ha, c.cl, n1, rfl, rfl, _, rfl, ?_⟩
    rw [decide_eq_true (show V.str z = V.str z from rfl)]
    refine iteT ⟨_, rfl, _, _, _, _, _, rfl, ha, c.cl, n2, rfl, _, rfl, _, _, _, _, _, rfl, ha, c.cl, n2, rfl, ?_⟩
    exact ⟨⟨p, p, _, _, rfl, rfl, hp, hp, prs_same fun v hv => ⟨o, by simpa using hv⟩⟩, q⟩
theorem scChainEq : FnScope ["self", "other"] ["self", "other"] (defScope sChainEq) := ⟨rfl, rfl, rfl, by decide +kernel, rfl, by decide +kernel, by decide +kernel⟩
theorem ok_chainEq {C f : Addr} {fd : FuncData} (S : Std mg) (c : OwnCl K mg "Chain" C) (n2 : NoAttr K C "steps") (F : Fun K "__eq__" "Chain.__eq__" sChainEq f fd) :
    FnOk P w K mg base CX0 2 f fd ["self", "other"] (spSelf (ChainAt K C)) := by
  refine F.ok scChainEq (fun vs H Q E h => ?_) (fun cdv A outer s H vs Q E hr h => ?_)
  · obtain ⟨a, b, rfl, _⟩ := h
    rfl
  · obtain ⟨a, b, rfl, ⟨rfl, dx, p, o, ha, hp⟩, q⟩ := h
    refine ⟨_, pss_one (ps_ret (pe_and (pe_callB call_isi (by rfl) S.isi (by decide +kernel) (pa_cons (pv 1) (pa_cons (pe_glob (v := .ref C) rfl c.g rfl) pa_nil)))
      (pe_one (pe_cmpR (op_eqG (rcG_tup mon_same eqG_same) hr) (pe_fld (pv 0) rfl) (pe_fld (pv 1) rfl) (nomark _))))), ?_⟩
    refine ⟨_, rfl, _, _, _, _, true, rfl, .own C, c.ty ha, kit_self, true, rfl, iteT ?_⟩
    refine ⟨_, rfl, _, _, _, _, _, rfl, ha, c.cl, n2, rfl, _, rfl, _, _, _, _, _, rfl, ha, c.cl, n2, rfl, ?_⟩
    exact ⟨⟨p, p, _, _, rfl, rfl, hp, hp, prs_same fun v hv => ⟨o, by simpa using hv⟩⟩, q⟩
end
end LK

namespace LK
open PySem PySem.Spec PyProof.Rows L2
theorem lc_zipL {K : PySem.W.Frag} {a b : Addr} {xs ys : List V} {g : TG} {tt : TT} {te : TE} {vs : List Nat} {σ : L2.St} {H1 : Hp} {D : Addr} {Qd : Hp → Prop} (hl : xs.length = ys.length) (Pv : Nat → Hp → Prop) (h0 : Pv 0 (upd H1 D (.lst []))) (hq : ∀ i H, Pv i H → SqL K H a xs ∧ SqL K H b ys)
    (hs : ∀ (i : Nat) (x y : V) (T : Addr) (H : Hp), xs[i]? = some x → ys[i]? = some y → Pv i H → H T = none → g (.ref T) (wipe σ vs) (upd H T (.tup [x, y])) fun σ2 H2 => wipe σ2 vs = wipe σ vs ∧ tt σ2 H2 fun b H3 =>
      if b = true then te σ2 H3 fun y H4 => ∃ acc, H4 D = some (.lst acc) ∧ acc.length < sizeLine ∧ Pv (i + 1) (upd H4 D (.lst (acc ++ [y]))) else Pv (i + 1) H3) (hd : ∀ H, Pv xs.length H → Qd H) :
    ∃ W : Nat → Nat → Hp → Prop, (∃ m, W 0 m (upd H1 D (.lst []))) ∧ ∀ i m H, W i m H →
      ((Itz K a b).stop i H ∧ Qd H) ∨ ((Itz K a b).go i H ∧ ∃ Nx : Hp → Prop, (∀ H', Nx H' → ∃ m', m' < m ∧ W (i + 1) m' H') ∧ ∀ x H', (Itz K a b).yld i H x H' → g x (wipe σ vs) H' fun σ2 H2 => wipe σ2 vs = wipe σ vs ∧ tt σ2 H2 fun b H3 =>
        if b = true then te σ2 H3 fun y H4 => ∃ acc, H4 D = some (.lst acc) ∧ acc.length < sizeLine ∧ Nx (upd H4 D (.lst (acc ++ [y]))) else Nx H3) := by
  refine ⟨fun i m H => m = xs.length - i ∧ i ≤ xs.length ∧ Pv i H, ⟨xs.length, by simp, Nat.zero_le _, h0⟩, ?_⟩
  rintro i m H ⟨rfl, hi, p⟩
  obtain ⟨q1, q2⟩ := hq i H p
  by_cases hlt : i < xs.length
  · refine .inr ⟨⟨xs, ys, xs[i], ys[i]'(by omega), q1, q2, by simp [hlt], by simp [← hl, hlt]⟩, Pv (i + 1), fun H' p' => ⟨xs.length - (i + 1), by omega, rfl, hlt, p'⟩, fun v H' y => ?_⟩
    obtain ⟨T, x, y', rfl, hT, rfl, hx, hy⟩ := y
    exact hs i x y' T H (hx xs q1) (hy ys q2) p hT
  · have e : i = xs.length := by omega
    subst e
    exact .inl ⟨⟨xs, ys, q1, q2, .inl (Nat.le_refl _)⟩, hd H p⟩
theorem lc_zipT {K : PySem.W.Frag} {a b : Addr} {xs ys : List V} {g : TG} {tt : TT} {te : TE} {vs : List Nat} {σ : L2.St} {H1 : Hp} {D : Addr} {Qd : Hp → Prop} (hl : xs.length = ys.length) (Pv : Nat → Hp → Prop) (h0 : Pv 0 (upd H1 D (.lst []))) (hq : ∀ i H, Pv i H → SqT K H a xs ∧ SqT K H b ys)
    (hs : ∀ (i : Nat) (x y : V) (T : Addr) (H : Hp), xs[i]? = some x → ys[i]? = some y → Pv i H → H T = none → g (.ref T) (wipe σ vs) (upd H T (.tup [x, y])) fun σ2 H2 => wipe σ2 vs = wipe σ vs ∧ tt σ2 H2 fun b H3 =>
      if b = true then te σ2 H3 fun y H4 => ∃ acc, H4 D = some (.lst acc) ∧ acc.length < sizeLine ∧ Pv (i + 1) (upd H4 D (.lst (acc ++ [y]))) else Pv (i + 1) H3) (hd : ∀ H, Pv xs.length H → Qd H) :
    ∃ W : Nat → Nat → Hp → Prop, (∃ m, W 0 m (upd H1 D (.lst []))) ∧ ∀ i m H, W i m H →
      ((RZ.ItzT K a b).stop i H ∧ Qd H) ∨ ((RZ.ItzT K a b).go i H ∧ ∃ Nx : Hp → Prop, (∀ H', Nx H' → ∃ m', m' < m ∧ W (i + 1) m' H') ∧ ∀ x H', (RZ.ItzT K a b).yld i H x H' → g x (wipe σ vs) H' fun σ2 H2 => wipe σ2 vs = wipe σ vs ∧ tt σ2 H2 fun b H3 =>
        if b = true then te σ2 H3 fun y H4 => ∃ acc, H4 D = some (.lst acc) ∧ acc.length < sizeLine ∧ Nx (upd H4 D (.lst (acc ++ [y]))) else Nx H3) := by
  refine ⟨fun i m H => m = xs.length - i ∧ i ≤ xs.length ∧ Pv i H, ⟨xs.length, by simp, Nat.zero_le _, h0⟩, ?_⟩
  rintro i m H ⟨rfl, hi, p⟩
  obtain ⟨q1, q2⟩ := hq i H p
  by_cases hlt : i < xs.length
  · refine .inr ⟨⟨xs, ys, xs[i], ys[i]'(by omega), q1, q2, by simp [hlt], by simp [← hl, hlt]⟩, Pv (i + 1), fun H' p' => ⟨xs.length - (i + 1), by omega, rfl, hlt, p'⟩, fun v H' y => ?_⟩
    obtain ⟨T, x, y', rfl, hT, rfl, hx, hy⟩ := y
    exact hs i x y' T H (hx xs q1) (hy ys q2) p hT
  · have e : i = xs.length := by omega
    subst e
    exact .inl ⟨⟨xs, ys, q1, q2, .inl (Nat.le_refl _)⟩, hd H p⟩
theorem SqT.same {K : PySem.W.Frag} {H H' : Hp} {a : Addr} {xs : List V} (e : Same H H') (h : SqT K H a xs) : SqT K H' a xs := by
  rcases h with (h | ⟨o, h⟩) | h
  · exact .inl (.inl (e _ _ h))
  · exact .inl (.inr ⟨o, e _ _ h⟩)
  · exact .inr h
theorem kitA {K : PySem.W.Frag} {t : Value} {r1 r2 : Bool} (h1 : PySem.W.kitOne K t (.type "tuple") = some r1) (h2 : PySem.W.kitOne K t (.type "list") = some r2) : PySem.W.kitAny K t [.type "tuple", .type "list"] = some (r1 || r2) := by
  unfold PySem.W.kitAny
  rw [h1]
  cases r1 with
  | true => rfl
  | false =>
    show PySem.W.kitAny K t [.type "list"] = _
    unfold PySem.W.kitAny
    rw [h2]
    cases r2 <;> rfl
/-- the classes of the program whose objects a value may hold -/
structure Kinds where
  cS : Addr
  cE : Addr
  cT : Addr
  cC : Addr
/-- the ways of a step: one to three of the three signs -/
structure WaysOk (y : Str) : Prop where
  pos : 0 < y.length
  len : y.length ≤ 3
  sg : ∀ c, c ∈ TL.tl y → c ∈ TL.tl ("+-?" : Str)
/-- one that holds no other -/
inductive Leaf (K : PySem.W.Frag) (k : Kinds) (H : Hp) : V → Prop where
  | non : Leaf K k H .non
  | bl (b : Bool) : Leaf K k H (.bl b)
  | int (i : Int) : Leaf K k H (.int i)
  | str (z : Str) (h : z.length ≤ 1000) : Leaf K k H (.str z)
  | step {a : Addr} {z y : Str} (h : StepAt k.cS H a z y) (hz : NameOk z) (hy : WaysOk y) : Leaf K k H (.ref a)
  | expr {a : Addr} (h : ExprAt K k.cE H a) : Leaf K k H (.ref a)
  | trait {a : Addr} (h : TraitAt K k.cT H a) : Leaf K k H (.ref a)
  | chain {a : Addr} (h : ChainAt K k.cC H a) : Leaf K k H (.ref a)
theorem Leaf.same {K : PySem.W.Frag} {k : Kinds} {H H' : Hp} {v : V} (s : Same H H') (h : Leaf K k H v) : Leaf K k H' v := by
  cases h with
  | non => exact .non
  | bl b => exact .bl b
  | int i => exact .int i
  | str z h => exact .str z h
  | step h hz hy =>
    obtain ⟨dx, h⟩ := h
    exact .step ⟨dx, s _ _ h⟩ hz hy
  | expr h =>
    obtain ⟨dx, z, p, x1, x2, x3, x4, h, hp⟩ := h
    exact .expr ⟨dx, z, p, x1, x2, x3, x4, s _ _ h, SqT.same s hp⟩
  | trait h =>
    obtain ⟨dx, z, p, b, h, hp⟩ := h
    exact .trait ⟨dx, z, p, b, s _ _ h, SqT.same s hp⟩
  | chain h =>
    obtain ⟨dx, p, b, h, hp⟩ := h
    exact .chain ⟨dx, p, b, s _ _ h, SqT.same s hp⟩
/-- two values that are just alike, at most n levels deep -/
def Alike (K : PySem.W.Frag) (k : Kinds) : Nat → Hp → V → V → Prop
  | 0, _, _, _ => False
  | n + 1, H, x, y => (Leaf K k H x ∧ x = y) ∨ ∃ a b xs ys, x = .ref a ∧ y = .ref b ∧ xs.length = ys.length ∧ xs.length ≤ 20 ∧ ((H a = some (.lst xs) ∧ H b = some (.lst ys)) ∨ (H a = some (.tup xs) ∧ H b = some (.tup ys))) ∧
      ∀ (i : Nat) x' y', xs[i]? = some x' → ys[i]? = some y' → Alike K k n H x' y'
theorem Alike.same {K : PySem.W.Frag} {k : Kinds} {H H' : Hp} (s : Same H H') : ∀ {n : Nat} {x y : V}, Alike K k n H x y → Alike K k n H' x y
  | 0, _, _, h => h.elim
  | n + 1, x, y, h => by
    rcases h with ⟨h, e⟩ | ⟨a, b, xs, ys, e1, e2, hl, h20, hq, hi⟩
    · exact .inl ⟨h.same s, e⟩
    · refine .inr ⟨a, b, xs, ys, e1, e2, hl, h20, ?_, fun i x' y' p q => (hi i x' y' p q).same s⟩
      rcases hq with ⟨p, q⟩ | ⟨p, q⟩
      · exact .inl ⟨s _ _ p, s _ _ q⟩
      · exact .inr ⟨s _ _ p, s _ _ q⟩
theorem Alike.up {K : PySem.W.Frag} {k : Kinds} {H : Hp} : ∀ {n : Nat} {x y : V}, Alike K k n H x y → Alike K k (n + 1) H x y
  | 0, _, _, h => h.elim
  | n + 1, x, y, h => by
    rcases h with h | ⟨a, b, xs, ys, e1, e2, hl, h20, hq, hi⟩
    · exact .inl h
    · exact .inr ⟨a, b, xs, ys, e1, e2, hl, h20, hq, fun i x' y' p q => (hi i x' y' p q).up⟩
/-- what the classes must have -/
structure Kin (K : PySem.W.Frag) (mg : Str → Option Value) (k : Kinds) (eS eE eT eC : Addr) (dS dE dT dC : FuncData) : Prop where
  S : OwnCl K mg "Step" k.cS
  E : OwnCl K mg "Expr" k.cE
  T : OwnCl K mg "Trait" k.cT
  C : OwnCl K mg "Chain" k.cC
  qS : EqM K k.cS sStepEq "Step.__eq__" eS dS
  qE : EqM K k.cE sExprEq "Expr.__eq__" eE dE
  qT : EqM K k.cT sTraitEq "Trait.__eq__" eT dT
  qC : EqM K k.cC sChainEq "Chain.__eq__" eC dC
  s1 : NoAttr K k.cS "name"
  s2 : NoAttr K k.cS "ways"
  e1 : NoAttr K k.cE "kind"
  e2 : NoAttr K k.cE "word"
  e3 : NoAttr K k.cE "step"
  e4 : NoAttr K k.cE "parts"
  t1 : NoAttr K k.cT "word"
  t2 : NoAttr K k.cT "steps"
  c1 : NoAttr K k.cC "steps"
/-- an object of the four classes, and itself -/
def DObj (K : PySem.W.Frag) (k : Kinds) : Eqv := fun x y H =>
  ((DIns k.cS (fun a b H => a = b ∧ ∃ z y, StepAt k.cS H a z y) x y H ∨ DIns k.cE (fun a b H => a = b ∧ ExprAt K k.cE H a) x y H) ∨ DIns k.cT (fun a b H => a = b ∧ TraitAt K k.cT H a) x y H) ∨ DIns k.cC (fun a b H => a = b ∧ ChainAt K k.cC H a) x y H
theorem rcOr {X : Cx} {n : Nat} {D D' : Eqv} (h : RcG X n D) (h' : RcG X n D') : RcG X n (fun x y H => D x y H ∨ D' x y H) := fun A pins s σ H x y u v sb I rx ry d => d.elim (fun d => h A pins s σ H x y u v sb I rx ry d) fun d => h' A pins s σ H x y u v sb I rx ry d
theorem rcMono {X : Cx} {n m : Nat} {D : Eqv} (h : RcG X n D) (hn : n ≤ m) : RcG X m D := fun A pins s σ H x y u v sb => h A pins s σ H x y u v (sb.mono hn)
theorem rc_obj {X : Cx} {k : Kinds} {eS eE eT eC : Addr} {dS dE dT dC : FuncData} (S : Std X.mg) (k' : Kin X.K X.mg k eS eE eT eC dS dE dT dC) : RcG X 2 (DObj X.K k) :=
  rcOr (rcOr (rcOr (rcMono (n := 1) (rcG_ins (ok_stepEq S k'.S k'.s1 k'.s2 k'.qS.F) k'.qS.at_ k'.qS.fn k'.qS.b pass0) (by decide)) (rcG_ins (ok_exprEq S k'.E k'.e1 k'.e2 k'.e3 k'.e4 k'.qE.F) k'.qE.at_ k'.qE.fn k'.qE.b pass0))
    (rcG_ins (ok_traitEq S k'.T k'.t1 k'.t2 k'.qT.F) k'.qT.at_ k'.qT.fn k'.qT.b pass0)) (rcG_ins (ok_chainEq S k'.C k'.c1 k'.qC.F) k'.qC.at_ k'.qC.fn k'.qC.b pass0)
/-- what kind it is, and that it is its own equal -/
theorem leaf_kind {K : PySem.W.Frag} {mg : Str → Option Value} {k : Kinds} {eS eE eT eC : Addr} {dS dE dT dC : FuncData} {H : Hp} {v : V} (k' : Kin K mg k eS eE eT eC dS dE dT dC) (h : Leaf K k H v) :
    ∃ t bb, TyX K H v t ∧ PySem.W.kitOne K t (.type "tuple") = some false ∧ PySem.W.kitOne K t (.type "list") = some false ∧ PySem.W.kitOne K t (.type "bool") = some bb ∧ (scal v v = true ∨ DObj K k v v H) := by
  cases h with
  | non => exact ⟨_, false, .base .non, kit_ty (by decide +kernel), kit_ty (by decide +kernel), kit_ty (by decide +kernel), .inl rfl⟩
  | bl b => exact ⟨_, true, .base (.bl b), kit_ty (by decide +kernel), kit_ty (by decide +kernel), kit_ty (by decide +kernel), .inl rfl⟩
  | int i => exact ⟨_, false, .base (.int i), kit_ty (by decide +kernel), kit_ty (by decide +kernel), kit_ty (by decide +kernel), .inl rfl⟩
  | str z _ => exact ⟨_, false, .base (.str z), kit_ty (by decide +kernel), kit_ty (by decide +kernel), kit_ty (by decide +kernel), .inl rfl⟩
  | @step a z y h hz hy =>
    obtain ⟨dx, e⟩ := h
    exact ⟨_, false, k'.S.ty e, k'.S.nt, k'.S.nl, k'.S.nb, .inr (.inl (.inl (.inl ⟨a, a, dx, dx, _, _, rfl, rfl, e, e, rfl, z, y, dx, e⟩)))⟩
  | @expr a h =>
    have h' := h
    obtain ⟨dx, z, p, x1, x2, x3, x4, e, hp⟩ := h
    exact ⟨_, false, k'.E.ty e, k'.E.nt, k'.E.nl, k'.E.nb, .inr (.inl (.inl (.inr ⟨a, a, dx, dx, _, _, rfl, rfl, e, e, rfl, h'⟩)))⟩
  | @trait a h =>
    have h' := h
    obtain ⟨dx, z, p, b, e, hp⟩ := h
    exact ⟨_, false, k'.T.ty e, k'.T.nt, k'.T.nl, k'.T.nb, .inr (.inl (.inr ⟨a, a, dx, dx, _, _, rfl, rfl, e, e, rfl, h'⟩))⟩
  | @chain a h =>
    have h' := h
    obtain ⟨dx, p, b, e, hp⟩ := h
    exact ⟨_, false, k'.C.ty e, k'.C.nt, k'.C.nl, k'.C.nb, .inr (.inr ⟨a, a, dx, dx, _, _, rfl, rfl, e, e, rfl, h'⟩)⟩
def spSame (K : PySem.W.Frag) (k : Kinds) (n : Nat) : Sp := fun vs H Q _ => ∃ (x y : V), vs = [x, y] ∧ Alike K k n H x y ∧ ∀ H', Same H H' → Q (.bl true) H'
section
variable {P : Program} {w : World} {K : PySem.W.Frag} {mg : Str → Option Value} {base : Heap}
def nSame : List Str := ["_law_found", "_law_due_here", "_law_one", "_law_other"]
theorem scSame : FnScope nSame ["_law_found", "_law_due_here"] (defScope sSame) := ⟨rfl, rfl, rfl, by decide +kernel, rfl, by decide +kernel, by decide +kernel⟩
theorem ok_same {f eS eE eT eC : Addr} {fd dS dE dT dC : FuncData} {k : Kinds} (S : Std mg) (k' : Kin K mg k eS eE eT eC dS dE dT dC) (D : Df K mg "_law_same" sSame f fd ["_law_found", "_law_due_here"]) : ∀ n, FnOk P w K mg base CX0 (n + 3) f fd ["_law_found", "_law_due_here"] (spSame K k n)
  | 0 => D.F.ok scSame (fun vs H Q E h => by obtain ⟨x, y, _, h, _⟩ := h; exact h.elim) (fun cdv A outer s H vs Q E hr h => by obtain ⟨x, y, _, h, _⟩ := h; exact h.elim)
  | n + 1 => by
    have G := ok_same S k' D n
    refine D.F.ok scSame (fun vs H Q E h => ?_) (fun cdv A outer s H vs Q E hr h => ?_)
    · obtain ⟨x, y, rfl, _⟩ := h
      rfl
    · obtain ⟨x, y, rfl, hd, q⟩ := h
      refine ⟨_, pss_cons (ps_if (pt_val (pe_callB call_isiT (by rfl) S.isi (by decide +kernel) (pa_cons (pv 1) (pa_cons (pe_tup (pa_cons (pe_bltn (v := .ty "tuple") (by rfl) S.tuple (by decide +kernel) rfl) (pa_cons (pe_bltn (v := .ty "list") (by rfl) S.list (by decide +kernel) rfl) pa_nil))) pa_nil))))
        (pss_cons (ps_if (PW.pt (pw_or (pt_cmpR op_ne (pe_callB call_isi (by rfl) S.isi (by decide +kernel) (pa_cons (pv 0) (pa_cons (pe_bltn (v := .ty "tuple") (by rfl) S.tuple (by decide +kernel) rfl) pa_nil))) (pe_callB call_isi (by rfl) S.isi (by decide +kernel) (pa_cons (pv 1) (pa_cons (pe_bltn (v := .ty "tuple") (by rfl) S.tuple (by decide +kernel) rfl) pa_nil))) (nomark _))
            (pw_or1 (pt_cmpR op_ne (pe_callB call_isi (by rfl) S.isi (by decide +kernel) (pa_cons (pv 0) (pa_cons (pe_bltn (v := .ty "list") (by rfl) S.list (by decide +kernel) rfl) pa_nil))) (pe_callB call_isi (by rfl) S.isi (by decide +kernel) (pa_cons (pv 1) (pa_cons (pe_bltn (v := .ty "list") (by rfl) S.list (by decide +kernel) rfl) pa_nil))) (nomark _)))))
          (pss_one (ps_ret pe_bl)) pss_nil)
        (pss_one (ps_ret (pe_and (pe_cmpR op_eq (pe_callB call_len (by rfl) S.len PySem.boot_len (pa_cons (pv 0) pa_nil)) (pe_callB call_len (by rfl) S.len PySem.boot_len (pa_cons (pv 1) pa_nil)) (nomark _))
          (pe_one (pe_callB (cr_all rfl) (by rfl) S.all (by decide +kernel) (pa_cons (pe_lc (own := [("_law_one", 2), ("_law_other", 3)]) (g := gTup K 2 (gCons (gName 2) (gCons (gName 3) gNil))) (tt := tYes) rfl scSame.nd
            (RZ.pi_zipA (by rfl) S.zip (pa_cons (pv 0) (pa_cons (pv 1) pa_nil))) (blkOk_by (N := nSame) (sc := defScope sSame) (by decide +kernel))
            (fun _ _ _ _ _ => pg_tup rfl (pgs_cons (pg_name (i := 2) scSame.nd rfl (Or.inl rfl)) (pgs_cons (pg_name (i := 3) scSame.nd rfl (Or.inl rfl)) pgs_nil))) (fun _ _ _ _ _ => pts_nil)
            (fun _ _ _ _ _ => pe_call G hr rfl D.g D.F.kp D.b .nil pass0 (pa_cons (pv 2) (pa_cons (pv 3) pa_nil)))) pa_nil))))))) pss_nil)
        (pss_one (ps_ret (pe_and (pe_cmpR op_eq (pe_callB call_isi (by rfl) S.isi (by decide +kernel) (pa_cons (pv 0) (pa_cons (pe_bltn (v := .ty "bool") (by rfl) S.bool (by decide +kernel) rfl) pa_nil))) (pe_callB call_isi (by rfl) S.isi (by decide +kernel) (pa_cons (pv 1) (pa_cons (pe_bltn (v := .ty "bool") (by rfl) S.bool (by decide +kernel) rfl) pa_nil))) (nomark _))
          (pe_one (pe_cmpR (op_or op_eq (op_eqG (rc_obj S k') (hr.mono (by omega)))) (pv 0) (pv 1) (nomark _)))))), ?_⟩
      refine ⟨_, rfl, (by show 2 ≤ sizeLine; decide), fun p hp => ?_⟩
      have s1 : Same H (upd H p (.tup [.ty "tuple", .ty "list"])) := same_new hp
      have kp := q _ s1
      rcases hd with ⟨lf, rfl⟩ | ⟨a, b, xs, ys, rfl, rfl, hxy, h20, hq, hi⟩
      · obtain ⟨t, bb, ty, k1, k2, k3, self⟩ := leaf_kind k' (lf.same s1)
        refine ⟨x, p, _, _, _, _, rfl, upd_same, .cons (.ty _) (.cons (.ty _) .nil), ty, kitA k1 k2, _, rfl, iteF ?_⟩
        refine ⟨_, rfl, _, _, _, _, bb, rfl, .ty "bool", ty, k3, _, rfl, _, _, _, _, bb, rfl, .ty "bool", ty, k3, rfl, _, rfl, ?_⟩
        rw [decide_eq_true (show V.bl bb = V.bl bb from rfl)]
        refine iteT ⟨_, rfl, _, rfl, ?_⟩
        rcases self with self | self
        · refine .inl ⟨self, ?_⟩
          rw [decide_eq_true (show x = x from rfl)]
          exact kp
        · exact .inr ⟨self, fun H' e => q _ fun a o z => e a o (s1 a o z)⟩
      · have tys : ∃ t tt ll, TyX K (upd H p (.tup [.ty "tuple", .ty "list"])) (.ref a) t ∧ TyX K (upd H p (.tup [.ty "tuple", .ty "list"])) (.ref b) t ∧ PySem.W.kitOne K t (.type "tuple") = some tt ∧ PySem.W.kitOne K t (.type "list") = some ll ∧ (tt || ll) = true := by
          rcases hq with ⟨h1, h2⟩ | ⟨h1, h2⟩
          · exact ⟨.type "list", false, true, .base (.lst (s1 _ _ h1)), .base (.lst (s1 _ _ h2)), kit_ty (by decide +kernel), kit_ty (by decide +kernel), rfl⟩
          · exact ⟨.type "tuple", true, false, .base (.tup (s1 _ _ h1)), .base (.tup (s1 _ _ h2)), kit_ty (by decide +kernel), kit_ty (by decide +kernel), rfl⟩
        obtain ⟨ty, t, l, tx1, ty1, k1, k2, k3⟩ := tys
        refine ⟨_, p, _, _, _, _, rfl, upd_same, .cons (.ty _) (.cons (.ty _) .nil), ty1, kitA k1 k2, _, rfl, ?_⟩
        rw [k3]
        refine iteT ?_
        refine ⟨_, rfl, _, _, _, _, t, rfl, .ty "tuple", tx1, k1, _, rfl, _, _, _, _, t, rfl, .ty "tuple", ty1, k1, rfl, _, rfl, ?_⟩
        rw [decide_eq_true (show V.bl t = V.bl t from rfl)]
        refine iteF ?_
        refine ⟨_, rfl, _, _, _, _, l, rfl, .ty "list", tx1, k2, _, rfl, _, _, _, _, l, rfl, .ty "list", ty1, k2, rfl, _, rfl, ?_⟩
        rw [decide_eq_true (show V.bl l = V.bl l from rfl)]
        refine iteF ?_
        have lens : LenV K (V.ref a) (upd H p (.tup [.ty "tuple", .ty "list"])) xs.length ∧ LenV K (V.ref b) (upd H p (.tup [.ty "tuple", .ty "list"])) ys.length := by
          rcases hq with ⟨h1, h2⟩ | ⟨h1, h2⟩
          · exact ⟨.inl ⟨_, SqL.of (s1 _ _ h1), rfl⟩, .inl ⟨_, SqL.of (s1 _ _ h2), rfl⟩⟩
          · exact ⟨.inr ⟨_, SqT.of (s1 _ _ h1), rfl⟩, .inr ⟨_, SqT.of (s1 _ _ h2), rfl⟩⟩
        refine ⟨_, rfl, _, _, rfl, lens.1, _, rfl, _, _, rfl, lens.2, rfl, _, rfl, ?_⟩
        rw [decide_eq_true (show V.int xs.length = V.int ys.length by rw [hxy])]
        refine iteT ?_
        have inv0 : ∀ D : Addr, (upd H p (.tup [.ty "tuple", .ty "list"])) D = none → Keep D H (upd (upd H p (.tup [.ty "tuple", .ty "list"])) D (.lst [])) := fun D hD => (Keep.same s1).trans (Keep.new hD)
        have turn : ∀ (D : Addr), H D = none → ∀ (i : Nat) (x y : V) (T : Addr) (H4 : Hp), xs[i]? = some x → ys[i]? = some y → (Keep D H H4 ∧ H4 D = some (.lst (List.replicate i (V.bl true)))) → H4 T = none →
            spSame K k n [x, y] (upd H4 T (.tup [x, y])) (fun y H5 => ∃ acc, H5 D = some (.lst acc) ∧ acc.length < sizeLine ∧ (Keep D H (upd H5 D (.lst (acc ++ [y]))) ∧ (upd H5 D (.lst (acc ++ [y]))) D = some (.lst (List.replicate (i + 1) (V.bl true))))) E0 := by
          rintro D hD i x y T H4 hx hy ⟨k4, d4⟩ hT
          have sH : Same H H4 := fun b o e => k4 b o (ne_of_none e hD) e
          have s4 : Same H (upd H4 T (.tup [x, y])) := sH.trans (same_new hT)
          refine ⟨x, y, rfl, (hi i x y hx hy).same s4, fun H5 s5 => ?_⟩
          have lt : i < xs.length := (List.getElem?_eq_some_iff.mp hx).1
          refine ⟨_, s5 _ _ (same_new hT _ _ d4), by rw [List.length_replicate]; exact small1000 (by omega), fun b o n e => ?_, ?_⟩
          · rw [upd_ne n]
            exact s5 _ _ (s4 b o e)
          · rw [upd_same, List.replicate_succ']
        have fin : ∀ (D : Addr), H D = none → ∀ H4 : Hp, (Keep D H H4 ∧ H4 D = some (.lst (List.replicate xs.length (V.bl true)))) → ∃ (a' : Addr) (bs : List Bool), [V.ref D] = [V.ref a'] ∧ SqL K H4 a' (bs.map V.bl) ∧ Q (.bl (bs.all id)) H4 := by
          rintro D hD H4 ⟨k4, d4⟩
          refine ⟨D, List.replicate xs.length true, rfl, SqL.of (by rw [List.map_replicate]; exact d4), ?_⟩
          rw [show (List.replicate xs.length true).all id = true from by rw [List.all_eq_true]; intro b hb; exact (List.mem_replicate.mp hb).2]
          exact q _ fun b o e => k4 b o (ne_of_none e hD) e
        refine ⟨_, rfl, _, rfl, a, b, xs, ys, rfl, ?_⟩
        rcases hq with ⟨h1, h2⟩ | ⟨h1, h2⟩
        · refine .inl ⟨SqL.of (s1 _ _ h1), SqL.of (s1 _ _ h2), fun D hD => lc_zipL hxy (fun i H4 => Keep D H H4 ∧ H4 D = some (.lst (List.replicate i (V.bl true)))) ⟨inv0 D hD, upd_same⟩
            (fun i H4 ⟨k4, _⟩ => ?_) (fun i x y T H4 hx hy pv4 hT => ?_) (fin D (s1.free hD))⟩
          · have sH : Same H H4 := fun b o e => k4 b o (ne_of_none e (s1.free hD)) e
            exact ⟨SqL.of (sH _ _ h1), SqL.of (sH _ _ h2)⟩
          · exact ⟨T, _, rfl, SqT.of upd_same, rfl, _, _, rfl, _, _, rfl, rfl, rfl, _, rfl, _, rfl, turn D (s1.free hD) i x y T H4 hx hy pv4 hT⟩
        · refine .inr ⟨SqT.of (s1 _ _ h1), SqT.of (s1 _ _ h2), fun D hD => lc_zipT hxy (fun i H4 => Keep D H H4 ∧ H4 D = some (.lst (List.replicate i (V.bl true)))) ⟨inv0 D hD, upd_same⟩
            (fun i H4 ⟨k4, _⟩ => ?_) (fun i x y T H4 hx hy pv4 hT => ?_) (fin D (s1.free hD))⟩
          · have sH : Same H H4 := fun b o e => k4 b o (ne_of_none e (s1.free hD)) e
            exact ⟨SqT.of (sH _ _ h1), SqT.of (sH _ _ h2)⟩
          · exact ⟨T, _, rfl, SqT.of upd_same, rfl, _, _, rfl, _, _, rfl, rfl, rfl, _, rfl, _, rfl, turn D (s1.free hD) i x y T H4 hx hy pv4 hT⟩
end
end LK

namespace LK
open PySem PySem.Spec PyProof.Rows L2
/-! ### what makes the objects -/
/-- what is never run -/
theorem pe_never {X : Cx} {e : Expr} : PE X e (fun _ _ _ => False) := ⟨fun _ _ _ _ _ _ h => h.elim⟩
/-- a list by a comprehension over the characters of a text -/
theorem lc_str {x : Str} {g : TG} {tt : TT} {te : TE} {vs : List Nat} {σ : L2.St} {H1 : Hp} {D : Addr} {Qd : Hp → Prop} (Pv : Nat → Hp → Prop) (h0 : Pv 0 (upd H1 D (.lst [])))
    (hs : ∀ i c H, x.cps[i]? = some c → Pv i H → g (.str ⟨#[c]⟩) (wipe σ vs) H fun σ2 H2 => wipe σ2 vs = wipe σ vs ∧ tt σ2 H2 fun b H3 =>
      if b = true then te σ2 H3 fun y H4 => ∃ acc, H4 D = some (.lst acc) ∧ acc.length < sizeLine ∧ Pv (i + 1) (upd H4 D (.lst (acc ++ [y]))) else Pv (i + 1) H3) (hd : ∀ H, Pv x.cps.size H → Qd H) :
    ∃ W : Nat → Nat → Hp → Prop, (∃ m, W 0 m (upd H1 D (.lst []))) ∧ ∀ i m H, W i m H →
      ((Its x).stop i H ∧ Qd H) ∨ ((Its x).go i H ∧ ∃ Nx : Hp → Prop, (∀ H', Nx H' → ∃ m', m' < m ∧ W (i + 1) m' H') ∧ ∀ v H', (Its x).yld i H v H' → g v (wipe σ vs) H' fun σ2 H2 => wipe σ2 vs = wipe σ vs ∧ tt σ2 H2 fun b H3 =>
        if b = true then te σ2 H3 fun y H4 => ∃ acc, H4 D = some (.lst acc) ∧ acc.length < sizeLine ∧ Nx (upd H4 D (.lst (acc ++ [y]))) else Nx H3) := by
  refine ⟨fun i m H => m + i = x.cps.size ∧ Pv i H, ⟨x.cps.size, rfl, h0⟩, fun i m H w => ?_⟩
  obtain ⟨e, p⟩ := w
  by_cases lt : i < x.cps.size
  · refine .inr ⟨lt, Pv (i + 1), fun H' p' => ⟨m - 1, by omega, by omega, p'⟩, fun v H' y => ?_⟩
    obtain ⟨rfl, c, ec, rfl⟩ := y
    exact hs i c H' ec p
  · refine .inl ⟨by show x.cps.size ≤ i; omega, hd H ?_⟩
    rw [show x.cps.size = i by omega]
    exact p
theorem letters_all : ∀ c, c < 123 → 97 ≤ c → c ∈ TL.tl letters := by decide +kernel
def spName : Sp := fun vs H Q _ => ∃ z, vs = [.str z] ∧ NameOk z ∧ ∀ H', Same H H' → Q (.bl true) H'
/-- the constants of the names' module -/
structure Words (K : PySem.W.Frag) (mg : Str → Option Value) (kw : Addr) : Prop where
  longest : ∃ t, mg "LONGEST_NAME" = some (.int 4 t)
  letters : ∃ t, mg "LETTERS" = some (.str letters t)
  kept : mg "KEPT_WORDS" = some (.ref kw)
  tup : ∀ H, SqT K H kw [.str "if", .str "else", .str "end"]
section
variable {P : Program} {w : World} {K : PySem.W.Frag} {mg : Str → Option Value} {base : Heap}
def nIs : List Str := ["value", "letter"]
theorem scIs : FnScope nIs ["value"] (defScope sIsName) := ⟨rfl, rfl, rfl, by decide +kernel, rfl, by decide +kernel, by decide +kernel⟩
theorem ok_isName {f kw : Addr} {fd : FuncData} (S : Std mg) (W : Words K mg kw) (F : Fun K "is_name" "is_name" sIsName f fd) : FnOk P w K mg base CX0 1 f fd ["value"] spName := by
  refine F.ok scIs (fun vs H Q E h => ?_) (fun cdv A outer s H vs Q E hr h => ?_)
  · obtain ⟨z, rfl, _⟩ := h
    rfl
  · obtain ⟨z, rfl, hz, q⟩ := h
    obtain ⟨t1, m1⟩ := W.longest
    obtain ⟨t2, m2⟩ := W.letters
    refine ⟨_, pss_cons (ps_if (PW.pt (pw_or (pt_not (pt_val (pe_callB call_isi (by rfl) S.isi (by decide +kernel) (pa_cons (pv 0) (pa_cons (pe_bltn (v := .ty "str") (by rfl) S.str (by decide +kernel) rfl) pa_nil)))))
          (pw_or1 (pt_not (pt_chain op_le op_le pe_int (pe_callB call_len (by rfl) S.len PySem.boot_len (pa_cons (pv 0) pa_nil)) (pe_glob (v := .int 4) rfl m1 ⟨_, rfl⟩))))))
        (pss_one (ps_ret pe_bl)) pss_nil)
      (pss_one (ps_ret (pe_and (pe_cmpR op_notIn_seq (pv 0) (pe_glob (v := .ref kw) rfl W.kept rfl) (by rfl))
        (pe_one (pe_callB (cr_all rfl) (by rfl) S.all (by decide +kernel) (pa_cons (pe_lc (own := [("letter", 1)]) (g := gName 1) (tt := tYes) rfl scIs.nd
            (pi_str (pv 0)) (blkOk_by (N := nIs) (sc := defScope sIsName) (by decide +kernel)) (fun _ _ _ _ _ => pg_name (i := 1) scIs.nd rfl (Or.inl rfl)) (fun _ _ _ _ _ => pts_nil)
            (fun _ _ _ _ _ => pe_cmpR op_in_sign (pv 1) (pe_glob (v := .str letters) rfl m2 ⟨_, rfl⟩) (by rfl))) pa_nil)))))), ?_⟩
    have zl : z.length = z.cps.size := rfl
    have h4 := hz.len
    have h1 := hz.pos
    refine ⟨_, rfl, _, _, _, _, true, rfl, .ty "str", .base (.str z), kit_ty (by decide +kernel), true, rfl, iteF ?_⟩
    refine ⟨_, rfl, _, z.length, rfl, ⟨by rw [sizeLine_eq]; omega, rfl⟩, _, _, rfl, rfl, _, rfl, ?_⟩
    rw [decide_eq_true (show (1 : Int) ≤ (z.length : Int) by omega)]
    refine iteT ⟨_, _, rfl, rfl, _, rfl, ?_⟩
    rw [decide_eq_true (show (z.length : Int) ≤ 4 by omega)]
    refine iteF ⟨_, rfl, kw, _, rfl, .inr (W.tup H), rfl, by decide +kernel, ?_⟩
    have no : inV (.str z) [.str "if", .str "else", .str "end"] = false := by
      have e1 : (("if" : Str) == z) = false := beq_eq_false_iff_ne.mpr (Ne.symm hz.nif)
      have e2 : (("else" : Str) == z) = false := beq_eq_false_iff_ne.mpr (Ne.symm hz.nelse)
      have e3 : (("end" : Str) == z) = false := beq_eq_false_iff_ne.mpr (Ne.symm hz.nend)
      show (("if" : Str) == z || (("else" : Str) == z || (("end" : Str) == z || false))) = false
      rw [e1, e2, e3]
      rfl
    rw [if_pos rfl, no]
    refine ⟨_, rfl, iteT ⟨_, rfl, z, rfl, fun D hD => lc_str (fun i H4 => Keep D H H4 ∧ H4 D = some (.lst (List.replicate i (V.bl true)))) ⟨Keep.new hD, upd_same⟩ (fun i c H4 hc ⟨k4, d4⟩ => ?_) (fun H4 ⟨k4, d4⟩ => ?_)⟩⟩
    · have lt : i < z.cps.size := (Array.getElem?_eq_some_iff.mp hc).1
      have mem : c ∈ TL.tl letters := by
        obtain ⟨c0, c1⟩ := hz.low c (Array.mem_toList_iff.mpr (Array.mem_of_getElem? hc))
        exact letters_all c (by omega) c0
      refine ⟨rfl, _, rfl, c, letters, rfl, rfl, _, d4, by rw [List.length_replicate]; exact small1000 (by omega), fun b o n e => ?_, ?_⟩
      · rw [upd_ne n]
        exact k4 b o n e
      · rw [upd_same, decide_eq_true (show c ∈ letters.cps.toList from mem), List.replicate_succ']
    · refine ⟨D, List.replicate z.cps.size true, rfl, SqL.of (by rw [List.map_replicate]; exact d4), ?_⟩
      rw [show (List.replicate z.cps.size true).all id = true from by rw [List.all_eq_true]; intro b hb; exact (List.mem_replicate.mp hb).2]
      exact q _ fun b o e => k4 b o (ne_of_none e hD) e
end
end LK

namespace LK
open PySem PySem.Spec PyProof.Rows L2
/-! ### names and steps, gathered from nothing else -/
/-- a def of the text with one default -/
structure Dd (K : PySem.W.Frag) (mg : Str → Option Value) (x : Str) (st : Stmt) (f : Addr) (fd : FuncData) (ps : List Str) : Prop where
  F : ∃ t, FunD K x x (defArgs st) (defBody st) (defScope st) [V.ref t] [] f fd
  b : Binds K fd ps []
  g : mg x = some (.ref f)
  kp : PySem.W.keepIn K (.ref f) = true
def spNames (K : PySem.W.Frag) : Sp := fun vs H Q _ => ∃ (p a : Addr) (z : Str), vs = [.ref p, .ref a] ∧ SqT K H p [] ∧ H a = some (.lst [.str z]) ∧ ∀ q H', Same H H' → Q (.ref q) H'
def spSteps (K : PySem.W.Frag) : Sp := fun vs H Q _ => ∃ (p a : Addr), vs = [.ref p, .ref a] ∧ SqT K H p [] ∧ H a = some (.lst []) ∧ ∀ q H', Same H H' → Q (.ref q) H'
section
variable {P : Program} {w : World} {K : PySem.W.Frag} {mg : Str → Option Value} {base : Heap}
theorem Dd.ok {x : Str} {st : Stmt} {f : Addr} {fd : FuncData} {N ps : List Str} {k : Nat} {sp : Sp} (D : Dd K mg x st f fd ps) (S : FnScope N ps (defScope st)) (len : ∀ vs H Q E, sp vs H Q E → vs.length = ps.length)
    (walk : ∀ (cdv : Value) (A : Around) (outer : List Env) (s : Shared) (H : Hp) (vs : List V) (Q : VK) (E : XK), Room k (A.deeper (envOfC x (defScope st) s.heap.objs.size f cdv)) → sp vs H Q E →
      ∃ t, PSs (cxOf CX0 P w K mg base N x (defScope st) f cdv A outer s H E).nox (defBody st) t ∧ t { nx := fun _ H' => Q .non H', rt := Q } (start N vs) H) : FnOk P w K mg base CX0 (k + 1) f fd ps sp := by
  obtain ⟨t, F⟩ := D.F
  refine F.ok S len fun cdv A outer s H vs Q E hr h => ?_
  obtain ⟨t, p, q⟩ := walk cdv A outer s H vs Q E hr h
  exact ⟨t, p.nox, q⟩
def nAn : List Str := ["holders", "more", "found", "holder"]
theorem scAn : FnScope nAn ["holders", "more"] (defScope sAllNames) := ⟨rfl, rfl, rfl, by decide +kernel, rfl, by decide +kernel, by decide +kernel⟩
theorem ok_allNames {f : Addr} {fd : FuncData} (S : Std mg) (D : Dd K mg "all_names" sAllNames f fd ["holders", "more"]) : FnOk P w K mg base CX0 1 f fd ["holders", "more"] (spNames K) := by
  refine D.ok scAn (fun vs H Q E h => ?_) (fun cdv A outer s H vs Q E hr h => ?_)
  · obtain ⟨p, a, z, rfl, _⟩ := h
    rfl
  · obtain ⟨p, a, z, rfl, hp, ha, q⟩ := h
    refine ⟨_, pss_cons (ps_set (i := 2) scAn.nd rfl (Or.inl rfl) (pe_callTy call_list_of (by rfl) S.list (by decide +kernel) (pa_cons (pv 1) pa_nil)))
      (pss_cons (ps_for PassesOwn.never rfl (pi_tup (pv 0)) (pg_name (i := 3) scAn.nd rfl (Or.inl rfl)) (pss_one ps_never))
      (pss_one (ps_ret (pe_callTy call_tuple_of (by rfl) S.tuple (by decide +kernel) (pa_cons (pe_callB (LR.cr_sortedSetS rfl) (by rfl) S.sorted (by decide +kernel)
        (pa_cons (pe_callTy (LR.cr_setL rfl) (by rfl) S.set (by decide +kernel) (pa_cons (pv 2) pa_nil)) pa_nil)) pa_nil))))), ?_⟩
    refine ⟨_, rfl, a, _, rfl, .inl (SqL.of ha), fun l hl => ?_⟩
    have s1 : Same H (upd H l (.lst [.str z])) := same_new hl
    refine ⟨_, rfl, p, rfl, ⟨[], SqT.same s1 hp⟩, for_tup (xs := []) (fun _ σ' H' => σ' = [some (.ref p), some (.ref a), some (.ref l), none] ∧ H' = upd H l (.lst [.str z])) ⟨rfl, rfl⟩ (fun i σ' H' _ h => ?_) (fun i x σ' H' hx _ => ?_) (fun σ' H' h => ?_)⟩
    · rw [h.2]
      exact SqT.same s1 hp
    · simp at hx
    · obtain ⟨rfl, rfl⟩ := h
      refine ⟨_, rfl, l, [z], rfl, SqL.of upd_same, (by show 1 < 64; decide), fun p2 c hp2 hc => ?_⟩
      refine ⟨p2, _, c, rfl, upd_same, Nat.lt_of_le_of_lt hc (by show 1 < 64; decide), fun ys p3 o1 o2 o3 o4 hp3 => ⟨p3, _, rfl, .inl ⟨SqL.of upd_same, fun l4 hl4 => q _ _ (((s1.trans (same_new hp2)).trans (same_new hp3)).trans (same_new hl4))⟩⟩⟩
def nAs : List Str := ["holders", "more", "steps", "found", "holder", "step", "key"]
theorem scAs : FnScope nAs ["holders", "more"] (defScope sAllSteps) := ⟨rfl, rfl, rfl, by decide +kernel, rfl, by decide +kernel, by decide +kernel⟩
theorem ok_allSteps {f : Addr} {fd : FuncData} (S : Std mg) (D : Dd K mg "all_steps" sAllSteps f fd ["holders", "more"]) : FnOk P w K mg base CX0 1 f fd ["holders", "more"] (spSteps K) := by
  refine D.ok scAs (fun vs H Q E h => ?_) (fun cdv A outer s H vs Q E hr h => ?_)
  · obtain ⟨p, a, rfl, _⟩ := h
    rfl
  · obtain ⟨p, a, rfl, hp, ha, q⟩ := h
    refine ⟨_, pss_cons (ps_set (i := 2) scAs.nd rfl (Or.inl rfl) (pe_callTy call_list_of (by rfl) S.list (by decide +kernel) (pa_cons (pv 1) pa_nil)))
      (pss_cons (ps_for PassesOwn.never rfl (pi_tup (pv 0)) (pg_name (i := 4) scAs.nd rfl (Or.inl rfl)) (pss_one ps_never))
      (pss_cons (ps_set (i := 3) scAs.nd rfl (Or.inr rfl) (pe_dc (own := [("step", 5)]) (g := gName 5) (tt := tYes) rfl scAs.nd (pi_list (pv 2)) (blkOk_by (N := nAs) (sc := defScope sAllSteps) (by decide +kernel))
          (fun _ _ _ _ _ => pg_name (i := 5) scAs.nd rfl (Or.inl rfl)) (fun _ _ _ _ _ => pts_nil) (fun _ _ _ _ _ => pe_never) (fun _ _ _ _ _ => pe_never)))
      (pss_one (ps_ret (pe_callTy call_tuple_of (by rfl) S.tuple (by decide +kernel) (pa_cons (pe_lc (own := [("key", 6)]) (g := gName 6) (tt := tYes) rfl scAs.nd
          (pi_list (pe_callB (call_sortedD rfl) (by rfl) S.sorted (by decide +kernel) (pa_cons (pv 3) pa_nil))) (blkOk_by (N := nAs) (sc := defScope sAllSteps) (by decide +kernel))
          (fun _ _ _ _ _ => pg_name (i := 6) scAs.nd rfl (Or.inl rfl)) (fun _ _ _ _ _ => pts_nil) (fun _ _ _ _ _ => pe_never)) pa_nil)))))), ?_⟩
    refine ⟨_, rfl, a, _, rfl, .inl (SqL.of ha), fun l hl => ?_⟩
    have s1 : Same H (upd H l (.lst [])) := same_new hl
    refine ⟨_, rfl, p, rfl, ⟨[], SqT.same s1 hp⟩, for_tup (xs := []) (fun _ σ' H' => σ' = [some (.ref p), some (.ref a), some (.ref l), none, none, none, none] ∧ H' = upd H l (.lst [])) ⟨rfl, rfl⟩ (fun i σ' H' _ h => ?_) (fun i x σ' H' hx _ => ?_) (fun σ' H' h => ?_)⟩
    · rw [h.2]
      exact SqT.same s1 hp
    · simp at hx
    · obtain ⟨rfl, rfl⟩ := h
      refine ⟨_, rfl, l, rfl, ⟨[], SqL.of upd_same⟩, fun d hd => ⟨fun i m H' => i = 0 ∧ m = 0 ∧ H' = upd (upd H l (.lst [])) d (.dK []), ⟨0, rfl, rfl, rfl⟩, fun i m H' h => ?_⟩⟩
      obtain ⟨rfl, rfl, rfl⟩ := h
      have s2 : Same H (upd (upd H l (.lst [])) d (.dK [])) := s1.trans (same_new hd)
      refine .inl ⟨⟨[], SqL.of (by rw [upd_ne (ne_of_none upd_same hd)]; exact upd_same), Nat.le_refl _⟩, ?_⟩
      refine ⟨_, rfl, d, [], [], rfl, .inl upd_same, rfl, (by decide), fun ys p3 pm _ hp3 => ?_⟩
      obtain rfl : ys = [] := List.perm_nil.mp pm
      have s3 := s2.trans (same_new (o := .lst ([].map V.str)) hp3)
      refine ⟨p3, rfl, ⟨[], SqL.of upd_same⟩, fun D hD => lc_list (te := fun _ _ _ => False) (xs := []) (fun _ H4 => Keep D H H4 ∧ H4 p3 = some (.lst []) ∧ H4 D = some (.lst [])) ⟨(Keep.same s3).trans (Keep.new hD), by rw [upd_ne (ne_of_none upd_same hD)]; exact upd_same, upd_same⟩
        (fun i H4 _ h => SqL.of h.2.1) (fun i x H4 hx _ => ?_) (fun H4 h => ?_)⟩
      · simp at hx
      · obtain ⟨k4, _, d4⟩ := h
        refine ⟨D, _, rfl, .inl ⟨SqL.of d4, fun l5 hl5 => q _ _ ?_⟩⟩
        exact Same.trans (fun b o e => k4 b o (ne_of_none e (s3.free hD)) e) (same_new hl5)
end
end LK

namespace LK
open PySem PySem.Spec PyProof.Rows L2
/-! ### an expression of one name -/
structure ExN (K : PySem.W.Frag) (C : Addr) : Prop where
  kind : NoAttr K C "kind"
  word : NoAttr K C "word"
  step : NoAttr K C "step"
  parts : NoAttr K C "parts"
  names : NoAttr K C "names"
  steps : NoAttr K C "steps"
  size : NoAttr K C "size"
  applied : NoAttr K C "applied"
/-- while it is filled -/
structure Fill (K : PySem.W.Frag) (C x dx l l2 p : Addr) (z : Str) (H0 H : Hp) (fs : List (Str × V)) : Prop where
  at_ : H x = some (.ins C dx fs)
  l1 : H l = some (.lst [.str z])
  l2 : H l2 = some (.lst [])
  tp : SqT K H p []
  kp : Keep x H0 H
theorem sqT_put {K : PySem.W.Frag} {H : Hp} {x p C dx : Addr} {fs gs : List (Str × V)} {ys : List V} (h : SqT K H p ys) (e : H x = some (.ins C dx fs)) : SqT K (upd H x (.ins C dx gs)) p ys := by
  have ne : ∀ o, H p = some o → o ≠ .ins C dx fs → p ≠ x := fun o e1 n z => by
    rw [z, e] at e1
    exact n (Option.some.inj e1).symm
  rcases h with (h | ⟨o, h⟩) | h
  · exact .inl (.inl (by rw [upd_ne (ne _ h (by intro z; cases z))]; exact h))
  · exact .inl (.inr ⟨o, by rw [upd_ne (ne _ h (by intro z; cases z))]; exact h⟩)
  · exact .inr h
theorem Fill.same {K : PySem.W.Frag} {C x dx l l2 p : Addr} {z : Str} {H0 H H' : Hp} {fs : List (Str × V)} (h : Fill K C x dx l l2 p z H0 H fs) (s : Same H H') : Fill K C x dx l l2 p z H0 H' fs :=
  ⟨s _ _ h.at_, s _ _ h.l1, s _ _ h.l2, SqT.same s h.tp, h.kp.trans (Keep.same s)⟩
theorem Fill.put {K : PySem.W.Frag} {C x dx l l2 p : Addr} {z : Str} {H0 H : Hp} {fs : List (Str × V)} (h : Fill K C x dx l l2 p z H0 H fs) (gs : List (Str × V)) : Fill K C x dx l l2 p z H0 (upd H x (.ins C dx gs)) gs := by
  have n1 : l ≠ x := fun e => by
    have q := h.l1
    rw [e, h.at_] at q
    cases q
  have n2 : l2 ≠ x := fun e => by
    have q := h.l2
    rw [e, h.at_] at q
    cases q
  exact ⟨upd_same, by rw [upd_ne n1]; exact h.l1, by rw [upd_ne n2]; exact h.l2, sqT_put h.tp h.at_, h.kp.trans Keep.put⟩
def spExInit (K : PySem.W.Frag) (C : Addr) : Sp := fun vs H Q _ => ∃ (x dx p : Addr) (z : Str), vs = [.ref x, .str "name", .str z, .non, .ref p] ∧ H x = some (.ins C dx []) ∧ SqT K H p [] ∧ ∀ H' x1 x2 x3 x4, H' x = some (.ins C dx [("kind", .str "name"), ("word", .str z), ("step", .non), ("parts", .ref p), ("names", x1), ("steps", x2), ("size", x3), ("applied", x4)]) → Keep x H H' → Q .non H'
section
variable {P : Program} {w : World} {K : PySem.W.Frag} {mg : Str → Option Value} {base : Heap}
def nEx : List Str := ["self", "kind", "word", "step", "parts", "own_names", "own_steps", "part"]
theorem scEx : FnScope nEx ["self", "kind", "word", "step", "parts"] (defScope sExprInit) := ⟨rfl, rfl, rfl, by decide +kernel, rfl, by decide +kernel, by decide +kernel⟩
theorem ok_exInit {C f fN fS : Addr} {fd fdN fdS : FuncData} (S : Std mg) (cl : Cls K C) (n : ExN K C) (F : Fun K "__init__" "Expr.__init__" sExprInit f fd) (N : Dd K mg "all_names" sAllNames fN fdN ["holders", "more"]) (T : Dd K mg "all_steps" sAllSteps fS fdS ["holders", "more"]) :
    FnOk P w K mg base CX0 2 f fd ["self", "kind", "word", "step", "parts"] (spExInit K C) := by
  have GN : FnOk P w K mg base CX0 1 fN fdN ["holders", "more"] (spNames K) := ok_allNames S N
  have GS : FnOk P w K mg base CX0 1 fS fdS ["holders", "more"] (spSteps K) := ok_allSteps S T
  refine F.ok scEx (fun vs H Q E h => ?_) (fun cdv A outer s H vs Q E hr h => ?_)
  · obtain ⟨x, dx, p, z, rfl, _⟩ := h
    rfl
  · obtain ⟨x, dx, p, z, rfl, hx, hp, q⟩ := h
    refine ⟨_, pss_cons (ps_set (i := 5) scEx.nd rfl (Or.inl rfl) (pe_ifExp (pt_cmpR op_eq (pv 1) pe_str (nomark _)) (pe_lst (pa_cons (pv 2) pa_nil)) (pe_lst pa_nil)))
      (pss_cons (ps_set (i := 6) scEx.nd rfl (Or.inl rfl) (pe_ifExp (pt_cmp (pc_isN (pv 3))) (pe_lst pa_nil) (pe_lst (pa_cons (pv 3) pa_nil))))
      (pss_cons (ps_fld (pv 0) (pv 1) rfl) (pss_cons (ps_fld (pv 0) (pv 2) rfl) (pss_cons (ps_fld (pv 0) (pv 3) rfl) (pss_cons (ps_fld (pv 0) (pv 4) rfl)
      (pss_cons (ps_fld (pv 0) (pe_call GN hr rfl N.g N.kp N.b .nil pass0 (pa_cons (pv 4) (pa_cons (pv 5) pa_nil))) rfl)
      (pss_cons (ps_fld (pv 0) (pe_call GS hr rfl T.g T.kp T.b .nil pass0 (pa_cons (pv 4) (pa_cons (pv 6) pa_nil))) rfl)
      (pss_cons (ps_fld (pv 0) (pe_op op_add pe_int (pe_callB (cr_sum rfl) (by rfl) S.sum (by decide +kernel) (pa_cons (pe_lc (own := [("part", 7)]) (g := gName 7) (tt := tYes) rfl scEx.nd
          (pi_tup (pv 4)) (blkOk_by (N := nEx) (sc := defScope sExprInit) (by decide +kernel)) (fun _ _ _ _ _ => pg_name (i := 7) scEx.nd rfl (Or.inl rfl)) (fun _ _ _ _ _ => pts_nil) (fun _ _ _ _ _ => pe_never)) pa_nil))) rfl)
      (pss_one (ps_fld (pv 0) (pe_op op_add (pe_callB call_len_seq (by rfl) S.len PySem.boot_len (pa_cons (pv 6) pa_nil)) (pe_callB (cr_sum rfl) (by rfl) S.sum (by decide +kernel) (pa_cons (pe_lc (own := [("part", 7)]) (g := gName 7) (tt := tYes) rfl scEx.nd
          (pi_tup (pv 4)) (blkOk_by (N := nEx) (sc := defScope sExprInit) (by decide +kernel)) (fun _ _ _ _ _ => pg_name (i := 7) scEx.nd rfl (Or.inl rfl)) (fun _ _ _ _ _ => pts_nil) (fun _ _ _ _ _ => pe_never)) pa_nil))) rfl)))))))))), ?_⟩
    refine ⟨_, rfl, rfl, _, rfl, ?_⟩
    rw [decide_eq_true (show V.str "name" = V.str "name" from rfl)]
    refine iteT ⟨_, rfl, (by show 1 ≤ sizeLine; decide), fun l hl => ?_⟩
    refine ⟨_, rfl, _, rfl, ?_⟩
    refine iteT ⟨(by show 0 ≤ sizeLine; decide), fun l2 hl2 => ?_⟩
    have f0 : Fill K C x dx l l2 p z H (upd (upd H l (.lst [.str z])) l2 (.lst [])) [] := by
      have s2 : Same H (upd (upd H l (.lst [.str z])) l2 (.lst [])) := (same_new hl).trans (same_new hl2)
      exact ⟨s2 _ _ hx, by rw [upd_ne (ne_of_none upd_same hl2)]; exact upd_same, upd_same, SqT.same s2 hp, Keep.same s2⟩
    generalize upd (upd H l (.lst [.str z])) l2 (.lst []) = Ha at f0 ⊢
    refine ⟨_, rfl, _, rfl, x, C, dx, _, rfl, f0.at_, cl, n.kind, by decide, ?_⟩
    have f1 := f0.put (putF "kind" (.str "name") [])
    generalize e1 : putF "kind" (.str "name") [] = g1 at f1 ⊢
    generalize upd Ha x (.ins C dx g1) = Hb at f1 ⊢
    refine ⟨_, rfl, _, rfl, x, C, dx, _, rfl, f1.at_, cl, n.word, (by rw [← e1]; show 1 < 1000; decide), ?_⟩
    have f2 := f1.put (putF "word" (.str z) g1)
    generalize e2 : putF "word" (.str z) g1 = g2 at f2 ⊢
    generalize upd Hb x (.ins C dx g2) = Hc at f2 ⊢
    refine ⟨_, rfl, _, rfl, x, C, dx, _, rfl, f2.at_, cl, n.step, (by rw [← e2, ← e1]; show 2 < 1000; decide), ?_⟩
    have f3 := f2.put (putF "step" (.non) g2)
    generalize e3 : putF "step" (.non) g2 = g3 at f3 ⊢
    generalize upd Hc x (.ins C dx g3) = Hd at f3 ⊢
    refine ⟨_, rfl, _, rfl, x, C, dx, _, rfl, f3.at_, cl, n.parts, (by rw [← e3, ← e2, ← e1]; show 3 < 1000; decide), ?_⟩
    have f4 := f3.put (putF "parts" (.ref p) g3)
    generalize e4 : putF "parts" (.ref p) g3 = g4 at f4 ⊢
    generalize upd Hd x (.ins C dx g4) = He at f4 ⊢
    refine ⟨_, rfl, _, rfl, p, l, z, rfl, f4.tp, f4.l1, fun q4 J4 s4 => ?_⟩
    have f4' := f4.same s4
    refine ⟨_, rfl, x, C, dx, _, rfl, f4'.at_, cl, n.names, (by rw [← e4, ← e3, ← e2, ← e1]; show 4 < 1000; decide), ?_⟩
    have f5 := f4'.put (putF "names" (.ref q4) g4)
    generalize e5 : putF "names" (.ref q4) g4 = g5 at f5 ⊢
    generalize upd J4 x (.ins C dx g5) = Hf at f5 ⊢
    refine ⟨_, rfl, _, rfl, p, l2, rfl, f5.tp, f5.l2, fun q5 J5 s5 => ?_⟩
    have f5' := f5.same s5
    refine ⟨_, rfl, x, C, dx, _, rfl, f5'.at_, cl, n.steps, (by rw [← e5, ← e4, ← e3, ← e2, ← e1]; show 5 < 1000; decide), ?_⟩
    have f6 := f5'.put (putF "steps" (.ref q5) g5)
    generalize e6 : putF "steps" (.ref q5) g5 = g6 at f6 ⊢
    generalize upd J5 x (.ins C dx g6) = Hg at f6 ⊢
    refine ⟨_, rfl, p, rfl, ⟨[], f6.tp⟩, fun D6 hD6 => lc_tup (te := fun _ _ _ => False) (xs := []) (fun _ H4 => Fill K C x dx l l2 p z H H4 g6 ∧ H4 D6 = some (.lst [])) ⟨f6.same (same_new hD6), upd_same⟩ (fun i H4 _ h => h.1.tp) (fun i v H4 hv _ => ?_) (fun J6 h6 => ?_)⟩
    · simp at hv
    obtain ⟨f6', d6⟩ := h6
    refine ⟨D6, [], rfl, SqL.of d6, _, _, rfl, rfl, ?_⟩
    refine ⟨_, rfl, x, C, dx, _, rfl, f6'.at_, cl, n.size, (by rw [← e6, ← e5, ← e4, ← e3, ← e2, ← e1]; show 6 < 1000; decide), ?_⟩
    have f7 := f6'.put (putF "size" (.int (1 + ([] : List Int).sum)) g6)
    generalize e7 : putF "size" (.int (1 + ([] : List Int).sum)) g6 = g7 at f7 ⊢
    generalize upd J6 x (.ins C dx g7) = Hh at f7 ⊢
    refine ⟨_, rfl, l2, _, rfl, .inl (SqL.of f7.l2), _, rfl, p, rfl, ⟨[], f7.tp⟩, fun D7 hD7 => lc_tup (te := fun _ _ _ => False) (xs := []) (fun _ H4 => Fill K C x dx l l2 p z H H4 g7 ∧ H4 D7 = some (.lst [])) ⟨f7.same (same_new hD7), upd_same⟩ (fun i H4 _ h => h.1.tp) (fun i v H4 hv _ => ?_) (fun J7 h7 => ?_)⟩
    · simp at hv
    obtain ⟨f7', d7⟩ := h7
    refine ⟨D7, [], rfl, SqL.of d7, _, _, rfl, rfl, ?_⟩
    refine ⟨_, rfl, x, C, dx, _, rfl, f7'.at_, cl, n.applied, (by rw [← e7, ← e6, ← e5, ← e4, ← e3, ← e2, ← e1]; show 7 < 1000; decide), ?_⟩
    have f8 := f7'.put (putF "applied" (.int (((([] : List V).length : Nat) : Int) + ([] : List Int).sum)) g7)
    refine q _ (.ref q4) (.ref q5) (.int (1 + ([] : List Int).sum)) (.int (((([] : List V).length : Nat) : Int) + ([] : List Int).sum)) ?_ f8.kp
    refine f8.at_.trans ?_
    rw [← e7, ← e6, ← e5, ← e4, ← e3, ← e2, ← e1]
    rfl
end
end LK

namespace LK
open PySem PySem.Spec PyProof.Rows L2
/-! ### named, steps -/
theorem same_of_keep {H H1 H' : Hp} {x dx : Addr} {o u : HO} (hx : H x = none) (hd : H dx = none) (k : Keep x (upd (upd H dx o) x u) H') : Same H H' := fun b v e => k b v (ne_of_none e hx) (by rw [upd_ne (ne_of_none e hx), upd_ne (ne_of_none e hd)]; exact e)
/-- what is new in a later heap -/
def nw (H H' : Hp) : Hp := fun b => match H b with | none => H' b | some _ => none
theorem nw_at {H H' : Hp} {b : Addr} (h : H b = none) : nw H H' b = H' b := by
  unfold nw
  rw [h]
theorem nw_some {H H' : Hp} {b : Addr} {o : HO} (h : nw H H' b = some o) : H b = none ∧ H' b = some o := by
  unfold nw at h
  cases e : H b with
  | none =>
    rw [e] at h
    exact ⟨rfl, h⟩
  | some u =>
    rw [e] at h
    cases h
def spNamed (K : PySem.W.Frag) (C : Addr) : Sp := fun vs H Q _ => ∃ z, vs = [.str z] ∧ NameOk z ∧ ∀ a H', ExprAt K C (nw H H') a → Same H H' → Q (.ref a) H'
def spWaysOk : Sp := fun vs H Q _ => ∃ y, vs = [.str y] ∧ WaysOk y ∧ ∀ H', Same H H' → Q (.bl true) H'
def spStInit (C : Addr) : Sp := fun vs H Q _ => ∃ (x dx : Addr) (z y : Str), vs = [.ref x, .str z, .str y] ∧ H x = some (.ins C dx []) ∧ NameOk z ∧ WaysOk y ∧ ∀ H', StepAt C H' x z y → Keep x H H' → Q .non H'
def spStLen (C : Addr) : Sp := fun vs H Q _ => ∃ (x : Addr) (z y : Str), vs = [.ref x] ∧ StepAt C H x z y ∧ y.length ≤ 3 ∧ Q (.int y.length) H
section
variable {P : Program} {w : World} {K : PySem.W.Frag} {mg : Str → Option Value} {base : Heap}
theorem scNamed : FnScope ["word"] ["word"] (defScope sNamed) := ⟨rfl, rfl, rfl, by decide +kernel, rfl, by decide +kernel, by decide +kernel⟩
theorem ok_named {C fI f fe fN fS kw : Addr} {fdI fd fde fdN fdS : FuncData} (S : Std mg) (W : Words K mg kw) (I : Df K mg "is_name" sIsName fI fdI ["value"]) (cl : Cls K C) (n : ExN K C) (gC : mg "Expr" = some (.ref C))
    (M : Mk K C fe) (Fe : Fun K "__init__" "Expr.__init__" sExprInit fe fde) (be : Binds K fde ["self", "kind", "word", "step", "parts"] []) (N : Dd K mg "all_names" sAllNames fN fdN ["holders", "more"]) (T : Dd K mg "all_steps" sAllSteps fS fdS ["holders", "more"])
    (F : Fun K "named" "named" sNamed f fd) : FnOk P w K mg base CX0 4 f fd ["word"] (spNamed K C) := by
  have GI : FnOk P w K mg base CX0 1 fI fdI ["value"] spName := ok_isName S W I.F
  have GE : FnOk P w K mg base CX0 2 fe fde ["self", "kind", "word", "step", "parts"] (spExInit K C) := ok_exInit S cl n Fe N T
  refine F.ok scNamed (fun vs H Q E h => ?_) (fun cdv A outer s H vs Q E hr h => ?_)
  · obtain ⟨z, rfl, _⟩ := h
    rfl
  · obtain ⟨z, rfl, hz, q⟩ := h
    refine ⟨_, pss_cons (ps_if (pt_not (pt_val (pe_call GI (hr.mono (by decide)) rfl I.g I.F.kp I.b .nil pass0 (pa_cons (pv 0) pa_nil)))) (pss_one ps_never) pss_nil)
      (pss_one (ps_ret (pe_make M GE hr rfl gC be .nil pass0 (pa_cons pe_str (pa_cons (pv 0) (pa_cons pe_non (pa_cons (pe_tup pa_nil) pa_nil))))))), ?_⟩
    refine ⟨_, rfl, z, rfl, hz, fun H1 s1 => ⟨_, rfl, iteF ?_⟩⟩
    refine ⟨_, rfl, by show 0 ≤ sizeLine; decide, fun p hp => fun x dx nx nd ne => ?_⟩
    have h0 : H1 p = none := hp
    have px : p ≠ x := ne_of_none upd_same nx
    have pd : p ≠ dx := ne_of_none upd_same nd
    have hp2 : (upd (upd (upd H1 p (.tup [])) dx (.own x)) x (.ins C dx [])) p = some (.tup []) := by
      rw [upd_ne px, upd_ne pd]
      exact upd_same
    have old : ∀ {b : Addr}, H1 b = none → H b = none := fun {b} h => by
      cases e : H b with
      | none => rfl
      | some o =>
        rw [s1 _ _ e] at h
        cases h
    have nx1 : H1 x = none := by
      rw [upd_ne px.symm] at nx
      exact nx
    refine ⟨x, dx, p, z, rfl, upd_same, SqT.of hp2, fun H' x1 x2 x3 x4 he k => ⟨rfl, q x H' ⟨dx, z, p, x1, x2, x3, x4, ?_, SqT.of ?_⟩ ?_⟩⟩
    · rw [nw_at (old nx1)]
      exact he
    · rw [nw_at (old h0)]
      exact k _ _ px hp2
    · exact (s1.trans (same_new hp)).trans (same_of_keep (H1 := H1) nx nd k)
theorem scWaysOk : FnScope ["value", "way"] ["value"] (defScope sAreWays) := ⟨rfl, rfl, rfl, by decide +kernel, rfl, by decide +kernel, by decide +kernel⟩
theorem ok_areWays {f : Addr} {fd : FuncData} {t1 t2 : Tok} (S : Std mg) (m1 : mg "MOST_ARGUMENTS" = some (.int 3 t1)) (m2 : mg "WAYS" = some (.str "+-?" t2)) (F : Fun K "_are_ways" "_are_ways" sAreWays f fd) : FnOk P w K mg base CX0 1 f fd ["value"] spWaysOk := by
  refine F.ok scWaysOk (fun vs H Q E h => ?_) (fun cdv A outer s H vs Q E hr h => ?_)
  · obtain ⟨z, rfl, _⟩ := h
    rfl
  · obtain ⟨z, rfl, hz, q⟩ := h
    refine ⟨_, pss_cons (ps_if (PW.pt (pw_or (pt_not (pt_val (pe_callB call_isi (by rfl) S.isi (by decide +kernel) (pa_cons (pv 0) (pa_cons (pe_bltn (v := .ty "str") (by rfl) S.str (by decide +kernel) rfl) pa_nil)))))
          (pw_or1 (pt_not (pt_chain op_le op_le pe_int (pe_callB call_len (by rfl) S.len PySem.boot_len (pa_cons (pv 0) pa_nil)) (pe_glob (v := .int 3) rfl m1 ⟨_, rfl⟩))))))
        (pss_one (ps_ret pe_bl)) pss_nil)
      (pss_one (ps_ret (pe_callB (cr_all rfl) (by rfl) S.all (by decide +kernel) (pa_cons (pe_lc (own := [("way", 1)]) (g := gName 1) (tt := tYes) rfl scWaysOk.nd
            (pi_str (pv 0)) (blkOk_by (N := ["value", "way"]) (sc := defScope sAreWays) (by decide +kernel)) (fun _ _ _ _ _ => pg_name (i := 1) scWaysOk.nd rfl (Or.inl rfl)) (fun _ _ _ _ _ => pts_nil)
            (fun _ _ _ _ _ => pe_cmpR op_in_sign (pv 1) (pe_glob (v := .str "+-?") rfl m2 ⟨_, rfl⟩) (by rfl))) pa_nil)))), ?_⟩
    have zl : z.length = z.cps.size := rfl
    have h4 := hz.len
    have h1 := hz.pos
    refine ⟨_, rfl, _, _, _, _, true, rfl, .ty "str", .base (.str z), kit_ty (by decide +kernel), true, rfl, iteF ?_⟩
    refine ⟨_, rfl, _, z.length, rfl, ⟨by rw [sizeLine_eq]; omega, rfl⟩, _, _, rfl, rfl, _, rfl, ?_⟩
    rw [decide_eq_true (show (1 : Int) ≤ (z.length : Int) by omega)]
    refine iteT ⟨_, _, rfl, rfl, _, rfl, ?_⟩
    rw [decide_eq_true (show (z.length : Int) ≤ 3 by omega)]
    refine iteF ⟨_, rfl, z, rfl, fun D hD => lc_str (fun i H4 => Keep D H H4 ∧ H4 D = some (.lst (List.replicate i (V.bl true)))) ⟨Keep.new hD, upd_same⟩ (fun i c H4 hc ⟨k4, d4⟩ => ?_) (fun H4 ⟨k4, d4⟩ => ?_)⟩
    · have lt : i < z.cps.size := (Array.getElem?_eq_some_iff.mp hc).1
      have mem : c ∈ TL.tl ("+-?" : Str) := hz.sg c (Array.mem_toList_iff.mpr (Array.mem_of_getElem? hc))
      refine ⟨rfl, _, rfl, c, "+-?", rfl, rfl, _, d4, by rw [List.length_replicate]; exact small1000 (by omega), fun b o n e => ?_, ?_⟩
      · rw [upd_ne n]
        exact k4 b o n e
      · rw [upd_same, decide_eq_true (show c ∈ ("+-?" : Str).cps.toList from mem), List.replicate_succ']
    · refine ⟨D, List.replicate z.cps.size true, rfl, SqL.of (by rw [List.map_replicate]; exact d4), ?_⟩
      rw [show (List.replicate z.cps.size true).all id = true from by rw [List.all_eq_true]; intro b hb; exact (List.mem_replicate.mp hb).2]
      exact q _ fun b o e => k4 b o (ne_of_none e hD) e
theorem scStInit : FnScope ["self", "name", "ways"] ["self", "name", "ways"] (defScope sStepInit) := ⟨rfl, rfl, rfl, by decide +kernel, rfl, by decide +kernel, by decide +kernel⟩
theorem ok_stInit {C fI fW f kw : Addr} {fdI fdW fd : FuncData} {t1 t2 : Tok} (S : Std mg) (Wd : Words K mg kw) (I : Df K mg "is_name" sIsName fI fdI ["value"]) (m1 : mg "MOST_ARGUMENTS" = some (.int 3 t1)) (m2 : mg "WAYS" = some (.str "+-?" t2)) (W : Df K mg "_are_ways" sAreWays fW fdW ["value"])
    (cl : Cls K C) (n1 : NoAttr K C "name") (n2 : NoAttr K C "ways") (F : Fun K "__init__" "Step.__init__" sStepInit f fd) : FnOk P w K mg base CX0 2 f fd ["self", "name", "ways"] (spStInit C) := by
  have GI : FnOk P w K mg base CX0 1 fI fdI ["value"] spName := ok_isName S Wd I.F
  have GW : FnOk P w K mg base CX0 1 fW fdW ["value"] spWaysOk := ok_areWays S m1 m2 W.F
  refine F.ok scStInit (fun vs H Q E h => ?_) (fun cdv A outer s H vs Q E hr h => ?_)
  · obtain ⟨x, dx, z, y, rfl, _⟩ := h
    rfl
  · obtain ⟨x, dx, z, y, rfl, hx, hz, hy, q⟩ := h
    refine ⟨_, pss_cons (ps_if (pt_not (pt_val (pe_call GI hr rfl I.g I.F.kp I.b .nil pass0 (pa_cons (pv 1) pa_nil)))) (pss_one ps_never) pss_nil)
      (pss_cons (ps_if (pt_not (pt_val (pe_call GW hr rfl W.g W.F.kp W.b .nil pass0 (pa_cons (pv 2) pa_nil)))) (pss_one ps_never) pss_nil)
      (pss_cons (ps_fld (pv 0) (pv 1) rfl) (pss_one (ps_fld (pv 0) (pv 2) rfl)))), ?_⟩
    refine ⟨_, rfl, z, rfl, hz, fun H1 s1 => ⟨_, rfl, iteF ?_⟩⟩
    refine ⟨_, rfl, y, rfl, hy, fun H2 s2 => ⟨_, rfl, iteF ?_⟩⟩
    refine ⟨_, rfl, _, rfl, x, C, dx, _, rfl, s2 _ _ (s1 _ _ hx), cl, n1, by decide, ?_⟩
    refine ⟨_, rfl, _, rfl, x, C, dx, _, rfl, upd_same, cl, n2, by show 1 < 1000; decide, ?_⟩
    exact q _ ⟨dx, upd_same⟩ (((Keep.same (s1.trans s2)).trans Keep.put).trans Keep.put)
theorem scStLen : FnScope ["self"] ["self"] (defScope sStepLen) := ⟨rfl, rfl, rfl, by decide +kernel, rfl, by decide +kernel, by decide +kernel⟩
theorem ok_stLen {C f : Addr} {fd : FuncData} (S : Std mg) (cl : Cls K C) (n2 : NoAttr K C "ways") (F : Fun K "__len__" "Step.__len__" sStepLen f fd) : FnOk P w K mg base CX0 1 f fd ["self"] (spStLen C) := by
  refine F.ok scStLen (fun vs H Q E h => ?_) (fun cdv A outer s H vs Q E hr h => ?_)
  · obtain ⟨x, z, y, rfl, _⟩ := h
    rfl
  · obtain ⟨x, z, y, rfl, ⟨dx, hx⟩, hy, q⟩ := h
    refine ⟨_, pss_one (ps_ret (pe_callB call_len (by rfl) S.len PySem.boot_len (pa_cons (pe_fld (pv 0) rfl) pa_nil))), ?_⟩
    exact ⟨_, rfl, _, _, _, _, _, rfl, hx, cl, n2, rfl, _, _, rfl, ⟨by rw [sizeLine_eq]; omega, rfl⟩, q⟩
end
end LK

namespace LK
open PySem PySem.Spec PyProof.Rows L2
/-! ### chains -/
/-- a def with a star parameter -/
theorem okStar {P : Program} {w : World} {K : PySem.W.Frag} {mg : Str → Option Value} {base : Heap} {x qual pv : Str} {st : Stmt} {f : Addr} {fd : FuncData} {N ps : List Str} {k : Nat} {sp : Sp} (F : Fun K x qual st f fd) (S : FnScope N (ps ++ [pv]) (defScope st))
    (hb : ∀ (kV doc pm : Value) (an : Option Addr) (cdv ct : Value) (us rest : List Value), us.length = ps.length → bindArgs (PySem.W.fnOf x qual (defArgs st) (defBody st) (defScope st) .none kV doc pm an cdv ct) ⟨us ++ rest, []⟩ = (newTuple rest >>= fun t => pure (ps.zip us ++ [(pv, t)])))
    (walk : ∀ (cdv : Value) (A : Around) (outer : List Env) (s : Shared) (H : Hp) (vs : List V) (Q : VK) (E : XK), Room k (A.deeper (envOfC qual (defScope st) s.heap.objs.size f cdv)) → sp vs H Q E →
      ∃ t, PSs (cxOf CX0 P w K mg base N qual (defScope st) f cdv A outer s H E).nox (defBody st) t ∧ t { nx := fun _ H' => Q .non H', rt := Q } (start N vs) H) :
    FnR P w K mg base CX0 (k + 1) f (fun vs H Q E => ∃ ws rest, vs = ws ++ rest ∧ ws.length = ps.length ∧ rest.length ≤ sizeLine ∧ ∀ p, H p = Option.none → sp (ws ++ [V.ref p]) (upd H p (.tup rest)) Q E) := by
  obtain ⟨oc, od, kV, doc, pm, an, cdv, ct, osl, rfl, lk, hcd⟩ := F.ex
  refine StX.fn_star lk hcd S StX.cxUp_none (hb kV doc pm an cdv ct) fun A outer s H vs Q E hr h => ?_
  obtain ⟨t, p, q⟩ := walk cdv A outer s H vs Q E hr h
  exact ⟨t, p.nox, q⟩
/-- a class with its own __len__ -/
structure LenM (K : PySem.W.Frag) (C f : Addr) (fd : FuncData) (st : Stmt) (q : Str) : Prop where
  F : Fun K "__len__" q st f fd
  b : Binds K fd ["self"] []
  at_ : PySem.W.findIn K (.ref C) "__len__" = some (some (.ref f))
  fn : PySem.W.isFn K (.ref f) = true
def spChBody (K : PySem.W.Frag) (cS C : Addr) : Sp := fun vs H Q _ => ∃ (x dx p b : Addr) (z y : Str), vs = [.ref x, .ref p] ∧ H x = some (.ins C dx []) ∧ H p = some (.tup [.ref b]) ∧ StepAt cS H b z y ∧ y.length = 1 ∧ ∀ H', H' x = some (.ins C dx [("steps", .ref p)]) → Keep x H H' → Q .non H'
section
variable {P : Program} {w : World} {K : PySem.W.Frag} {mg : Str → Option Value} {base : Heap}
theorem scChInit : FnScope ["self", "steps", "step"] ((["self"] : List Str) ++ (["steps"] : List Str)) (defScope sChainInit) := ⟨rfl, rfl, rfl, by decide +kernel, rfl, by decide +kernel, by decide +kernel⟩
theorem ok_chInit {cS C fL f : Addr} {fdL fd : FuncData} (S : Std mg) (c : OwnCl K mg "Step" cS) (n2 : NoAttr K cS "ways") (L : LenM K cS fL fdL sStepLen "Step.__len__") (cl : Cls K C) (m : NoAttr K C "steps") (F : Fun K "__init__" "Chain.__init__" sChainInit f fd) :
    FnR P w K mg base CX0 3 f (fun vs H Q E => ∃ ws rest, vs = ws ++ rest ∧ ws.length = ([("self" : Str)] : List Str).length ∧ rest.length ≤ sizeLine ∧ ∀ p, H p = Option.none → spChBody K cS C (ws ++ [V.ref p]) (upd H p (.tup rest)) Q E) := by
  refine okStar (ps := ["self"]) (pv := "steps") F scChInit (fun kV doc pm an cdv ct => StX.bind_star1 (B := fun us => bindArgs (PySem.W.fnOf "__init__" "Chain.__init__" (defArgs sChainInit) (defBody sChainInit) (defScope sChainInit) .none kV doc pm an cdv ct) ⟨us, []⟩) (p1 := "self") (pv := "steps") (fun a => rfl) (fun a r rs => rfl)) (fun cdv A outer s H vs Q E hr h => ?_)
  obtain ⟨x, dx, p, b, z, y, rfl, hx, hp, hb, hy, q⟩ := h
  have GL := fun (P : Program) (w : World) (base : Heap) => ok_stLen (P := P) (w := w) (base := base) S c.cl n2 L.F
  refine ⟨_, pss_cons (ps_for PassesOwn.never rfl (pi_tup (pv 1)) (pg_name (i := 2) scChInit.nd rfl (Or.inl rfl)) (pss_one (ps_if (PW.pt (pw_or (pt_not (pt_val (pe_callB call_isi (by rfl) S.isi (by decide +kernel) (pa_cons (pv 2) (pa_cons (pe_glob (v := .ref cS) rfl c.g rfl) pa_nil)))))
        (pw_or1 (pt_cmpR op_ne (pe_callB (LR.call_lenOwn (GL _ _ _) L.at_ L.fn L.b pass0 hr) (by rfl) S.len PySem.boot_len (pa_cons (pv 2) pa_nil)) pe_int (nomark _))))) (pss_one ps_never) pss_nil)))
    (pss_one (ps_fld (pv 0) (pv 1) rfl)), ?_⟩
  obtain ⟨db, hb'⟩ := hb
  refine ⟨_, rfl, p, rfl, ⟨[.ref b], SqT.of hp⟩, for_tup (xs := [.ref b]) (fun i σ' H' => (∃ o, σ' = [some (.ref x), some (.ref p), o]) ∧ H' = H) ⟨⟨_, rfl⟩, rfl⟩ (fun i σ' H' _ h => ?_) (fun i v σ' H' hv h => ?_) (fun σ' H' h => ?_)⟩
  · rw [h.2]
    exact SqT.of hp
  · obtain ⟨⟨o, rfl⟩, rfl⟩ := h
    have hi : i = 0 := by
      have := (List.getElem?_eq_some_iff.mp hv).1
      simpa using this
    subst hi
    obtain rfl : V.ref b = v := by simpa using hv
    refine ⟨_, rfl, _, _, _, _, true, rfl, .own cS, c.ty hb', kit_self, true, rfl, iteF ?_⟩
    refine ⟨_, rfl, b, db, _, rfl, hb', b, z, y, rfl, ⟨db, hb'⟩, by omega, y.length, rfl, by omega, rfl, _, rfl, ?_⟩
    rw [hy]
    exact iteF ⟨⟨_, rfl⟩, rfl⟩
  · obtain ⟨⟨o, rfl⟩, rfl⟩ := h
    refine ⟨_, rfl, _, rfl, x, C, dx, _, rfl, hx, cl, m, by decide, ?_⟩
    exact q _ upd_same Keep.put
end
end LK

namespace LK
open PySem PySem.Spec PyProof.Rows L2
/-! ### traits of one rising step -/
/-- the two written dicts of the traits' module -/
structure Fits (K : PySem.W.Frag) (w : World) (mg : Str → Option Value) (dC dF tU : Addr) : Prop where
  counts : mg "STEP_COUNTS" = some (.ref dC)
  c1 : ∃ es n, KDict K w dC es n
  c2 : ∃ t, PySem.W.nsIn K dC "up" = some (some (.int 1 t))
  fits : mg "FITTING_WAYS" = some (.ref dF)
  f1 : ∃ es n, KDict K w dF es n
  f2 : PySem.W.nsIn K dF "up" = some (some (.ref tU))
  f3 : ∀ H, SqT K H tU [.str "+"]
def spAreSteps (cS : Addr) : Sp := fun vs H Q _ => ∃ (p b : Addr) (z y : Str), vs = [.ref p, .int 1] ∧ H p = some (.tup [.ref b]) ∧ StepAt cS H b z y ∧ ∀ H', Same H H' → Q (.bl true) H'
def spWaysFit (cS : Addr) : Sp := fun vs H Q _ => ∃ (p b : Addr) (z : Str), vs = [.str "up", .ref p] ∧ H p = some (.tup [.ref b]) ∧ StepAt cS H b z "+" ∧ ∀ H', Same H H' → Q (.bl true) H'
def spTrBody (K : PySem.W.Frag) (cS C : Addr) : Sp := fun vs H Q _ => ∃ (x dx p b : Addr) (z : Str), vs = [.ref x, .str "up", .ref p] ∧ H x = some (.ins C dx []) ∧ H p = some (.tup [.ref b]) ∧ StepAt cS H b z "+" ∧ ∀ H', H' x = some (.ins C dx [("word", .str "up"), ("steps", .ref p)]) → Keep x H H' → Q .non H'
theorem StepAt.same {C : Addr} {H H' : Hp} {a : Addr} {z y : Str} (s : Same H H') (h : StepAt C H a z y) : StepAt C H' a z y := by
  obtain ⟨dx, h⟩ := h
  exact ⟨dx, s _ _ h⟩
section
variable {P : Program} {w : World} {K : PySem.W.Frag} {mg : Str → Option Value} {base : Heap}
theorem scAreSteps : FnScope ["steps", "count", "step"] ["steps", "count"] (defScope sAreSteps) := ⟨rfl, rfl, rfl, by decide +kernel, rfl, by decide +kernel, by decide +kernel⟩
theorem ok_areSteps {cS f : Addr} {fd : FuncData} (S : Std mg) (c : OwnCl K mg "Step" cS) (F : Fun K "_are_steps" "_are_steps" sAreSteps f fd) : FnOk P w K mg base CX0 1 f fd ["steps", "count"] (spAreSteps cS) := by
  refine F.ok scAreSteps (fun vs H Q E h => ?_) (fun cdv A outer s H vs Q E hr h => ?_)
  · obtain ⟨p, b, z, y, rfl, _⟩ := h
    rfl
  · obtain ⟨p, b, z, y, rfl, hp, hb, q⟩ := h
    refine ⟨_, pss_cons (ps_if (PW.pt (pw_or (pt_cmpR op_ne (pe_callB call_len_seq (by rfl) S.len PySem.boot_len (pa_cons (pv 0) pa_nil)) (pv 1) (nomark _))
          (pw_or1 (pt_not (pt_val (pe_callB (cr_all rfl) (by rfl) S.all (by decide +kernel) (pa_cons (pe_lc (own := [("step", 2)]) (g := gName 2) (tt := tYes) (te := tCB (rIsi K) (tCons (tVar 2) (tCons (tC (.ref cS)) tNil))) rfl scAreSteps.nd
            (pi_tup (pv 0)) (blkOk_by (N := ["steps", "count", "step"]) (sc := defScope sAreSteps) (by decide +kernel)) (fun _ _ _ _ _ => pg_name (i := 2) scAreSteps.nd rfl (Or.inl rfl)) (fun _ _ _ _ _ => pts_nil)
            (fun _ _ _ _ _ => pe_callB (id := "isinstance") call_isi (by rfl) S.isi (by decide +kernel) (pa_cons (pv 2) (pa_cons (pe_glob (v := .ref cS) rfl c.g rfl) pa_nil)))) pa_nil))))))) (pss_one (ps_ret pe_bl)) pss_nil)
      (pss_one (ps_ret (pe_or (pe_cmpR op_eq (pv 1) pe_int (nomark _)) (pe_one pe_never)))), ?_⟩
    refine ⟨_, rfl, p, _, rfl, .inr (SqT.of hp), _, rfl, rfl, _, rfl, iteF ?_⟩
    refine ⟨_, rfl, p, rfl, ⟨_, SqT.of hp⟩, fun D hD => lc_tup (xs := [.ref b]) (fun i H4 => Keep D H H4 ∧ H4 D = some (.lst (List.replicate i (V.bl true)))) ⟨Keep.new hD, upd_same⟩ (fun i H4 _ h => SqT.of (h.1 _ _ (ne_of_none hp hD) hp)) (fun i v H4 hv h => ?_) (fun H4 h => ?_)⟩
    · obtain ⟨k4, d4⟩ := h
      have hi : i = 0 := by
        have := (List.getElem?_eq_some_iff.mp hv).1
        simpa using this
      subst hi
      obtain rfl : V.ref b = v := by simpa using hv
      obtain ⟨db, hb⟩ := hb
      refine ⟨rfl, _, rfl, _, _, _, _, true, rfl, .own cS, c.ty (k4 _ _ (ne_of_none hb hD) hb), kit_self, _, d4, by decide, fun b o n e => ?_, upd_same⟩
      rw [upd_ne n]
      exact k4 b o n e
    · obtain ⟨k4, d4⟩ := h
      refine ⟨D, [true], rfl, SqL.of d4, true, rfl, iteF ?_⟩
      refine ⟨_, rfl, rfl, _, rfl, iteT (q _ fun b o e => k4 b o (ne_of_none e hD) e)⟩
theorem scWaysFit : FnScope ["word", "steps", "ways", "step"] ["word", "steps"] (defScope sWaysFit) := ⟨rfl, rfl, rfl, by decide +kernel, rfl, by decide +kernel, by decide +kernel⟩
theorem ok_waysFit {cS dC dF tU f : Addr} {fd : FuncData} (S : Std mg) (c : OwnCl K mg "Step" cS) (n2 : NoAttr K cS "ways") (D0 : Fits K w mg dC dF tU) (F : Fun K "_ways_fit" "_ways_fit" sWaysFit f fd) : FnOk P w K mg base CX0 1 f fd ["word", "steps"] (spWaysFit cS) := by
  refine F.ok scWaysFit (fun vs H Q E h => ?_) (fun cdv A outer s H vs Q E hr h => ?_)
  · obtain ⟨p, b, z, rfl, _⟩ := h
    rfl
  · obtain ⟨p, b, z, rfl, hp, ⟨db, hb⟩, q⟩ := h
    obtain ⟨es, n, k1, k2, k3⟩ := D0.f1
    refine ⟨_, pss_cons (ps_set (i := 2) scWaysFit.nd rfl (Or.inr rfl) (pe_fld (pe_ix ix_tup (pv 1) pe_int (fun _ _ => rfl)) rfl))
      (pss_cons (ps_if (pt_val (pe_callB (cr_any rfl) (by rfl) S.any (by decide +kernel) (pa_cons (pe_lc (own := [("step", 3)]) (g := gName 3) (tt := tYes) (te := tOp rNe (tFld K (tVar 3) "ways") (tVar 2)) rfl scWaysFit.nd
            (pi_tup (pv 1)) (blkOk_by (N := ["word", "steps", "ways", "step"]) (sc := defScope sWaysFit) (by decide +kernel)) (fun _ _ _ _ _ => pg_name (i := 3) scWaysFit.nd rfl (Or.inl rfl)) (fun _ _ _ _ _ => pts_nil)
            (fun _ _ _ _ _ => pe_cmpR op_ne (pe_fld (pv 3) rfl) (pv 2) (nomark _))) pa_nil))) (pss_one (ps_ret pe_bl)) pss_nil)
      (pss_one (ps_ret (pe_or (pe_cmpR op_eq (pv 0) pe_str (nomark _)) (pe_one (pe_cmpR op_in_seq (pv 2) (pe_ix ix_kdict (pe_glob (v := .ref dF) rfl D0.fits rfl) (pv 0) (fun _ _ => rfl)) (by rfl))))))), ?_⟩
    refine ⟨_, rfl, p, _, 0, .ref b, rfl, rfl, SqT.of hp, rfl, b, cS, db, _, _, rfl, hb, c.cl, n2, rfl, ?_⟩
    refine ⟨_, rfl, p, rfl, ⟨_, SqT.of hp⟩, fun D hD => lc_tup (xs := [.ref b]) (fun i H4 => Keep D H H4 ∧ H4 D = some (.lst (List.replicate i (V.bl false)))) ⟨Keep.new hD, upd_same⟩ (fun i H4 _ h => SqT.of (h.1 _ _ (ne_of_none hp hD) hp)) (fun i v H4 hv h => ?_) (fun H4 h => ?_)⟩
    · obtain ⟨k4, d4⟩ := h
      have hi : i = 0 := by
        have := (List.getElem?_eq_some_iff.mp hv).1
        simpa using this
      subst hi
      obtain rfl : V.ref b = v := by simpa using hv
      refine ⟨rfl, _, rfl, b, cS, db, _, _, rfl, k4 _ _ (ne_of_none hb hD) hb, c.cl, n2, rfl, _, rfl, rfl, _, d4, by decide, fun b o n e => ?_, ?_⟩
      · rw [upd_ne n]
        exact k4 b o n e
      · rw [upd_same]
        rfl
    · obtain ⟨k4, d4⟩ := h
      refine ⟨D, [false], rfl, SqL.of d4, false, rfl, iteF ?_⟩
      refine ⟨_, rfl, rfl, false, rfl, iteF ?_⟩
      refine ⟨_, rfl, _, rfl, dF, "up", .ref tU, rfl, rfl, ?_, tU, _, rfl, .inr (D0.f3 _), rfl, rfl, ?_⟩
      · exact ⟨es, n, _, k1, k2, D0.f2, rfl⟩
      · exact q _ fun b o e => k4 b o (ne_of_none e hD) e
theorem scTrInit : FnScope ["self", "word", "steps"] ((["self", "word"] : List Str) ++ (["steps"] : List Str)) (defScope sTraitInit) := ⟨rfl, rfl, rfl, by decide +kernel, rfl, by decide +kernel, by decide +kernel⟩
theorem ok_trInit {cS C dC dF tU fA fW f : Addr} {fdA fdW fd : FuncData} (S : Std mg) (c : OwnCl K mg "Step" cS) (n2 : NoAttr K cS "ways") (D0 : Fits K w mg dC dF tU) (A1 : Df K mg "_are_steps" sAreSteps fA fdA ["steps", "count"]) (W1 : Df K mg "_ways_fit" sWaysFit fW fdW ["word", "steps"])
    (cl : Cls K C) (m1 : NoAttr K C "word") (m2 : NoAttr K C "steps") (F : Fun K "__init__" "Trait.__init__" sTraitInit f fd) :
    FnR P w K mg base CX0 2 f (fun vs H Q E => ∃ ws rest, vs = ws ++ rest ∧ ws.length = (["self", "word"] : List Str).length ∧ rest.length ≤ sizeLine ∧ ∀ p, H p = Option.none → spTrBody K cS C (ws ++ [V.ref p]) (upd H p (.tup rest)) Q E) := by
  have GA : FnOk P w K mg base CX0 1 fA fdA ["steps", "count"] (spAreSteps cS) := ok_areSteps S c A1.F
  have GW : FnOk P w K mg base CX0 1 fW fdW ["word", "steps"] (spWaysFit cS) := ok_waysFit S c n2 D0 W1.F
  refine okStar (ps := ["self", "word"]) (pv := "steps") F scTrInit (fun kV doc pm an cdv ct => StX.bind_star2 (B := fun us => bindArgs (PySem.W.fnOf "__init__" "Trait.__init__" (defArgs sTraitInit) (defBody sTraitInit) (defScope sTraitInit) .none kV doc pm an cdv ct) ⟨us, []⟩) (p1 := "self") (p2 := "word") (pv := "steps") (fun a b => rfl) (fun a b r rs => rfl)) (fun cdv A outer s H vs Q E hr h => ?_)
  obtain ⟨x, dx, p, b, z, rfl, hx, hp, hb, q⟩ := h
  obtain ⟨es, n, kd⟩ := D0.c1
  obtain ⟨t, k1⟩ := D0.c2
  obtain ⟨ka, kb, kc⟩ := kd
  have KD : KDict K w dC es n := ⟨ka, kb, kc⟩
  refine ⟨_, pss_cons (ps_if (PW.pt (pw_or (pt_not (pt_val (pe_callB call_isi (by rfl) S.isi (by decide +kernel) (pa_cons (pv 1) (pa_cons (pe_bltn (v := .ty "str") (by rfl) S.str (by decide +kernel) rfl) pa_nil)))))
        (pw_or1 (pt_cmpR (op_notIn_kd KD) (pv 1) (pe_glob (v := .ref dC) rfl D0.counts rfl) (by rfl))))) (pss_one ps_never) pss_nil)
    (pss_cons (ps_if (pt_not (pt_val (pe_call GA hr rfl A1.g A1.F.kp A1.b .nil pass0 (pa_cons (pv 2) (pa_cons (pe_ix ix_kdict (pe_glob (v := .ref dC) rfl D0.counts rfl) (pv 1) (fun _ _ => rfl)) pa_nil))))) (pss_one ps_never) pss_nil)
    (pss_cons (ps_if (pt_not (pt_val (pe_call GW hr rfl W1.g W1.F.kp W1.b .nil pass0 (pa_cons (pv 1) (pa_cons (pv 2) pa_nil))))) (pss_one ps_never) pss_nil)
    (pss_cons (ps_fld (pv 0) (pv 1) rfl) (pss_one (ps_fld (pv 0) (pv 2) rfl))))), ?_⟩
  refine ⟨_, rfl, _, _, _, _, true, rfl, .ty "str", .base (.str "up"), kit_ty (by decide +kernel), true, rfl, iteF ?_⟩
  refine ⟨_, rfl, "up", _, rfl, rfl, k1, _, rfl, iteF ?_⟩
  refine ⟨_, rfl, _, rfl, dC, "up", .int 1, rfl, rfl, ⟨es, n, _, ka, kb, k1, ⟨_, rfl⟩⟩, p, b, z, "+", rfl, hp, hb, fun H1 s1 => ⟨_, rfl, iteF ?_⟩⟩
  refine ⟨_, rfl, _, rfl, p, b, z, rfl, s1 _ _ hp, hb.same s1, fun H2 s2 => ⟨_, rfl, iteF ?_⟩⟩
  have s3 := s1.trans s2
  refine ⟨_, rfl, _, rfl, x, C, dx, _, rfl, s3 _ _ hx, cl, m1, by decide, ?_⟩
  refine ⟨_, rfl, _, rfl, x, C, dx, _, rfl, upd_same, cl, m2, by show 1 < 1000; decide, ?_⟩
  exact q _ upd_same (((Keep.same s3).trans Keep.put).trans Keep.put)
end
end LK

namespace LK
open PySem PySem.Spec PyProof.Rows L2
/-! ### texts that are drawn -/
def spSign : Sp := fun vs H Q _ => ∃ (l : Addr), vs = [.ref l] ∧ Feed H l ∧ ∀ c H', Feed H' l → Keep l H H' → Q (.str ⟨#[c]⟩) H'
def spBent : Sp := fun vs H Q _ => ∃ (l : Addr) (z : Str), vs = [.ref l, .str z] ∧ z.length ≤ 4 ∧ Feed H l ∧ ∀ y H', y.length ≤ 9 → Feed H' l → Keep l H H' → Q (.str y) H'
def spNear : Sp := fun vs H Q _ => ∃ (l : Addr), vs = [.ref l] ∧ Feed H l ∧ ∀ y H', y.length ≤ 9 → Feed H' l → Keep l H H' → Q (.str y) H'
def spWays : Sp := fun vs H Q _ => ∃ (l : Addr), vs = [.ref l] ∧ Feed H l ∧ ∀ y H', WaysOk y → Feed H' l → Keep l H H' → Q (.str y) H'
theorem len_app (x y : Str) : (x ++ y).length = x.length + y.length := by
  rw [TL.len_tl, TL.tl_append, List.length_append, ← TL.len_tl, ← TL.len_tl]
theorem fit {x y : Str} {m n : Nat} (a : x.length ≤ m) (b : y.length ≤ n) (c : m + n ≤ 1000) : x.length + y.length ≤ sizeLine := Nat.le_of_lt (small1000 (by omega))
theorem cut4 {z : Str} (h : z.length ≤ 4) (a b : Option Int) : (cutS z a b).length ≤ 4 := Nat.le_trans (cutS_length z a b) h
section
variable {P : Program} {w : World} {K : PySem.W.Frag} {mg : Str → Option Value} {base : Heap}
theorem scSign : FnScope ["_law_feed_here", "_law_signs"] ["_law_feed_here"] (defScope sSign) := ⟨rfl, rfl, rfl, by decide +kernel, rfl, by decide +kernel, by decide +kernel⟩
theorem ok_sign {f fD fP : Addr} {fd fdD fdP : FuncData} (S : Std mg) (F : Fun K "_law_sign" "_law_sign" sSign f fd) (D : Df K mg "_law_draw" sDraw fD fdD ["_law_feed_here", "_law_many"]) (PK : Df K mg "_law_pick" sPick fP fdP ["_law_feed_here", "_law_items"]) : FnOk P w K mg base CX0 3 f fd ["_law_feed_here"] spSign := by
  have GP : FnOk P w K mg base CX0 2 fP fdP ["_law_feed_here", "_law_items"] (spPick K) := ok_pick S PK.F D
  refine F.ok scSign (fun vs H Q E h => ?_) (fun cdv A outer s H vs Q E hr h => ?_)
  · obtain ⟨l, rfl, _⟩ := h
    rfl
  · obtain ⟨l, rfl, hf, q⟩ := h
    refine ⟨_, pss_cons (ps_set (i := 1) scSign.nd rfl (Or.inl rfl) pe_str) (pss_cons (ps_set (i := 1) scSign.nd rfl (Or.inl rfl) (pe_op op_add_str (pv 1) pe_str))
      (pss_one (ps_ret (pe_call GP hr rfl PK.g PK.F.kp PK.b .nil pass0 (pa_cons (pv 0) (pa_cons (pv 1) pa_nil)))))), ?_⟩
    refine ⟨_, rfl, _, _, rfl, rfl, by decide +kernel, _, rfl, _, rfl, l, _, (fun v => ∃ c : Nat, v = .str ⟨#[c]⟩), rfl, hf, .inl ⟨_, rfl, by decide +kernel, by decide +kernel, fun c _ => ⟨c, rfl⟩⟩, ?_⟩
    rintro v H' ⟨c, rfl⟩ hf' k
    exact q c H' hf' k
def nBent : List Str := ["_law_feed_here", "_law_text", "_law_at", "_law_way", "_law_sign_here"]
theorem scBent : FnScope nBent ["_law_feed_here", "_law_text"] (defScope sBent) := ⟨rfl, rfl, rfl, by decide +kernel, rfl, by decide +kernel, by decide +kernel⟩
theorem ok_bent {f fD fS fP : Addr} {fd fdD fdS fdP : FuncData} (S : Std mg) (F : Fun K "_law_bent" "_law_bent" sBent f fd) (D : Df K mg "_law_draw" sDraw fD fdD ["_law_feed_here", "_law_many"]) (PK : Df K mg "_law_pick" sPick fP fdP ["_law_feed_here", "_law_items"])
    (SG : Df K mg "_law_sign" sSign fS fdS ["_law_feed_here"]) : FnOk P w K mg base CX0 4 f fd ["_law_feed_here", "_law_text"] spBent := by
  have GD : FnOk P w K mg base CX0 1 fD fdD ["_law_feed_here", "_law_many"] spDraw := ok_draw S D.F
  have GS : FnOk P w K mg base CX0 3 fS fdS ["_law_feed_here"] spSign := ok_sign S SG.F D PK
  refine F.ok scBent (fun vs H Q E h => ?_) (fun cdv A outer s H vs Q E hr h => ?_)
  · obtain ⟨l, z, rfl, _⟩ := h
    rfl
  · obtain ⟨l, z, rfl, hz, hf, q⟩ := h
    have hr1 : Room 1 _ := hr.mono (by decide)
    refine ⟨_, pss_cons (ps_par3 (i := 2) (j := 3) (l := 4) rfl scBent.nd rfl rfl rfl (by decide) (by decide) (by decide) rfl rfl rfl
        (pa_cons (pe_call GD hr1 rfl D.g D.F.kp D.b .nil pass0 (pa_cons (pv 0) (pa_cons (pe_op op_add (pe_callB call_len (by rfl) S.len PySem.boot_len (pa_cons (pv 1) pa_nil)) pe_int) pa_nil)))
        (pa_cons (pe_call GD hr1 rfl D.g D.F.kp D.b .nil pass0 (pa_cons (pv 0) (pa_cons pe_int pa_nil)))
        (pa_cons (pe_call GS hr rfl SG.g SG.F.kp SG.b .nil pass0 (pa_cons (pv 0) pa_nil)) pa_nil))) rfl)
      (pss_cons (ps_if (pt_cmpR op_eq (pv 3) pe_int (nomark _)) (pss_one (ps_ret (pe_op op_add_str (pe_op op_add_str (pe_slice sl_str (pv 1) po_none (po_some (pv 2))) (pv 4)) (pe_slice sl_str (pv 1) (po_some (pv 2)) po_none)))) pss_nil)
      (pss_cons (ps_if (pt_cmpR op_eq (pv 3) pe_int (nomark _)) (pss_one (ps_ret (pe_op op_add_str (pe_op op_add_str (pe_slice sl_str (pv 1) po_none (po_some (pv 2))) (pv 4)) (pe_slice sl_str (pv 1) (po_some (pe_op op_add (pv 2) pe_int)) po_none)))) pss_nil)
      (pss_cons (ps_if (pt_cmpR op_eq (pv 3) pe_int (nomark _)) (pss_one (ps_ret (pe_op op_add_str (pe_slice sl_str (pv 1) po_none (po_some (pv 2))) (pe_slice sl_str (pv 1) (po_some (pe_op op_add (pv 2) pe_int)) po_none)))) pss_nil)
      (pss_one (ps_ret (pe_op op_add_str (pe_slice sl_str (pv 1) po_none (po_some (pe_op op_add (pv 2) pe_int))) (pe_slice sl_str (pv 1) (po_some (pv 2)) po_none))))))), ?_⟩
    refine ⟨_, rfl, _, rfl, _, z.length, rfl, ⟨by rw [sizeLine_eq]; omega, rfl⟩, _, _, rfl, rfl, l, _, rfl, hf, by show (1 : Int) ≤ z.length + 1; omega, by show (z.length : Int) + 1 < 1073741824; omega, fun d H1 d0 d1 hf1 k1 => ?_⟩
    refine ⟨_, rfl, l, 4, rfl, hf1, by decide, by decide, fun v H2 v0 v1 hf2 k2 => ?_⟩
    refine ⟨_, rfl, l, rfl, hf2, fun c H3 hf3 k3 => ?_⟩
    have zs : z.length ≤ sizeLine := Nat.le_of_lt (small1000 (by omega))
    have k : Keep l H H3 := (k1.trans k2).trans k3
    have one : (⟨#[c]⟩ : Str).length ≤ 1 := Nat.le_refl 1
    have q3 : ∀ u v : Str, u.length ≤ 5 → v.length ≤ 4 → Q (.str (u ++ v)) H3 := fun u v a b => q _ H3 (by rw [len_app]; omega) hf3 k
    refine ⟨_, _, _, rfl, _, rfl, rfl, _, rfl, ite2 (fun _ => ?_) (fun _ => ?_)⟩
    · refine ⟨_, rfl, _, rfl, d, rfl, z, rfl, zs, _, rfl, _, _, rfl, rfl, fit (cut4 hz _ _) one (by decide), ?_⟩
      refine ⟨_, rfl, _, rfl, d, rfl, z, rfl, zs, _, _, rfl, rfl, fit (m := 5) (by rw [len_app]; have := cut4 hz none (some d); omega) (cut4 hz _ _) (by decide), q3 _ _ (by rw [len_app]; have := cut4 hz none (some d); omega) (cut4 hz _ _)⟩
    refine ⟨_, rfl, rfl, _, rfl, ite2 (fun _ => ?_) (fun _ => ?_)⟩
    · refine ⟨_, rfl, _, rfl, d, rfl, z, rfl, zs, _, rfl, _, _, rfl, rfl, fit (cut4 hz _ _) one (by decide), ?_⟩
      refine ⟨_, rfl, _, rfl, _, _, rfl, rfl, _, rfl, z, rfl, zs, _, _, rfl, rfl, fit (m := 5) (by rw [len_app]; have := cut4 hz none (some d); omega) (cut4 hz _ _) (by decide), q3 _ _ (by rw [len_app]; have := cut4 hz none (some d); omega) (cut4 hz _ _)⟩
    refine ⟨_, rfl, rfl, _, rfl, ite2 (fun _ => ?_) (fun _ => ?_)⟩
    · refine ⟨_, rfl, _, rfl, d, rfl, z, rfl, zs, ?_⟩
      refine ⟨_, rfl, _, rfl, _, _, rfl, rfl, _, rfl, z, rfl, zs, _, _, rfl, rfl, fit (cut4 hz _ _) (cut4 hz _ _) (by decide), q3 _ _ (Nat.le_trans (cut4 hz _ _) (by decide)) (cut4 hz _ _)⟩
    · refine ⟨_, rfl, _, rfl, _, _, rfl, rfl, _, rfl, z, rfl, zs, ?_⟩
      refine ⟨_, rfl, _, rfl, d, rfl, z, rfl, zs, _, _, rfl, rfl, fit (cut4 hz _ _) (cut4 hz _ _) (by decide), q3 _ _ (Nat.le_trans (cut4 hz _ _) (by decide)) (cut4 hz _ _)⟩
def nNear : List Str := ["_law_feed_here", "_law_letters", "_law_way", "_law_k"]
theorem scNear : FnScope nNear ["_law_feed_here"] (defScope sNear) := ⟨rfl, rfl, rfl, by decide +kernel, rfl, by decide +kernel, by decide +kernel⟩
theorem feed_ne {H : Hp} {l D : Addr} (h : Feed H l) (hD : H D = none) : l ≠ D := h.ne hD
theorem ok_near {f fD fS fP fB fW : Addr} {fd fdD fdS fdP fdB fdW : FuncData} (S : Std mg) (F : Fun K "_law_near_name" "_law_near_name" sNear f fd) (D : Df K mg "_law_draw" sDraw fD fdD ["_law_feed_here", "_law_many"]) (PK : Df K mg "_law_pick" sPick fP fdP ["_law_feed_here", "_law_items"])
    (SG : Df K mg "_law_sign" sSign fS fdS ["_law_feed_here"]) (B : Df K mg "_law_bent" sBent fB fdB ["_law_feed_here", "_law_text"]) (W : Df K mg "_law_word" sWord fW fdW ["_law_feed_here"]) : FnOk P w K mg base CX0 5 f fd ["_law_feed_here"] spNear := by
  have GD : FnOk P w K mg base CX0 1 fD fdD ["_law_feed_here", "_law_many"] spDraw := ok_draw S D.F
  have GP : FnOk P w K mg base CX0 2 fP fdP ["_law_feed_here", "_law_items"] (spPick K) := ok_pick S PK.F D
  have GB : FnOk P w K mg base CX0 4 fB fdB ["_law_feed_here", "_law_text"] spBent := ok_bent S B.F D PK SG
  have GW : FnOk P w K mg base CX0 3 fW fdW ["_law_feed_here"] spWord := ok_word S W.F D PK
  refine F.ok scNear (fun vs H Q E h => ?_) (fun cdv A outer s H vs Q E hr h => ?_)
  · obtain ⟨l, rfl, _⟩ := h
    rfl
  · obtain ⟨l, rfl, hf, q⟩ := h
    have hr1 : Room 1 _ := hr.mono (by decide)
    have hr2 : Room 2 _ := hr.mono (by decide)
    have hr3 : Room 3 _ := hr.mono (by decide)
    refine ⟨_, pss_cons (ps_set (i := 1) scNear.nd rfl (Or.inr rfl) pe_str)
      (pss_cons (ps_set (i := 2) scNear.nd rfl (Or.inl rfl) (pe_call GD hr1 rfl D.g D.F.kp D.b .nil pass0 (pa_cons (pv 0) (pa_cons pe_int pa_nil))))
      (pss_cons (ps_if (pt_cmpR op_eq (pv 2) pe_int (nomark _)) (pss_one (ps_ret (pe_call GP hr2 rfl PK.g PK.F.kp PK.b .nil pass0 (pa_cons (pv 0) (pa_cons (pe_lst (pa_cons pe_str (pa_cons pe_str (pa_cons pe_str (pa_cons pe_str (pa_cons pe_str
            (pa_cons pe_str (pa_cons pe_str (pa_cons pe_str (pa_cons pe_str (pa_cons pe_str pa_nil))))))))))) pa_nil))))) pss_nil)
      (pss_cons (ps_if (pt_cmpR op_eq (pv 2) pe_int (nomark _)) (pss_one (ps_ret (pe_join pe_str (pe_lc (own := [("_law_k", 3)]) (g := gName 3) (tt := tYes) rfl scNear.nd
          (pi_range1 (by rfl) S.range (pa_cons (pe_call GD hr1 rfl D.g D.F.kp D.b .nil pass0 (pa_cons (pv 0) (pa_cons pe_int pa_nil))) pa_nil))
          (blkOk_by (N := nNear) (sc := defScope sNear) (by decide +kernel)) (fun _ _ _ _ _ => pg_name (i := 3) scNear.nd rfl (Or.inl rfl)) (fun _ _ _ _ _ => pts_nil)
          (fun _ _ _ _ _ => pe_call GP hr2 rfl PK.g PK.F.kp PK.b .nil pass0 (pa_cons (pv 0) (pa_cons (pv 1) pa_nil))))))) pss_nil)
      (pss_cons (ps_if (pt_cmpR op_eq (pv 2) pe_int (nomark _)) (pss_one (ps_ret (pe_call GB hr rfl B.g B.F.kp B.b .nil pass0 (pa_cons (pv 0) (pa_cons (pe_call GW hr3 rfl W.g W.F.kp W.b .nil pass0 (pa_cons (pv 0) pa_nil)) pa_nil))))) pss_nil)
      (pss_one (ps_ret (pe_call GW hr3 rfl W.g W.F.kp W.b .nil pass0 (pa_cons (pv 0) pa_nil)))))))), ?_⟩
    refine ⟨_, rfl, l, 4, rfl, hf, by decide, by decide, fun v H0 v0 v1 hf0 k0 => ?_⟩
    refine ⟨_, rfl, rfl, _, rfl, ite2 (fun _ => ?_) (fun _ => ?_)⟩
    · refine ⟨_, rfl, by show 10 ≤ sizeLine; decide, fun p hp => ?_⟩
      refine ⟨l, .ref p, (fun v => ∃ y : Str, v = .str y ∧ y.length ≤ 9), rfl, hf0.same (same_new hp), .inr ⟨p, _, rfl, (hf0.ne hp).symm, SqL.of upd_same, by decide, by decide, fun v hv => ?_⟩, ?_⟩
      · simp only [List.mem_cons, List.not_mem_nil, or_false] at hv
        rcases hv with h | h | h | h | h | h | h | h | h | h <;> exact ⟨_, h, by decide +kernel⟩
      · rintro v H' ⟨y, rfl, hy⟩ hf' k
        exact q y H' hy hf' ((k0.trans (Keep.new hp)).trans k)
    refine ⟨_, rfl, rfl, _, rfl, ite2 (fun _ => ?_) (fun _ => ?_)⟩
    · refine ⟨⟨_, rfl⟩, _, rfl, l, 7, rfl, hf0, by decide, by decide, fun d H1 d0 d1 hf1 k1 => ⟨d, rfl, by omega, by omega, fun D hD => ?_⟩⟩
      have hlD : l ≠ D := hf1.ne hD
      refine lc_range (lo := 0) (n := d.toNat) (fun i H2 => Feed H2 l ∧ (∀ b o, b ≠ l → H b = some o → H2 b = some o) ∧ ∃ ys : List Str, ys.length = i ∧ H2 D = some (.lst (ys.map V.str)) ∧ ∀ y, y ∈ ys → y.length = 1)
        ⟨hf1.same (same_new hD), fun b o n e => same_new hD b o (k1 b o n (k0 b o n e)), [], rfl, upd_same, fun y hy => by simp at hy⟩ ?_ ?_
      · rintro i H2 hi ⟨hf2, k2, ys, el, hy, hys⟩
        refine ⟨rfl, _, rfl, _, rfl, l, .str letters, (fun v => ∃ c : Nat, v = .str ⟨#[c]⟩), rfl, hf2, .inl ⟨_, rfl, by decide +kernel, by decide +kernel, fun c hc => ⟨c, rfl⟩⟩, ?_⟩
        rintro v H3 ⟨c, rfl⟩ hf3 k3
        refine ⟨ys.map V.str, k3 _ _ hlD.symm hy, ?_, ?_⟩
        · rw [List.length_map]
          exact small1000 (by omega)
        · refine ⟨hf3.keep (m := D) Keep.put hlD, fun b o n e => ?_, ys ++ [⟨#[c]⟩], by simp [el], by rw [upd_same]; simp, fun y hy' => ?_⟩
          · by_cases hb : b = D
            · exfalso
              rw [hb] at e n
              have z := k1 _ _ n (k0 _ _ n e)
              rw [hD] at z
              cases z
            · rw [upd_ne hb]
              exact k3 b o n (k2 b o n e)
          · rcases List.mem_append.mp hy' with z | z
            · exact hys y z
            · have e : y = ⟨#[c]⟩ := by simpa using z
              subst e
              rfl
      · rintro H2 ⟨hf2, k2, ys, el, hy, hys⟩
        refine ⟨_, _, ys, rfl, rfl, .inl (SqL.of hy), ?_, ?_⟩
        · rw [sum_one hys]
          show ys.length + ys.length * 0 ≤ 16777216
          omega
        · refine q _ H2 ?_ hf2 k2
          rw [TL.len_tl, tl_join0, flat_one hys]
          omega
    refine ⟨_, rfl, rfl, _, rfl, ite2 (fun _ => ?_) (fun _ => ?_)⟩
    · refine ⟨_, rfl, _, rfl, l, rfl, hf0, fun z H1 hz hf1 k1 => ⟨l, z, rfl, hz.len, hf1, fun y H2 hy hf2 k2 => q y H2 hy hf2 ((k0.trans k1).trans k2)⟩⟩
    · exact ⟨_, rfl, l, rfl, hf0, fun z H1 hz hf1 k1 => q z H1 (by have := hz.len; omega) hf1 (k0.trans k1)⟩
theorem scWays : FnScope ["_law_feed_here", "_law_k"] ["_law_feed_here"] (defScope sWays) := ⟨rfl, rfl, rfl, by decide +kernel, rfl, by decide +kernel, by decide +kernel⟩
theorem ok_ways {f fD fP : Addr} {fd fdD fdP : FuncData} (S : Std mg) (F : Fun K "_law_ways" "_law_ways" sWays f fd) (D : Df K mg "_law_draw" sDraw fD fdD ["_law_feed_here", "_law_many"]) (PK : Df K mg "_law_pick" sPick fP fdP ["_law_feed_here", "_law_items"]) : FnOk P w K mg base CX0 3 f fd ["_law_feed_here"] spWays := by
  have GD : FnOk P w K mg base CX0 1 fD fdD ["_law_feed_here", "_law_many"] spDraw := ok_draw S D.F
  have GP : FnOk P w K mg base CX0 2 fP fdP ["_law_feed_here", "_law_items"] (spPick K) := ok_pick S PK.F D
  refine F.ok scWays (fun vs H Q E h => ?_) (fun cdv A outer s H vs Q E hr h => ?_)
  · obtain ⟨l, rfl, _⟩ := h
    rfl
  · obtain ⟨l, rfl, hf, q⟩ := h
    have hr1 : Room 1 _ := hr.mono (by decide)
    refine ⟨_, pss_one (ps_ret (pe_join pe_str (pe_lc (own := [("_law_k", 1)]) (g := gName 1) (tt := tYes) rfl scWays.nd
          (pi_range1 (by rfl) S.range (pa_cons (pe_op op_add pe_int (pe_call GD hr1 rfl D.g D.F.kp D.b .nil pass0 (pa_cons (pv 0) (pa_cons pe_int pa_nil)))) pa_nil))
          (blkOk_by (N := ["_law_feed_here", "_law_k"]) (sc := defScope sWays) (by decide +kernel)) (fun _ _ _ _ _ => pg_name (i := 1) scWays.nd rfl (Or.inl rfl)) (fun _ _ _ _ _ => pts_nil)
          (fun _ _ _ _ _ => pe_call GP hr rfl PK.g PK.F.kp PK.b .nil pass0 (pa_cons (pv 0) (pa_cons pe_str pa_nil)))))), ?_⟩
    refine ⟨⟨_, rfl⟩, _, rfl, l, 3, rfl, hf, by decide, by decide, fun d H1 d0 d1 hf1 k1 => ⟨_, _, rfl, rfl, 1 + d, rfl, by omega, by omega, fun D hD => ?_⟩⟩
    have hlD : l ≠ D := hf1.ne hD
    refine lc_range (lo := 0) (n := (1 + d).toNat) (fun i H2 => Feed H2 l ∧ (∀ b o, b ≠ l → H b = some o → H2 b = some o) ∧ ∃ ys : List Str, ys.length = i ∧ H2 D = some (.lst (ys.map V.str)) ∧ ∀ y, y ∈ ys → y.length = 1 ∧ ∀ c, c ∈ TL.tl y → c ∈ TL.tl ("+-?" : Str))
      ⟨hf1.same (same_new hD), fun b o n e => same_new hD b o (k1 b o n e), [], rfl, upd_same, fun y hy => by simp at hy⟩ ?_ ?_
    · rintro i H2 hi ⟨hf2, k2, ys, el, hy, hys⟩
      refine ⟨rfl, _, rfl, l, .str "+-?", (fun v => ∃ c : Nat, v = .str ⟨#[c]⟩ ∧ c ∈ TL.tl ("+-?" : Str)), rfl, hf2, .inl ⟨_, rfl, by decide +kernel, by decide +kernel, fun c hc => ⟨c, rfl, hc⟩⟩, ?_⟩
      rintro v H3 ⟨c, rfl, hc⟩ hf3 k3
      refine ⟨ys.map V.str, k3 _ _ hlD.symm hy, ?_, ?_⟩
      · rw [List.length_map]
        exact small1000 (by omega)
      · refine ⟨hf3.keep (m := D) Keep.put hlD, fun b o n e => ?_, ys ++ [⟨#[c]⟩], by simp [el], by rw [upd_same]; simp, fun y hy' => ?_⟩
        · by_cases hb : b = D
          · exfalso
            rw [hb] at e n
            have z := k1 _ _ n e
            rw [hD] at z
            cases z
          · rw [upd_ne hb]
            exact k3 b o n (k2 b o n e)
        · rcases List.mem_append.mp hy' with z | z
          · exact hys y z
          · have e : y = ⟨#[c]⟩ := by simpa using z
            subst e
            exact ⟨rfl, fun c' hc' => by
              have e : c' = c := by simpa [TL.tl] using hc'
              subst e
              exact hc⟩
    · rintro H2 ⟨hf2, k2, ys, el, hy, hys⟩
      have hone : ∀ y, y ∈ ys → y.length = 1 := fun y h => (hys y h).1
      have l1 : ys.length = 1 + d.toNat := by omega
      have htl := tl_join0 ys
      have hlen : (Txt.join "" ys).length = ys.length := by rw [TL.len_tl, htl, flat_one hone]
      refine ⟨_, _, ys, rfl, rfl, .inl (SqL.of hy), ?_, q _ H2 ⟨by omega, by omega, fun c hc => ?_⟩ hf2 k2⟩
      · rw [sum_one hone]
        show ys.length + ys.length * 0 ≤ 16777216
        omega
      · rw [htl] at hc
        obtain ⟨l', h1, h2⟩ := List.mem_flatten.mp hc
        obtain ⟨y, hy', rfl⟩ := List.mem_map.mp h1
        exact (hys y hy').2 c h2
end
end LK

namespace LK
open PySem PySem.Spec PyProof.Rows L2
/-! ### any value -/
/-- the makers of the objects -/
structure Make (K : PySem.W.Frag) (mg : Str → Option Value) (w : World) (k : Kinds) (iS iT iC iE lS kw dC dF tU : Addr) (fS fT fC fE gS : FuncData) : Prop where
  mS : Mk K k.cS iS
  mT : Mk K k.cT iT
  mC : Mk K k.cC iC
  mE : Mk K k.cE iE
  FS : Fun K "__init__" "Step.__init__" sStepInit iS fS
  FT : Fun K "__init__" "Trait.__init__" sTraitInit iT fT
  FC : Fun K "__init__" "Chain.__init__" sChainInit iC fC
  FE : Fun K "__init__" "Expr.__init__" sExprInit iE fE
  bS : Binds K fS ["self", "name", "ways"] []
  bE : Binds K fE ["self", "kind", "word", "step", "parts"] []
  L : LenM K k.cS lS gS sStepLen "Step.__len__"
  W : Words K mg kw
  m1 : ∃ t, mg "MOST_ARGUMENTS" = some (.int 3 t)
  m2 : ∃ t, mg "WAYS" = some (.str "+-?" t)
  D : Fits K w mg dC dF tU
  n : ExN K k.cE
def spAny (K : PySem.W.Frag) (k : Kinds) (n : Nat) : Sp := fun vs H Q _ => ∃ (l : Addr) (d : Nat), vs = [.ref l, .int d] ∧ d < n ∧ d ≤ 3 ∧ Feed H l ∧ ∀ v H', Alike K k (d + 1) (nw H H') v v → Feed H' l → Keep l H H' → Q v H'
theorem old_none {H H1 : Hp} {l b : Addr} (k : Keep l H H1) (f : Feed H1 l) (h : H1 b = none) : H b = none := by
  cases e : H b with
  | none => rfl
  | some o =>
    by_cases hb : b = l
    · obtain ⟨x, y, q, _⟩ := f
      rw [hb, q] at h
      cases h
    · rw [k _ _ hb e] at h
      cases h
/-- an object just made, seen later -/
theorem made {H H1 H' : Hp} {l x dx : Addr} {o u : HO} (k : Keep l H H1) (f : Feed H1 l) (nx : H1 x = none) (nd : H1 dx = none) (k2 : Keep x (upd (upd H1 dx o) x u) H') : Feed H' l ∧ Keep l H H' ∧ H x = none := by
  have s := same_of_keep (H1 := H1) nx nd k2
  exact ⟨f.same s, k.trans (Keep.same s), old_none k f nx⟩
theorem nw_mono {H H1 H' : Hp} {l : Addr} (k : Keep l H H1) (f : Feed H1 l) : Same (nw H1 H') (nw H H') := fun b o e => by
  obtain ⟨e1, e2⟩ := nw_some e
  rw [nw_at (old_none k f e1)]
  exact e2
theorem StepAt.nw {C : Addr} {H H' : Hp} {x : Addr} {z y : Str} (hx : H x = none) (h : StepAt C H' x z y) : StepAt C (nw H H') x z y := by
  obtain ⟨dx, h⟩ := h
  exact ⟨dx, by rw [nw_at hx]; exact h⟩
theorem plusOk : WaysOk "+" := ⟨by decide +kernel, by decide +kernel, by decide +kernel⟩
/-- an object made of a new tuple of one step -/
theorem made_of {H H1 H' : Hp} {l x dx p b C : Addr} {fs : List (Str × V)} (k : Keep l H H1) (f : Feed H1 l) (nx : H1 x = none) (nd : H1 dx = none) (ne : dx ≠ x) (hp : (upd (upd H1 dx (.own x)) x (.ins C dx fs)) p = none)
    (k2 : Keep x (upd (upd (upd H1 dx (.own x)) x (.ins C dx fs)) p (.tup [.ref b])) H') : Feed H' l ∧ Keep l H H' ∧ H x = none ∧ H p = none ∧ H' p = some (.tup [.ref b]) ∧ Same H1 (upd (upd (upd H1 dx (.own x)) x (.ins C dx fs)) p (.tup [.ref b])) := by
  have px : p ≠ x := fun e => by
    rw [e, upd_same] at hp
    cases hp
  have pd : p ≠ dx := fun e => by
    rw [e, upd_ne ne, upd_same] at hp
    cases hp
  have hp1 : H1 p = none := by
    rw [upd_ne px, upd_ne pd] at hp
    exact hp
  have nx2 : (upd H1 dx (.own x)) x = none := by
    rw [upd_ne ne.symm]
    exact nx
  have s3 : Same H1 (upd (upd (upd H1 dx (.own x)) x (.ins C dx fs)) p (.tup [.ref b])) := ((same_new nd).trans (same_new nx2)).trans (same_new hp)
  have s : Same H1 H' := fun c o e => k2 c o (ne_of_none e nx) (s3 c o e)
  exact ⟨f.same s, k.trans (Keep.same s), old_none k f nx, old_none k f hp1, k2 _ _ px upd_same, s3⟩
section
variable {P : Program} {w : World} {K : PySem.W.Frag} {mg : Str → Option Value} {base : Heap}
def nAny : List Str := ["_law_feed_here", "_law_deep", "_law_way", "_law_some", "_law_k"]
theorem scAny : FnScope nAny ["_law_feed_here", "_law_deep"] (defScope sAny) := ⟨rfl, rfl, rfl, by decide +kernel, rfl, by decide +kernel, by decide +kernel⟩
/-- all the defs that it calls -/
structure AnyF (K : PySem.W.Frag) (mg : Str → Option Value) (aD aP aS aB aW aN aY aI aM aA aE aWo aSt aFi : Addr) (fD fP fS fB fW fN fY fI fM fA fE fWo fSt fFi : FuncData) : Prop where
  D : Df K mg "_law_draw" sDraw aD fD ["_law_feed_here", "_law_many"]
  P : Df K mg "_law_pick" sPick aP fP ["_law_feed_here", "_law_items"]
  S : Df K mg "_law_sign" sSign aS fS ["_law_feed_here"]
  B : Df K mg "_law_bent" sBent aB fB ["_law_feed_here", "_law_text"]
  W : Df K mg "_law_word" sWord aW fW ["_law_feed_here"]
  N : Df K mg "_law_near_name" sNear aN fN ["_law_feed_here"]
  Y : Df K mg "_law_ways" sWays aY fY ["_law_feed_here"]
  I : Df K mg "is_name" sIsName aI fI ["value"]
  M : Df K mg "named" sNamed aM fM ["word"]
  A : Dd K mg "all_names" sAllNames aA fA ["holders", "more"]
  E : Dd K mg "all_steps" sAllSteps aE fE ["holders", "more"]
  O : Df K mg "_are_ways" sAreWays aWo fWo ["value"]
  T : Df K mg "_are_steps" sAreSteps aSt fSt ["steps", "count"]
  Z : Df K mg "_ways_fit" sWaysFit aFi fFi ["word", "steps"]
theorem ok_any {k : Kinds} {eS eE eT eC : Addr} {dS dE dT dC' : FuncData} {iS iT iC iE lS kw dC dF tU : Addr} {jS jT jC jE gS : FuncData} {aD aP aS aB aW aN aY aI aM aA aE aWo aSt aFi : Addr} {fD fP fS fB fW fN fY fI fM fA fE fWo fSt fFi : FuncData} {f : Addr} {fd : FuncData}
    (S : Std mg) (k' : Kin K mg k eS eE eT eC dS dE dT dC') (m : Make K mg w k iS iT iC iE lS kw dC dF tU jS jT jC jE gS) (a : AnyF K mg aD aP aS aB aW aN aY aI aM aA aE aWo aSt aFi fD fP fS fB fW fN fY fI fM fA fE fWo fSt fFi)
    (D : Df K mg "_law_any" sAny f fd ["_law_feed_here", "_law_deep"]) : ∀ n, FnOk P w K mg base CX0 (n + 6) f fd ["_law_feed_here", "_law_deep"] (spAny K k n)
  | 0 => D.F.ok scAny (fun vs H Q E h => by obtain ⟨_, _, _, h, _⟩ := h; exact absurd h (Nat.not_lt_zero _)) (fun cdv A outer s H vs Q E hr h => by obtain ⟨_, _, _, h, _⟩ := h; exact absurd h (Nat.not_lt_zero _))
  | n + 1 => by
    have G := ok_any S k' m a D n
    obtain ⟨t1, m1⟩ := m.m1
    obtain ⟨t2, m2⟩ := m.m2
    have GD : FnOk P w K mg base CX0 1 aD fD ["_law_feed_here", "_law_many"] spDraw := ok_draw S a.D.F
    have GP : FnOk P w K mg base CX0 2 aP fP ["_law_feed_here", "_law_items"] (spPick K) := ok_pick S a.P.F a.D
    have GN : FnOk P w K mg base CX0 5 aN fN ["_law_feed_here"] spNear := ok_near S a.N.F a.D a.P a.S a.B a.W
    have GW : FnOk P w K mg base CX0 3 aW fW ["_law_feed_here"] spWord := ok_word S a.W.F a.D a.P
    have GY : FnOk P w K mg base CX0 3 aY fY ["_law_feed_here"] spWays := ok_ways S a.Y.F a.D a.P
    have GM : FnOk P w K mg base CX0 4 aM fM ["word"] (spNamed K k.cE) := ok_named S m.W a.I k'.E.cl m.n k'.E.g m.mE m.FE m.bE a.A a.E a.M.F
    have GS : FnOk P w K mg base CX0 2 iS jS ["self", "name", "ways"] (spStInit k.cS) := ok_stInit S m.W a.I m1 m2 a.O k'.S.cl k'.s1 k'.s2 m.FS
    have GT := ok_trInit (P := P) (base := base) S k'.S k'.s2 m.D a.T a.Z k'.T.cl k'.t1 k'.t2 m.FT
    have GC := ok_chInit (P := P) (w := w) (base := base) S k'.S k'.s2 m.L k'.C.cl k'.c1 m.FC
    refine D.F.ok scAny (fun vs H Q E h => ?_) (fun cdv A outer s H vs Q E hr h => ?_)
    · obtain ⟨_, _, rfl, _⟩ := h
      rfl
    · obtain ⟨l, d, rfl, hd, hd3, hf, q⟩ := h
      have hr1 : Room 1 _ := hr.mono (by omega)
      have hr2 : Room 2 _ := hr.mono (by omega)
      have hr3 : Room 3 _ := hr.mono (by omega)
      have hr4 : Room 4 _ := hr.mono (by omega)
      have hr5 : Room 5 _ := hr.mono (by omega)
      have hrn : Room (n + 6) _ := hr.mono (by omega)
      refine ⟨_, pss_cons (ps_set (i := 2) scAny.nd rfl (Or.inl rfl) (pe_call GD hr1 rfl a.D.g a.D.F.kp a.D.b .nil pass0 (pa_cons (pv 0) (pa_cons (pe_ifExp (pt_cmpR op_gt (pv 1) pe_int (nomark _)) pe_int pe_int) pa_nil))))
        (pss_cons (ps_if (pt_cmpR op_eq (pv 2) pe_int (nomark _)) (pss_one (ps_ret (pe_op op_sub (pe_call GD hr1 rfl a.D.g a.D.F.kp a.D.b .nil pass0 (pa_cons (pv 0) (pa_cons pe_int pa_nil))) pe_int))) pss_nil)
        (pss_cons (ps_if (pt_cmpR op_eq (pv 2) pe_int (nomark _)) (pss_one (ps_ret (pe_call GP hr2 rfl a.P.g a.P.F.kp a.P.b .nil pass0 (pa_cons (pv 0) (pa_cons (pe_lst (pa_cons pe_bl (pa_cons pe_bl (pa_cons pe_non (pa_cons pe_non pa_nil))))) pa_nil))))) pss_nil)
        (pss_cons (ps_if (pt_cmpR op_eq (pv 2) pe_int (nomark _)) (pss_one (ps_ret (pe_call GN hr5 rfl a.N.g a.N.F.kp a.N.b .nil pass0 (pa_cons (pv 0) pa_nil)))) pss_nil)
        (pss_cons (ps_if (pt_cmpR op_eq (pv 2) pe_int (nomark _)) (pss_one (ps_ret (pe_make m.mS GS hr3 rfl k'.S.g m.bS .nil pass0 (pa_cons (pe_call GW hr3 rfl a.W.g a.W.F.kp a.W.b .nil pass0 (pa_cons (pv 0) pa_nil)) (pa_cons (pe_call GY hr3 rfl a.Y.g a.Y.F.kp a.Y.b .nil pass0 (pa_cons (pv 0) pa_nil)) pa_nil))))) pss_nil)
        (pss_cons (ps_if (pt_cmpR op_eq (pv 2) pe_int (nomark _)) (pss_one (ps_ret (pe_call GM hr4 rfl a.M.g a.M.F.kp a.M.b .nil pass0 (pa_cons (pe_call GW hr3 rfl a.W.g a.W.F.kp a.W.b .nil pass0 (pa_cons (pv 0) pa_nil)) pa_nil)))) pss_nil)
        (pss_cons (ps_if (pt_cmpR op_eq (pv 2) pe_int (nomark _)) (pss_one (ps_ret (StX.pe_makeR m.mT GT hr3 rfl k'.T.g pass0 (pa_cons pe_str (pa_cons (pe_make m.mS GS hr3 rfl k'.S.g m.bS .nil pass0 (pa_cons (pe_call GW hr3 rfl a.W.g a.W.F.kp a.W.b .nil pass0 (pa_cons (pv 0) pa_nil)) (pa_cons pe_str pa_nil))) pa_nil))))) pss_nil)
        (pss_cons (ps_if (pt_cmpR op_eq (pv 2) pe_int (nomark _)) (pss_one (ps_ret (StX.pe_makeR m.mC GC hr4 rfl k'.C.g pass0 (pa_cons (pe_make m.mS GS hr3 rfl k'.S.g m.bS .nil pass0 (pa_cons (pe_call GW hr3 rfl a.W.g a.W.F.kp a.W.b .nil pass0 (pa_cons (pv 0) pa_nil)) (pa_cons pe_str pa_nil))) pa_nil)))) pss_nil)
        (pss_cons (ps_setLc (i := 3) (own := [("_law_k", 4)]) (g := gName 4) (tt := tYes) rfl scAny.nd rfl rfl (sw_true rfl rfl rfl (by decide +kernel))
            (pi_range1 (by rfl) S.range (pa_cons (pe_call GD hr1 rfl a.D.g a.D.F.kp a.D.b .nil pass0 (pa_cons (pv 0) (pa_cons pe_int pa_nil))) pa_nil))
            (blkOk_by (N := nAny) (sc := defScope sAny) (by decide +kernel)) (fun _ _ _ _ _ => pg_name (i := 4) scAny.nd rfl (Or.inl rfl)) (fun _ _ _ _ _ => pts_nil)
            (fun _ _ _ _ _ => pe_call G (hr.mono (by omega)) rfl D.g D.F.kp D.b .nil pass0 (pa_cons (pv 0) (pa_cons (pe_op op_sub (pv 1) pe_int) pa_nil))))
        (pss_one (ps_ret (pe_ifExp (pt_cmpR op_eq (pv 2) pe_int (nomark _)) (pv 3) (pe_callTy call_tuple_of (by rfl) S.tuple (by decide +kernel) (pa_cons (pv 3) pa_nil))))))))))))), ?_⟩
      have leafA : ∀ {H' : Hp} {v : V}, Leaf K k (nw H H') v → Alike K k (d + 1) (nw H H') v v := fun h => .inl ⟨h, rfl⟩
      refine ⟨_, rfl, _, rfl, _, _, rfl, rfl, _, rfl, ite2 (fun c => ⟨l, 9, rfl, hf, by decide, by decide, fun v H0 v0 v1 hf0 k0 => ?_⟩) (fun c => ⟨l, 7, rfl, hf, by decide, by decide, fun v H0 v0 v1 hf0 k0 => ?_⟩)⟩
      all_goals
        have vd : v < 7 ∨ 0 < d := by
          first
          | exact .inl (by omega)
          | exact .inr (by have c' := of_decide_eq_true c; omega)
        refine ⟨_, rfl, rfl, _, rfl, ite2 (fun _ => ?_) (fun n0 => ?_)⟩
        · exact ⟨_, rfl, l, 2001, rfl, hf0, by decide, by decide, fun x H1 x0 x1 hf1 k1 => ⟨_, _, rfl, rfl, q _ H1 (leafA (.int _)) hf1 (k0.trans k1)⟩⟩
        refine ⟨_, rfl, rfl, _, rfl, ite2 (fun _ => ?_) (fun n1 => ?_)⟩
        · refine ⟨_, rfl, by show 4 ≤ sizeLine; decide, fun p hp => ?_⟩
          refine ⟨l, .ref p, (fun v => (∃ b, v = .bl b) ∨ v = .non), rfl, hf0.same (same_new hp), .inr ⟨p, _, rfl, (hf0.ne hp).symm, SqL.of upd_same, by decide, by decide, fun v hv => ?_⟩, ?_⟩
          · simp only [List.mem_cons, List.not_mem_nil, or_false] at hv
            rcases hv with h | h | h | h
            · exact .inl ⟨_, h⟩
            · exact .inl ⟨_, h⟩
            · exact .inr h
            · exact .inr h
          · rintro v H' h hf' kk
            refine q v H' (leafA ?_) hf' ((k0.trans (Keep.new hp)).trans kk)
            rcases h with ⟨b, rfl⟩ | rfl
            · exact .bl b
            · exact .non
        refine ⟨_, rfl, rfl, _, rfl, ite2 (fun _ => ?_) (fun n2 => ?_)⟩
        · exact ⟨_, rfl, l, rfl, hf0, fun y H1 hy hf1 k1 => q _ H1 (leafA (.str y (by omega))) hf1 (k0.trans k1)⟩
        refine ⟨_, rfl, rfl, _, rfl, ite2 (fun _ => ?_) (fun n3 => ?_)⟩
        · refine ⟨_, rfl, l, rfl, hf0, fun z H1 hz hf1 k1 => ⟨_, rfl, l, rfl, hf1, fun y H2 hy hf2 k2 => fun x dx nx nd ne => ⟨x, dx, z, y, rfl, upd_same, hz, hy, fun H' hs kk => ⟨rfl, ?_⟩⟩⟩⟩
          obtain ⟨f', k'', hx⟩ := made ((k0.trans k1).trans k2) hf2 nx nd kk
          exact q _ H' (leafA (.step (hs.nw hx) hz hy)) f' k''
        refine ⟨_, rfl, rfl, _, rfl, ite2 (fun _ => ?_) (fun n4 => ?_)⟩
        · refine ⟨_, rfl, l, rfl, hf0, fun z H1 hz hf1 k1 => ⟨z, rfl, hz, fun x H' he s' => ?_⟩⟩
          exact q _ H' (leafA (Leaf.same (nw_mono (k0.trans k1) hf1) (.expr he))) (hf1.same s') ((k0.trans k1).trans (Keep.same s'))
        refine ⟨_, rfl, rfl, _, rfl, ite2 (fun _ => ?_) (fun n5 => ?_)⟩
        · refine ⟨_, rfl, l, rfl, hf0, fun z H1 hz hf1 k1 => fun x dx nx nd ne => ⟨x, dx, z, "+", rfl, upd_same, hz, plusOk, fun H2 hs kk => ⟨rfl, ?_⟩⟩⟩
          obtain ⟨f2, k2, hx⟩ := made (k0.trans k1) hf1 nx nd kk
          refine fun x2 dx2 nx2 nd2 ne2 => ⟨[.ref x2, .str "up"], [.ref x], rfl, rfl, by show 1 ≤ sizeLine; decide, fun p hp => ?_⟩
          have px : x2 ≠ p := fun e => by
            rw [← e, upd_same] at hp
            cases hp
          refine ⟨x2, dx2, p, x, z, rfl, by rw [upd_ne px]; exact upd_same, upd_same, ?_, fun H' ht kk2 => ⟨rfl, ?_⟩⟩
          · obtain ⟨_, _, _, _, _, s3⟩ := made_of (b := x) k2 f2 nx2 nd2 ne2 hp (Keep.refl)
            exact hs.same s3
          · obtain ⟨f3, k3, hx2, hp0, hp', _⟩ := made_of k2 f2 nx2 nd2 ne2 hp kk2
            exact q _ H' (leafA (.trait ⟨dx2, "up", p, x, by rw [nw_at hx2]; exact ht, SqT.of (by rw [nw_at hp0]; exact hp')⟩)) f3 k3
        refine ⟨_, rfl, rfl, _, rfl, ite2 (fun _ => ?_) (fun n6 => ?_)⟩
        · refine ⟨_, rfl, l, rfl, hf0, fun z H1 hz hf1 k1 => fun x dx nx nd ne => ⟨x, dx, z, "+", rfl, upd_same, hz, plusOk, fun H2 hs kk => ⟨rfl, ?_⟩⟩⟩
          obtain ⟨f2, k2, hx⟩ := made (k0.trans k1) hf1 nx nd kk
          refine fun x2 dx2 nx2 nd2 ne2 => ⟨[.ref x2], [.ref x], rfl, rfl, by show 1 ≤ sizeLine; decide, fun p hp => ?_⟩
          have px : x2 ≠ p := fun e => by
            rw [← e, upd_same] at hp
            cases hp
          refine ⟨x2, dx2, p, x, z, "+", rfl, by rw [upd_ne px]; exact upd_same, upd_same, ?_, by decide +kernel, fun H' ht kk2 => ⟨rfl, ?_⟩⟩
          · obtain ⟨_, _, _, _, _, s3⟩ := made_of (b := x) k2 f2 nx2 nd2 ne2 hp (Keep.refl)
            exact hs.same s3
          · obtain ⟨f3, k3, hx2, hp0, hp', _⟩ := made_of k2 f2 nx2 nd2 ne2 hp kk2
            exact q _ H' (leafA (.chain ⟨dx2, p, x, by rw [nw_at hx2]; exact ht, SqT.of (by rw [nw_at hp0]; exact hp')⟩)) f3 k3
        have hd0 : 0 < d := by
          rcases vd with h | h
          · exfalso
            have e0 : v ≠ 0 := fun e => n0 (decide_eq_true (by rw [e]))
            have e1 : v ≠ 1 := fun e => n1 (decide_eq_true (by rw [e]))
            have e2 : v ≠ 2 := fun e => n2 (decide_eq_true (by rw [e]))
            have e3 : v ≠ 3 := fun e => n3 (decide_eq_true (by rw [e]))
            have e4 : v ≠ 4 := fun e => n4 (decide_eq_true (by rw [e]))
            have e5 : v ≠ 5 := fun e => n5 (decide_eq_true (by rw [e]))
            have e6 : v ≠ 6 := fun e => n6 (decide_eq_true (by rw [e]))
            omega
          · exact h
        obtain ⟨d', rfl⟩ : ∃ d', d = d' + 1 := ⟨d - 1, by omega⟩
        refine ⟨_, rfl, l, 4, rfl, hf0, by decide, by decide, fun c H1 c0 c1 hf1 k1 => ⟨c, rfl, by omega, by omega, fun D hD => ?_⟩⟩
        have k01 := k0.trans k1
        have hDn : H D = none := old_none k01 hf1 hD
        have hlD : D ≠ l := (hf1.ne hD).symm
        refine lc_range (lo := 0) (n := c.toNat) (fun i H2 => Feed H2 l ∧ Keep l H H2 ∧ ∃ ys : List V, ys.length = i ∧ H2 D = some (.lst ys) ∧ ∀ y, y ∈ ys → Alike K k (d' + 1) (L2.del (nw H H2) D) y y)
          ⟨hf1.same (same_new hD), k01.trans (Keep.new hD), [], rfl, upd_same, fun y hy => by simp at hy⟩ ?_ ?_
        · rintro i H2 hi ⟨hf2, k2, ys, el, hy, hys⟩
          refine ⟨rfl, _, rfl, _, rfl, _, _, rfl, rfl, l, d', ?_, by omega, by omega, hf2, fun y H3 ha hf3 k3 => ?_⟩
          · show [V.ref l, V.int (((d' + 1 : Nat) : Int) - 1)] = [V.ref l, V.int (d' : Int)]
            rw [show (((d' + 1 : Nat) : Int) - 1) = (d' : Int) by omega]
          have nl : ∀ {b : Addr}, H b = none → b ≠ l := fun {b} e z => by
            obtain ⟨_, _, e1, _⟩ := hf
            rw [z, e1] at e
            cases e
          refine ⟨ys, k3 _ _ hlD hy, small1000 (by omega), ?_, ?_, ys ++ [y], by simp [el], upd_same, fun u hu => ?_⟩
          · exact hf3.keep (m := D) Keep.put hlD.symm
          · intro b o n e
            rw [upd_ne (ne_of_none e hDn)]
            exact k3 b o n (k2 b o n e)
          · rcases List.mem_append.mp hu with h | h
            · refine (hys u h).same fun b o e => ?_
              have hb : b ≠ D := fun z => by
                rw [z, del_same] at e
                cases e
              rw [del_ne hb] at e ⊢
              obtain ⟨e1, e2⟩ := nw_some e
              rw [nw_at e1, upd_ne hb]
              exact k3 b o (nl e1) e2
            · obtain rfl : u = y := by simpa using h
              refine ha.same fun b o e => ?_
              obtain ⟨e1, e2⟩ := nw_some e
              have hb : b ≠ D := fun z => by
                rw [z, hy] at e1
                cases e1
              rw [del_ne hb, nw_at (old_none k2 hf2 e1), upd_ne hb]
              exact e2
        · rintro H2 ⟨hf2, k2, ys, el, hy, hys⟩
          have sub : ∀ {G : Hp}, Same (nw H H2) G → Same (L2.del (nw H H2) D) G := fun s b o e => by
            have hb : b ≠ D := fun z => by
              rw [z, del_same] at e
              cases e
            rw [del_ne hb] at e
            exact s b o e
          have items : ∀ {G : Hp}, Same (nw H H2) G → ∀ (i : Nat) x' y', ys[i]? = some x' → ys[i]? = some y' → Alike K k (d' + 1) G x' y' := fun s i x' y' e1 e2 => by
            rw [e1] at e2
            obtain rfl := Option.some.inj e2
            exact (hys x' (List.mem_of_getElem? e1)).same (sub s)
          refine ⟨_, rfl, rfl, _, rfl, ite2 (fun _ => ?_) (fun _ => ?_)⟩
          · refine ⟨_, rfl, q (.ref D) H2 (.inr ⟨D, D, ys, ys, rfl, rfl, rfl, by omega, .inl ⟨by rw [nw_at hDn]; exact hy, by rw [nw_at hDn]; exact hy⟩, items fun _ _ e => e⟩) hf2 k2⟩
          · refine ⟨_, rfl, D, ys, rfl, .inl ⟨SqL.of hy, fun p hp => ?_⟩⟩
            have hpn : H p = none := old_none k2 hf2 hp
            have s5 : Same (nw H H2) (nw H (upd H2 p (.tup ys))) := fun b o e => by
              obtain ⟨e1, e2⟩ := nw_some e
              rw [nw_at e1, upd_ne (ne_of_none e2 hp)]
              exact e2
            have hpt : nw H (upd H2 p (.tup ys)) p = some (.tup ys) := by
              rw [nw_at hpn]
              exact upd_same
            exact q (.ref p) _ (.inr ⟨p, p, ys, ys, rfl, rfl, rfl, by omega, .inr ⟨hpt, hpt⟩, items s5⟩) (hf2.same (same_new hp)) (k2.trans (Keep.new hp))
end
end LK

namespace LK
open PySem PySem.Spec PyProof.Rows L2
/-! ### the errors -/
def eN : Nat → Str
  | 0 => "InvalidStep"
  | 1 => "InvalidTrait"
  | 2 => "InvalidExpr"
  | 3 => "InvalidRow"
  | 4 => "InvalidText"
  | 5 => "InvalidWorld"
  | 6 => "InvalidStart"
  | 7 => "InvalidClaim"
  | 8 => "NoName"
  | 9 => "NoStep"
  | _ => "NoRow"
def eQ : Nat → Str
  | 0 => "InvalidStep.__init__"
  | 1 => "InvalidTrait.__init__"
  | 2 => "InvalidExpr.__init__"
  | 3 => "InvalidRow.__init__"
  | 4 => "InvalidText.__init__"
  | 5 => "InvalidWorld.__init__"
  | 6 => "InvalidStart.__init__"
  | 7 => "InvalidClaim.__init__"
  | 8 => "NoName.__init__"
  | 9 => "NoStep.__init__"
  | _ => "NoRow.__init__"
def eF : Nat → Str
  | 4 => "at"
  | 10 => "at"
  | 6 => "name"
  | 8 => "name"
  | 9 => "name"
  | _ => "word"
def eS (i : Nat) : Stmt := inClass (top (i + 2)) 0
/-- one of the errors that keep an argument -/
structure Er (K : PySem.W.Frag) (mg : Str → Option Value) (i : Nat) (C f : Addr) (fd : FuncData) : Prop where
  g : mg (eN i) = some (.ref C)
  T : OexC K C
  X : XfC K C
  E : ExcC K C
  ini : PySem.W.findIn K (.ref C) "__init__" = some (some (.ref f))
  ti : PySem.W.typeIn K (.ref f) = some (.type "function")
  F : Fun K "__init__" (eQ i) (eS i) f fd
  b : Binds K fd ["self", eF i] []
  no : PySem.W.findIn K (.ref C) (eF i) = some none
/-- one of the two that keep none -/
structure Er0 (K : PySem.W.Frag) (mg : Str → Option Value) (x : Str) (C : Addr) : Prop where
  g : mg x = some (.ref C)
  T : OexC K C
  E : ExcC K C
  ini : PySem.W.findIn K (.ref C) "__init__" = some (some (.builtin "ValueError.__init__"))
structure Errs (K : PySem.W.Frag) (mg : Str → Option Value) (C : Nat → Addr) (B : Addr) (f : Nat → Addr) (fd : Nat → FuncData) : Prop where
  er : ∀ i, i < 11 → Er K mg i (C i) (f i) (fd i)
  imp : Er0 K mg "Impossible" (C 11)
  base : Er0 K mg "WaysError" B
  k1 : ∀ i j, i < 12 → j < 12 → PySem.W.kitOne K (.ref (C i)) (.ref (C j)) = some (decide (i = j))
  k2 : ∀ j, j < 12 → PySem.W.kitOne K (.ref B) (.ref (C j)) = some false
  k3 : ∀ i, i < 12 → PySem.W.kitOne K (.ref (C i)) (.type "ValueError") = some true
  k4 : ∀ i, i < 12 → PySem.W.kitOne K (.ref (C i)) (.ref B) = some true
  k5 : PySem.W.kitOne K (.ref B) (.type "ValueError") = some true
/-- an error of the class C at a, that keeps v -/
def ErrAt (C : Addr) (x : Str) (H : Hp) (a : Addr) (v : V) : Prop := ∃ dx, H a = some (exo a C (some dx)) ∧ H dx = some (exd dx [(x, v)])
theorem ErrAt.same {C a : Addr} {x : Str} {H H' : Hp} {v : V} (s : Same H H') (h : ErrAt C x H a v) : ErrAt C x H' a v := by
  obtain ⟨dx, h1, h2⟩ := h
  exact ⟨dx, s _ _ h1, s _ _ h2⟩
def spErr (C : Addr) (x : Str) : Sp := fun vs H Q _ => ∃ (a : Addr) (v : V), vs = [.ref a, v] ∧ H a = some (exo a C none) ∧ ∀ H2, ErrAt C x H2 a v → Keep a H H2 → Q .non H2
theorem spErr_ret {C : Addr} {x : Str} : ∀ vs H Q, spErr C x vs H Q E0 → spErr C x vs H (fun v H' => v = .non ∧ Q v H') E0 := fun vs H Q h => by
  obtain ⟨a, v, e, ha, q⟩ := h
  exact ⟨a, v, e, ha, fun H2 h2 k => ⟨rfl, q H2 h2 k⟩⟩
theorem errV {C : Addr} {x : Str} {H : Hp} {v : V} {Q : Addr → Hp → Prop} (q : ∀ a H2, H a = none → ErrAt C x H2 a v → Same H H2 → Q a H2) : ([v] : List V).length ≤ 1000 ∧ ∀ a, H a = none → spErr C x (.ref a :: [v]) (upd H a (exo a C none)) (fun _ H2 => Q a H2) E0 :=
  ⟨by show 1 ≤ 1000; decide, fun a ha => ⟨a, v, rfl, upd_same, fun H2 e k => q a H2 ha e fun b o z => k b o (ne_of_none z ha) (by rw [upd_ne (ne_of_none z ha)]; exact z)⟩⟩
/-- a list by a comprehension over an enumerated list -/
theorem lc_enum {K : PySem.W.Frag} {a : Addr} {xs : List V} {g : TG} {tt : TT} {te : TE} {vs : List Nat} {σ : L2.St} {H1 : Hp} {D : Addr} {Qd : Hp → Prop} (Pv : Nat → Hp → Prop) (h0 : Pv 0 (upd H1 D (.lst []))) (hq : ∀ i H, Pv i H → SqL K H a xs)
    (hs : ∀ (i : Nat) (x : V) (T : Addr) (H : Hp), xs[i]? = some x → Pv i H → H T = none → g (.ref T) (wipe σ vs) (upd H T (.tup [.int (i : Nat), x])) fun σ2 H2 => wipe σ2 vs = wipe σ vs ∧ tt σ2 H2 fun b H3 =>
      if b = true then te σ2 H3 fun y H4 => ∃ acc, H4 D = some (.lst acc) ∧ acc.length < sizeLine ∧ Pv (i + 1) (upd H4 D (.lst (acc ++ [y]))) else Pv (i + 1) H3) (hd : ∀ H, Pv xs.length H → Qd H) :
    ∃ W : Nat → Nat → Hp → Prop, (∃ m, W 0 m (upd H1 D (.lst []))) ∧ ∀ i m H, W i m H →
      ((Ite K a).stop i H ∧ Qd H) ∨ ((Ite K a).go i H ∧ ∃ Nx : Hp → Prop, (∀ H', Nx H' → ∃ m', m' < m ∧ W (i + 1) m' H') ∧ ∀ x H', (Ite K a).yld i H x H' → g x (wipe σ vs) H' fun σ2 H2 => wipe σ2 vs = wipe σ vs ∧ tt σ2 H2 fun b H3 =>
        if b = true then te σ2 H3 fun y H4 => ∃ acc, H4 D = some (.lst acc) ∧ acc.length < sizeLine ∧ Nx (upd H4 D (.lst (acc ++ [y]))) else Nx H3) := by
  refine ⟨fun i m H => m + i = xs.length ∧ Pv i H, ⟨xs.length, rfl, h0⟩, fun i m H w => ?_⟩
  obtain ⟨e, p⟩ := w
  have q := hq i H p
  by_cases lt : i < xs.length
  · refine .inr ⟨⟨xs, xs[i], q, by simp [lt]⟩, Pv (i + 1), fun H' p' => ⟨m - 1, by omega, by omega, p'⟩, fun v H' y => ?_⟩
    obtain ⟨T, x, rfl, hT, rfl, hx⟩ := y
    exact hs i x T H (hx xs q) p hT
  · refine .inl ⟨⟨xs, q, by omega⟩, hd H ?_⟩
    rw [show xs.length = i by omega]
    exact p
/-- where the trues stand -/
def ix : List Bool → Nat → List Int
  | [], _ => []
  | b :: r, i => (if b = true then [(i : Int)] else []) ++ ix r (i + 1)
theorem ix_add : ∀ (bs : List Bool) (b : Bool) (i : Nat), ix (bs ++ [b]) i = ix bs i ++ (if b = true then [((i + bs.length : Nat) : Int)] else [])
  | [], b, i => by
    show (if b = true then [(i : Int)] else []) ++ [] = [] ++ _
    rw [List.append_nil, List.nil_append]
    rfl
  | c :: r, b, i => by
    show (if c = true then [(i : Int)] else []) ++ ix (r ++ [b]) (i + 1) = ((if c = true then [(i : Int)] else []) ++ ix r (i + 1)) ++ _
    rw [ix_add r b (i + 1), List.append_assoc, List.length_cons, show i + 1 + r.length = i + (r.length + 1) by omega]
theorem ix_len : ∀ (bs : List Bool) (i : Nat), (ix bs i).length ≤ bs.length
  | [], _ => Nat.le_refl _
  | c :: r, i => by
    show ((if c = true then [(i : Int)] else []) ++ ix r (i + 1)).length ≤ r.length + 1
    rw [List.length_append]
    have := ix_len r (i + 1)
    cases c <;> simp <;> omega
def spRef (K : PySem.W.Frag) (C : Nat → Addr) : Sp := fun vs H Q _ => ∃ (a D : Addr) (d : Option Addr) (b : Nat → Bool), vs = [.ref a] ∧ H a = some (exo a D d) ∧ (∀ dx, d = some dx → ∃ fs, H dx = some (exd dx fs)) ∧ ExcC K D ∧ (∀ j, j < 12 → PySem.W.kitOne K (.ref D) (.ref (C j)) = some (b j)) ∧
  ∀ p H', Same H H' → H' p = some (.lst ((ix ((List.range 12).map b) 0).map V.int)) → Q (.ref p) H'
section
variable {P : Program} {w : World} {K : PySem.W.Frag} {mg : Str → Option Value} {base : Heap}
theorem scErr0 : FnScope ["self", "word"] ["self", "word"] (defScope (eS 0)) := ⟨rfl, rfl, rfl, by decide +kernel, rfl, by decide +kernel, by decide +kernel⟩
theorem scErr1 : FnScope ["self", "word"] ["self", "word"] (defScope (eS 1)) := ⟨rfl, rfl, rfl, by decide +kernel, rfl, by decide +kernel, by decide +kernel⟩
theorem scErr2 : FnScope ["self", "word"] ["self", "word"] (defScope (eS 2)) := ⟨rfl, rfl, rfl, by decide +kernel, rfl, by decide +kernel, by decide +kernel⟩
theorem scErr3 : FnScope ["self", "word"] ["self", "word"] (defScope (eS 3)) := ⟨rfl, rfl, rfl, by decide +kernel, rfl, by decide +kernel, by decide +kernel⟩
theorem scErr4 : FnScope ["self", "at"] ["self", "at"] (defScope (eS 4)) := ⟨rfl, rfl, rfl, by decide +kernel, rfl, by decide +kernel, by decide +kernel⟩
theorem scErr5 : FnScope ["self", "word"] ["self", "word"] (defScope (eS 5)) := ⟨rfl, rfl, rfl, by decide +kernel, rfl, by decide +kernel, by decide +kernel⟩
theorem scErr6 : FnScope ["self", "name"] ["self", "name"] (defScope (eS 6)) := ⟨rfl, rfl, rfl, by decide +kernel, rfl, by decide +kernel, by decide +kernel⟩
theorem scErr7 : FnScope ["self", "word"] ["self", "word"] (defScope (eS 7)) := ⟨rfl, rfl, rfl, by decide +kernel, rfl, by decide +kernel, by decide +kernel⟩
theorem scErr8 : FnScope ["self", "name"] ["self", "name"] (defScope (eS 8)) := ⟨rfl, rfl, rfl, by decide +kernel, rfl, by decide +kernel, by decide +kernel⟩
theorem scErr9 : FnScope ["self", "name"] ["self", "name"] (defScope (eS 9)) := ⟨rfl, rfl, rfl, by decide +kernel, rfl, by decide +kernel, by decide +kernel⟩
theorem scErr10 : FnScope ["self", "at"] ["self", "at"] (defScope (eS 10)) := ⟨rfl, rfl, rfl, by decide +kernel, rfl, by decide +kernel, by decide +kernel⟩
theorem err_put {C a : Addr} {x : Str} {H : Hp} {v : V} {Q : VK} (ha : H a = some (exo a C none)) (q : ∀ H2, ErrAt C x H2 a v → Keep a H H2 → Q .non H2) (dx : Addr) (hdx : H dx = none) (ne : dx ≠ a) : Q .non (upd (upd H dx (exd dx [(x, v)])) a (exo a C (some dx))) := by
  refine q _ ⟨dx, upd_same, ?_⟩ fun b o n e => ?_
  · rw [upd_ne ne]
    exact upd_same
  · rw [upd_ne n, upd_ne (ne_of_none e hdx)]
    exact e
theorem ok_err0 {C f : Addr} {fd : FuncData} (e : Er K mg 0 C f fd) : FnOk P w K mg base CX0 1 f fd ["self", "word"] (spErr C "word") := by
  refine e.F.ok scErr0 (fun vs H Q E h => ?_) (fun cdv A outer s H vs Q E hr h => ?_)
  · obtain ⟨_, _, rfl, _⟩ := h
    rfl
  · obtain ⟨a, v, rfl, ha, q⟩ := h
    exact ⟨_, pss_one (ps_ost (pv 0) (pv 1)), _, rfl, _, rfl, a, C, rfl, e.T, e.no, .inl ⟨ha, err_put ha q⟩⟩
theorem ok_err1 {C f : Addr} {fd : FuncData} (e : Er K mg 1 C f fd) : FnOk P w K mg base CX0 1 f fd ["self", "word"] (spErr C "word") := by
  refine e.F.ok scErr1 (fun vs H Q E h => ?_) (fun cdv A outer s H vs Q E hr h => ?_)
  · obtain ⟨_, _, rfl, _⟩ := h
    rfl
  · obtain ⟨a, v, rfl, ha, q⟩ := h
    exact ⟨_, pss_one (ps_ost (pv 0) (pv 1)), _, rfl, _, rfl, a, C, rfl, e.T, e.no, .inl ⟨ha, err_put ha q⟩⟩
theorem ok_err2 {C f : Addr} {fd : FuncData} (e : Er K mg 2 C f fd) : FnOk P w K mg base CX0 1 f fd ["self", "word"] (spErr C "word") := by
  refine e.F.ok scErr2 (fun vs H Q E h => ?_) (fun cdv A outer s H vs Q E hr h => ?_)
  · obtain ⟨_, _, rfl, _⟩ := h
    rfl
  · obtain ⟨a, v, rfl, ha, q⟩ := h
    exact ⟨_, pss_one (ps_ost (pv 0) (pv 1)), _, rfl, _, rfl, a, C, rfl, e.T, e.no, .inl ⟨ha, err_put ha q⟩⟩
theorem ok_err3 {C f : Addr} {fd : FuncData} (e : Er K mg 3 C f fd) : FnOk P w K mg base CX0 1 f fd ["self", "word"] (spErr C "word") := by
  refine e.F.ok scErr3 (fun vs H Q E h => ?_) (fun cdv A outer s H vs Q E hr h => ?_)
  · obtain ⟨_, _, rfl, _⟩ := h
    rfl
  · obtain ⟨a, v, rfl, ha, q⟩ := h
    exact ⟨_, pss_one (ps_ost (pv 0) (pv 1)), _, rfl, _, rfl, a, C, rfl, e.T, e.no, .inl ⟨ha, err_put ha q⟩⟩
theorem ok_err4 {C f : Addr} {fd : FuncData} (e : Er K mg 4 C f fd) : FnOk P w K mg base CX0 1 f fd ["self", "at"] (spErr C "at") := by
  refine e.F.ok scErr4 (fun vs H Q E h => ?_) (fun cdv A outer s H vs Q E hr h => ?_)
  · obtain ⟨_, _, rfl, _⟩ := h
    rfl
  · obtain ⟨a, v, rfl, ha, q⟩ := h
    exact ⟨_, pss_one (ps_ost (pv 0) (pv 1)), _, rfl, _, rfl, a, C, rfl, e.T, e.no, .inl ⟨ha, err_put ha q⟩⟩
theorem ok_err5 {C f : Addr} {fd : FuncData} (e : Er K mg 5 C f fd) : FnOk P w K mg base CX0 1 f fd ["self", "word"] (spErr C "word") := by
  refine e.F.ok scErr5 (fun vs H Q E h => ?_) (fun cdv A outer s H vs Q E hr h => ?_)
  · obtain ⟨_, _, rfl, _⟩ := h
    rfl
  · obtain ⟨a, v, rfl, ha, q⟩ := h
    exact ⟨_, pss_one (ps_ost (pv 0) (pv 1)), _, rfl, _, rfl, a, C, rfl, e.T, e.no, .inl ⟨ha, err_put ha q⟩⟩
theorem ok_err6 {C f : Addr} {fd : FuncData} (e : Er K mg 6 C f fd) : FnOk P w K mg base CX0 1 f fd ["self", "name"] (spErr C "name") := by
  refine e.F.ok scErr6 (fun vs H Q E h => ?_) (fun cdv A outer s H vs Q E hr h => ?_)
  · obtain ⟨_, _, rfl, _⟩ := h
    rfl
  · obtain ⟨a, v, rfl, ha, q⟩ := h
    exact ⟨_, pss_one (ps_ost (pv 0) (pv 1)), _, rfl, _, rfl, a, C, rfl, e.T, e.no, .inl ⟨ha, err_put ha q⟩⟩
theorem ok_err7 {C f : Addr} {fd : FuncData} (e : Er K mg 7 C f fd) : FnOk P w K mg base CX0 1 f fd ["self", "word"] (spErr C "word") := by
  refine e.F.ok scErr7 (fun vs H Q E h => ?_) (fun cdv A outer s H vs Q E hr h => ?_)
  · obtain ⟨_, _, rfl, _⟩ := h
    rfl
  · obtain ⟨a, v, rfl, ha, q⟩ := h
    exact ⟨_, pss_one (ps_ost (pv 0) (pv 1)), _, rfl, _, rfl, a, C, rfl, e.T, e.no, .inl ⟨ha, err_put ha q⟩⟩
theorem ok_err8 {C f : Addr} {fd : FuncData} (e : Er K mg 8 C f fd) : FnOk P w K mg base CX0 1 f fd ["self", "name"] (spErr C "name") := by
  refine e.F.ok scErr8 (fun vs H Q E h => ?_) (fun cdv A outer s H vs Q E hr h => ?_)
  · obtain ⟨_, _, rfl, _⟩ := h
    rfl
  · obtain ⟨a, v, rfl, ha, q⟩ := h
    exact ⟨_, pss_one (ps_ost (pv 0) (pv 1)), _, rfl, _, rfl, a, C, rfl, e.T, e.no, .inl ⟨ha, err_put ha q⟩⟩
theorem ok_err9 {C f : Addr} {fd : FuncData} (e : Er K mg 9 C f fd) : FnOk P w K mg base CX0 1 f fd ["self", "name"] (spErr C "name") := by
  refine e.F.ok scErr9 (fun vs H Q E h => ?_) (fun cdv A outer s H vs Q E hr h => ?_)
  · obtain ⟨_, _, rfl, _⟩ := h
    rfl
  · obtain ⟨a, v, rfl, ha, q⟩ := h
    exact ⟨_, pss_one (ps_ost (pv 0) (pv 1)), _, rfl, _, rfl, a, C, rfl, e.T, e.no, .inl ⟨ha, err_put ha q⟩⟩
theorem ok_err10 {C f : Addr} {fd : FuncData} (e : Er K mg 10 C f fd) : FnOk P w K mg base CX0 1 f fd ["self", "at"] (spErr C "at") := by
  refine e.F.ok scErr10 (fun vs H Q E h => ?_) (fun cdv A outer s H vs Q E hr h => ?_)
  · obtain ⟨_, _, rfl, _⟩ := h
    rfl
  · obtain ⟨a, v, rfl, ha, q⟩ := h
    exact ⟨_, pss_one (ps_ost (pv 0) (pv 1)), _, rfl, _, rfl, a, C, rfl, e.T, e.no, .inl ⟨ha, err_put ha q⟩⟩
end
end LK

namespace LK
open PySem PySem.Spec PyProof.Rows L2 LR
/-- an error object, of whatever class -/
structure ErrX (H : Hp) (a D : Addr) (d : Option Addr) : Prop where
  at_ : H a = some (exo a D d)
  dict : ∀ dx, d = some dx → ∃ fs, H dx = some (exd dx fs)
theorem ErrX.same {H H' : Hp} {a D : Addr} {d : Option Addr} (s : Same H H') (h : ErrX H a D d) : ErrX H' a D d :=
  ⟨s _ _ h.at_, fun dx e => by
    obtain ⟨fs, q⟩ := h.dict dx e
    exact ⟨fs, s _ _ q⟩⟩
section
variable {P : Program} {w : World} {K : PySem.W.Frag} {mg : Str → Option Value} {base : Heap}
def nRef : List Str := ["_law_e", "_law_found", "_law_at", "_law_one"]
theorem scRef : FnScope nRef ["_law_e"] (defScope sRefused) := ⟨rfl, rfl, rfl, by decide +kernel, rfl, by decide +kernel, by decide +kernel⟩
theorem ok_refused {C fE : Nat → Addr} {B f : Addr} {fdE : Nat → FuncData} {fd : FuncData} (S : Std mg) (G : Errs K mg C B fE fdE) (F : Fun K "_law_refused" "_law_refused" sRefused f fd) : FnOk P w K mg base CX0 1 f fd ["_law_e"] (spRef K C) := by
  have e0 := G.er 0 (by decide)
  have e1 := G.er 1 (by decide)
  have e2 := G.er 2 (by decide)
  have e3 := G.er 3 (by decide)
  have e4 := G.er 4 (by decide)
  have e5 := G.er 5 (by decide)
  have e6 := G.er 6 (by decide)
  have e7 := G.er 7 (by decide)
  have e8 := G.er 8 (by decide)
  have e9 := G.er 9 (by decide)
  have e10 := G.er 10 (by decide)
  refine F.ok scRef (fun vs H Q E h => ?_) (fun cdv A outer s H vs Q E hr h => ?_)
  · obtain ⟨a, D, d, b, rfl, _⟩ := h
    rfl
  · obtain ⟨a, D, d, b, rfl, ha, hd, ex, kk, q⟩ := h
    refine ⟨_, pss_cons (ps_set (i := 1) scRef.nd rfl (Or.inl rfl) (pe_lst (pa_cons (pe_callB call_isErr (by rfl) S.isi (by decide +kernel) (pa_cons (pv 0) (pa_cons (pe_glob (v := .ref (C 0)) rfl e0.g rfl) pa_nil))) (pa_cons (pe_callB call_isErr (by rfl) S.isi (by decide +kernel) (pa_cons (pv 0) (pa_cons (pe_glob (v := .ref (C 1)) rfl e1.g rfl) pa_nil))) (pa_cons (pe_callB call_isErr (by rfl) S.isi (by decide +kernel) (pa_cons (pv 0) (pa_cons (pe_glob (v := .ref (C 2)) rfl e2.g rfl) pa_nil))) pa_nil)))))
      (pss_cons (ps_set (i := 1) scRef.nd rfl (Or.inl rfl) (pe_op op_cat (pv 1) (pe_lst (pa_cons (pe_callB call_isErr (by rfl) S.isi (by decide +kernel) (pa_cons (pv 0) (pa_cons (pe_glob (v := .ref (C 3)) rfl e3.g rfl) pa_nil))) (pa_cons (pe_callB call_isErr (by rfl) S.isi (by decide +kernel) (pa_cons (pv 0) (pa_cons (pe_glob (v := .ref (C 4)) rfl e4.g rfl) pa_nil))) (pa_cons (pe_callB call_isErr (by rfl) S.isi (by decide +kernel) (pa_cons (pv 0) (pa_cons (pe_glob (v := .ref (C 5)) rfl e5.g rfl) pa_nil))) pa_nil))))))
      (pss_cons (ps_set (i := 1) scRef.nd rfl (Or.inl rfl) (pe_op op_cat (pv 1) (pe_lst (pa_cons (pe_callB call_isErr (by rfl) S.isi (by decide +kernel) (pa_cons (pv 0) (pa_cons (pe_glob (v := .ref (C 6)) rfl e6.g rfl) pa_nil))) (pa_cons (pe_callB call_isErr (by rfl) S.isi (by decide +kernel) (pa_cons (pv 0) (pa_cons (pe_glob (v := .ref (C 7)) rfl e7.g rfl) pa_nil))) (pa_cons (pe_callB call_isErr (by rfl) S.isi (by decide +kernel) (pa_cons (pv 0) (pa_cons (pe_glob (v := .ref (C 8)) rfl e8.g rfl) pa_nil))) pa_nil))))))
      (pss_cons (ps_set (i := 1) scRef.nd rfl (Or.inl rfl) (pe_op op_cat (pv 1) (pe_lst (pa_cons (pe_callB call_isErr (by rfl) S.isi (by decide +kernel) (pa_cons (pv 0) (pa_cons (pe_glob (v := .ref (C 9)) rfl e9.g rfl) pa_nil))) (pa_cons (pe_callB call_isErr (by rfl) S.isi (by decide +kernel) (pa_cons (pv 0) (pa_cons (pe_glob (v := .ref (C 10)) rfl e10.g rfl) pa_nil))) (pa_cons (pe_callB call_isErr (by rfl) S.isi (by decide +kernel) (pa_cons (pv 0) (pa_cons (pe_glob (v := .ref (C 11)) rfl G.imp.g rfl) pa_nil))) pa_nil))))))
      (pss_one (ps_ret (pe_lc (own := [("_law_at", 2), ("_law_one", 3)]) (g := gTup K 2 (gCons (gName 2) (gCons (gName 3) gNil))) (tt := tB (tVar 3)) rfl scRef.nd
          (pi_enum (by rfl) S.enumerate (pa_cons (pv 1) pa_nil)) (blkOk_by (N := nRef) (sc := defScope sRefused) (by decide +kernel))
          (fun _ _ _ _ _ => pg_tup rfl (pgs_cons (pg_name (i := 2) scRef.nd rfl (Or.inl rfl)) (pgs_cons (pg_name (i := 3) scRef.nd rfl (Or.inl rfl)) pgs_nil))) (fun _ _ _ _ _ => pts_one (pt_val (pv 3)))
          (fun _ _ _ _ _ => pv 2))))))), ?_⟩
    have x0 : ErrX H a D d := ⟨ha, hd⟩
    refine ⟨_, rfl, a, D, d, _, _, b 0, rfl, x0.at_, x0.dict, ex, .own (C 0), kk 0 (by decide), _, rfl, a, D, d, _, _, b 1, rfl, x0.at_, x0.dict, ex, .own (C 1), kk 1 (by decide), _, rfl, a, D, d, _, _, b 2, rfl, x0.at_, x0.dict, ex, .own (C 2), kk 2 (by decide), by show 3 ≤ sizeLine; decide, fun p1 hp1 => ?_⟩
    have s1 : Same H (upd H p1 (.lst [.bl (b 0), .bl (b 1), .bl (b 2)])) := same_new hp1
    have x1 := x0.same s1
    have h1 : (upd H p1 (.lst [.bl (b 0), .bl (b 1), .bl (b 2)])) p1 = some (.lst [.bl (b 0), .bl (b 1), .bl (b 2)]) := upd_same
    generalize upd H p1 (.lst [.bl (b 0), .bl (b 1), .bl (b 2)]) = H1 at s1 x1 h1 ⊢
    refine ⟨_, rfl, _, rfl, a, D, d, _, _, b 3, rfl, x1.at_, x1.dict, ex, .own (C 3), kk 3 (by decide), _, rfl, a, D, d, _, _, b 4, rfl, x1.at_, x1.dict, ex, .own (C 4), kk 4 (by decide), _, rfl, a, D, d, _, _, b 5, rfl, x1.at_, x1.dict, ex, .own (C 5), kk 5 (by decide), by show 3 ≤ sizeLine; decide, fun m1 hm1 => ⟨p1, m1, _, _, rfl, rfl, same_new hm1 _ _ h1, upd_same, by show 6 ≤ sizeLine; decide, fun p2 hp2 => ?_⟩⟩
    have s2 : Same H (upd (upd H1 m1 (.lst [.bl (b 3), .bl (b 4), .bl (b 5)])) p2 (.lst ([.bl (b 0), .bl (b 1), .bl (b 2)] ++ [.bl (b 3), .bl (b 4), .bl (b 5)]))) := (s1.trans (same_new hm1)).trans (same_new hp2)
    have x2 := x0.same s2
    have h2 : (upd (upd H1 m1 (.lst [.bl (b 3), .bl (b 4), .bl (b 5)])) p2 (.lst ([.bl (b 0), .bl (b 1), .bl (b 2)] ++ [.bl (b 3), .bl (b 4), .bl (b 5)]))) p2 = some (.lst ([.bl (b 0), .bl (b 1), .bl (b 2)] ++ [.bl (b 3), .bl (b 4), .bl (b 5)])) := upd_same
    generalize upd (upd H1 m1 (.lst [.bl (b 3), .bl (b 4), .bl (b 5)])) p2 (.lst ([.bl (b 0), .bl (b 1), .bl (b 2)] ++ [.bl (b 3), .bl (b 4), .bl (b 5)])) = H2 at s2 x2 h2 ⊢
    refine ⟨_, rfl, _, rfl, a, D, d, _, _, b 6, rfl, x2.at_, x2.dict, ex, .own (C 6), kk 6 (by decide), _, rfl, a, D, d, _, _, b 7, rfl, x2.at_, x2.dict, ex, .own (C 7), kk 7 (by decide), _, rfl, a, D, d, _, _, b 8, rfl, x2.at_, x2.dict, ex, .own (C 8), kk 8 (by decide), by show 3 ≤ sizeLine; decide, fun m2 hm2 => ⟨p2, m2, _, _, rfl, rfl, same_new hm2 _ _ h2, upd_same, by show 9 ≤ sizeLine; decide, fun p3 hp3 => ?_⟩⟩
    have s3 : Same H (upd (upd H2 m2 (.lst [.bl (b 6), .bl (b 7), .bl (b 8)])) p3 (.lst (([.bl (b 0), .bl (b 1), .bl (b 2)] ++ [.bl (b 3), .bl (b 4), .bl (b 5)]) ++ [.bl (b 6), .bl (b 7), .bl (b 8)]))) := (s2.trans (same_new hm2)).trans (same_new hp3)
    have x3 := x0.same s3
    have h3 : (upd (upd H2 m2 (.lst [.bl (b 6), .bl (b 7), .bl (b 8)])) p3 (.lst (([.bl (b 0), .bl (b 1), .bl (b 2)] ++ [.bl (b 3), .bl (b 4), .bl (b 5)]) ++ [.bl (b 6), .bl (b 7), .bl (b 8)]))) p3 = some (.lst (([.bl (b 0), .bl (b 1), .bl (b 2)] ++ [.bl (b 3), .bl (b 4), .bl (b 5)]) ++ [.bl (b 6), .bl (b 7), .bl (b 8)])) := upd_same
    generalize upd (upd H2 m2 (.lst [.bl (b 6), .bl (b 7), .bl (b 8)])) p3 (.lst (([.bl (b 0), .bl (b 1), .bl (b 2)] ++ [.bl (b 3), .bl (b 4), .bl (b 5)]) ++ [.bl (b 6), .bl (b 7), .bl (b 8)])) = H3 at s3 x3 h3 ⊢
    refine ⟨_, rfl, _, rfl, a, D, d, _, _, b 9, rfl, x3.at_, x3.dict, ex, .own (C 9), kk 9 (by decide), _, rfl, a, D, d, _, _, b 10, rfl, x3.at_, x3.dict, ex, .own (C 10), kk 10 (by decide), _, rfl, a, D, d, _, _, b 11, rfl, x3.at_, x3.dict, ex, .own (C 11), kk 11 (by decide), by show 3 ≤ sizeLine; decide, fun m3 hm3 => ⟨p3, m3, _, _, rfl, rfl, same_new hm3 _ _ h3, upd_same, by show 12 ≤ sizeLine; decide, fun p4 hp4 => ?_⟩⟩
    have s4 : Same H (upd (upd H3 m3 (.lst [.bl (b 9), .bl (b 10), .bl (b 11)])) p4 (.lst ((([.bl (b 0), .bl (b 1), .bl (b 2)] ++ [.bl (b 3), .bl (b 4), .bl (b 5)]) ++ [.bl (b 6), .bl (b 7), .bl (b 8)]) ++ [.bl (b 9), .bl (b 10), .bl (b 11)]))) := (s3.trans (same_new hm3)).trans (same_new hp4)
    have x4 := x0.same s4
    have h4 : (upd (upd H3 m3 (.lst [.bl (b 9), .bl (b 10), .bl (b 11)])) p4 (.lst ((([.bl (b 0), .bl (b 1), .bl (b 2)] ++ [.bl (b 3), .bl (b 4), .bl (b 5)]) ++ [.bl (b 6), .bl (b 7), .bl (b 8)]) ++ [.bl (b 9), .bl (b 10), .bl (b 11)]))) p4 = some (.lst ((([.bl (b 0), .bl (b 1), .bl (b 2)] ++ [.bl (b 3), .bl (b 4), .bl (b 5)]) ++ [.bl (b 6), .bl (b 7), .bl (b 8)]) ++ [.bl (b 9), .bl (b 10), .bl (b 11)])) := upd_same
    generalize upd (upd H3 m3 (.lst [.bl (b 9), .bl (b 10), .bl (b 11)])) p4 (.lst ((([.bl (b 0), .bl (b 1), .bl (b 2)] ++ [.bl (b 3), .bl (b 4), .bl (b 5)]) ++ [.bl (b 6), .bl (b 7), .bl (b 8)]) ++ [.bl (b 9), .bl (b 10), .bl (b 11)])) = H4 at s4 x4 h4 ⊢
    have hb : H4 p4 = some (.lst (((List.range 12).map b).map V.bl)) := h4
    clear h4
    generalize hB : (List.range 12).map b = bs at hb q
    have hlen : bs.length = 12 := by rw [← hB]; rfl
    refine ⟨_, rfl, p4, _, rfl, SqL.of hb, fun D' hD => lc_enum (xs := bs.map V.bl) (fun i H5 => Keep D' H H5 ∧ H5 p4 = some (.lst (bs.map V.bl)) ∧ H5 D' = some (.lst ((ix (bs.take i) 0).map V.int)))
      ⟨(Keep.same s4).trans (Keep.new hD), by rw [upd_ne (ne_of_none hb hD)]; exact hb, upd_same⟩ (fun i H5 h => SqL.of h.2.1) (fun i x T H5 hx h hT => ?_) (fun H5 h => ?_)⟩
    · obtain ⟨k5, b5, d5⟩ := h
      rw [List.getElem?_map] at hx
      obtain ⟨c, hc, rfl⟩ := Option.map_eq_some_iff.mp hx
      have lt : i < bs.length := (List.getElem?_eq_some_iff.mp hc).1
      have tk : bs.take (i + 1) = bs.take i ++ [c] := by
        rw [List.take_add_one, hc]
        rfl
      have ln : (bs.take i).length = i := by rw [List.length_take]; omega
      have u5 : Same H5 (upd H5 T (.tup [.int (i : Nat), .bl c])) := same_new hT
      refine ⟨T, _, rfl, SqT.of upd_same, rfl, _, _, rfl, _, _, rfl, rfl, rfl, _, rfl, c, rfl, ?_⟩
      have pD : p4 ≠ D' := ne_of_none hb hD
      cases c with
      | true =>
        refine iteT ⟨_, rfl, _, u5 _ _ d5, ?_, ?_, ?_, ?_⟩
        · rw [List.length_map]
          have := ix_len (bs.take i) 0
          exact small1000 (by omega)
        · intro b' o n e
          rw [upd_ne n]
          exact u5 _ _ (k5 b' o n e)
        · rw [upd_ne pD]
          exact u5 _ _ b5
        · rw [upd_same, tk, ix_add, List.map_append, ln, Nat.zero_add]
          rfl
      | false =>
        refine iteF ⟨?_, ?_, ?_⟩
        · exact fun b' o n e => u5 _ _ (k5 b' o n e)
        · exact u5 _ _ b5
        · rw [tk, ix_add, u5 _ _ d5]
          simp
    · obtain ⟨k5, b5, d5⟩ := h
      rw [List.length_map, List.take_length] at d5
      exact q D' H5 (fun b' o e => k5 b' o (ne_of_none e (s4.free hD)) e) d5
end
end LK

/-! a comprehension over an enumerated list while an exception is handled -/
namespace LR
open PySem PySem.Spec PyProof.Rows L2 HotX
section
variable {prog : Program} {w : World} {A : Around} {E : Value → Shared → Prop} {s : Shared} {it l x1 : Addr} {i : Nat} {items : Array Value}
/-- a list's iterator that is at its end, asked by enumerate -/
theorem listEnd_hot {Q : Value → Shared → Prop} (hot : HotAt A x1 s.heap) (ne : x1 ≠ it) (hit : s.heap.IsListIter it l i) (hl : s.heap.IsList l items) (hx : items[i]? = none)
    (stop : ∀ h' e, Heap.ExtBut it s.heap h' → (∃ o, h'.get? e = some o ∧ o.cls = .type "StopIteration") → E (.ref e) { s with heap := h' }) : wpAny (model prog w) A (Builtin.SmallTypes.nextOf (.ref it)) Q E s := by
  obtain ⟨oi, get_i, _, data_i⟩ := id hit
  obtain ⟨os, get_l, _, k, data_l⟩ := hl
  obtain ⟨hh, o1, f1, get_1, data_1, none_1⟩ := hot
  unfold Builtin.SmallTypes.nextOf
  refine wpAny_bind (wpAny_callSpecial?_slot (name := Str.ofString "__next__") hit.typeIs slot_listiter_next (wpAny_call_entry slot_listiter_next hit.typeIs entry_listiter_next ?_ (args_listiter_next _)))
  change wpAny _ _ (field (.ref it) 0 >>= _) _ _ _
  apply wpAny_bind
  apply wpAny_field get_i data_i (x := .ref l) rfl
  change wpAny _ _ (if (Value.ref l == Value.none) = true then _ else _) _ _ _
  have ll : ¬ ((Value.ref l == Value.none) = true) := Bool.false_ne_true
  rw [if_neg ll]
  change wpAny _ _ (field (.ref it) 1 >>= _) _ _ _
  apply wpAny_bind
  apply wpAny_field get_i data_i (x := .int i 0) rfl
  change wpAny _ _ (seqItems? (.ref l) >>= _) _ _ _
  apply wpAny_bind
  apply wpAny_seqItems get_l data_l
  simp only [Int.toNat_natCast, hx]
  refine wpAny_bind (wpAny_rule (wpAny_bind (wpAny_setField get_i data_i (by simp) ?_)))
  change wpAny _ _ (newExc (.type "StopIteration") [] >>= _) _ _ _
  apply wpAny_bind
  simp only [newExc, newTuple]
  apply wpAny_bind
  refine wpAny_newObj_type ?_ (by size_fits)
  refine wpAny_bind (m := firstArgMember _ _) (wpAny_of_eq (a := Value.none) (by simp only [firstArgMember]; rfl) ?_)
  refine wpAny_newObj_type ?_ (by size_fits)
  have old : ∀ {h : Heap} {u v : Obj}, h.get? x1 = some o1 → ((h.push u).push v).get? x1 = some o1 := fun q => Heap.get?_push_of_some _ (Heap.get?_push_of_some _ q)
  refine raiseNew_hot ⟨hh, o1, f1, old ((Heap.get?_update_other _ _ (Ne.symm ne)).trans get_1), data_1, none_1⟩ ?_ (Heap.get?_push_size _ rfl) rfl (by simp; omega) ?_
  · exact Nat.ne_of_lt (Heap.lt_size (Heap.get?_push_of_some _ ((Heap.get?_update_other _ _ (Ne.symm ne)).trans get_1)))
  · refine stop _ _ ?_ ⟨_, Heap.get?_update_self _ (Heap.get?_push_size _ rfl) rfl, rfl⟩
    intro b o nb e
    have e1 := (Heap.get?_update_other s.heap (Obj.mapFields (·.setIfInBounds 0 .none)) (Ne.symm nb)).trans e
    exact (Heap.get?_update_other _ _ (Nat.ne_of_gt (Heap.lt_size (Heap.get?_push_of_some _ e1)))).trans (Heap.get?_push_of_some _ (Heap.get?_push_of_some _ e1))
/-- enumerate at its end -/
theorem enumEnd_hot {e : Addr} {old : Value} {Q : Option Value → Shared → Prop} (hot : HotAt A x1 s.heap) (ne : x1 ≠ it) (he : IsEnum s.heap e it i old) (hit : s.heap.IsListIter it l i) (hl : s.heap.IsList l items) (hx : items[i]? = none)
    (hQ : ∀ h', Heap.ExtBut it s.heap h' → Q none { s with heap := h' }) : wpAny (model prog w) A (pyNext (.ref e)) Q E s := by
  have ty : s.TypeIs (.ref e) "enumerate" := ⟨_, he, rfl⟩
  unfold pyNext
  apply wpAny_bind
  apply wpAny_attempt
  refine wpAny_callSpecial?_slot (name := Str.ofString "__next__") ty F.slot_enumerate_next (wpAny_call_entry F.slot_enumerate_next ty F.entry_enumerate_next ?_ (F.args_enumerate_next_1 _))
  change wpAny _ _ (field (.ref e) 2 >>= _) _ _ _
  apply wpAny_bind
  apply wpAny_field he rfl (x := .ref it) rfl
  apply wpAny_bind
  refine listEnd_hot hot ne hit hl hx fun h' x ext end_ => ?_
  obtain ⟨o, at_o, cls_o⟩ := end_
  apply wpAny_bind
  exact wpAny_isInstance (T := "StopIteration") (b := true) ⟨o, at_o, cls_o⟩ isSubtype_stop (wpAny_pure (hQ _ ext))
/-- a tuple's iterator at its end -/
theorem tupEnd_hot {t : Addr} {Q : Option Value → Shared → Prop} (hot : HotAt A x1 s.heap) (ne : x1 ≠ it) (hit : IsTupIter s.heap it t i) (ht : IsTup s.heap t items) (hx : items[i]? = none)
    (stop : ∀ h', Heap.ExtBut it s.heap h' → Q none { s with heap := h' }) : wpAny (model prog w) A (pyNext (.ref it)) Q E s := by
  obtain ⟨oi, get_i, _, data_i⟩ := id hit
  obtain ⟨os, get_l, _, k, data_l⟩ := ht
  obtain ⟨hh, o1, f1, get_1, data_1, none_1⟩ := hot
  unfold pyNext
  apply wpAny_bind
  apply wpAny_attempt
  refine wpAny_callSpecial?_slot (name := Str.ofString "__next__") hit.typeIs slot_tupleiter_next (wpAny_call_entry slot_tupleiter_next hit.typeIs entry_tupleiter_next ?_ (args_tupleiter_next _))
  change wpAny _ _ (field (.ref it) 0 >>= _) _ _ _
  apply wpAny_bind
  apply wpAny_field get_i data_i (x := .ref t) rfl
  change wpAny _ _ (if (Value.ref t == Value.none) = true then _ else _) _ _ _
  have ll : ¬ ((Value.ref t == Value.none) = true) := Bool.false_ne_true
  rw [if_neg ll]
  change wpAny _ _ (field (.ref it) 1 >>= _) _ _ _
  apply wpAny_bind
  apply wpAny_field get_i data_i (x := .int i 0) rfl
  change wpAny _ _ (seqItems? (.ref t) >>= _) _ _ _
  apply wpAny_bind
  apply wpAny_seqItems get_l data_l
  simp only [Int.toNat_natCast, hx]
  refine wpAny_bind (wpAny_rule (wpAny_bind (wpAny_setField get_i data_i (by simp) ?_)))
  change wpAny _ _ (newExc (.type "StopIteration") [] >>= _) _ _ _
  apply wpAny_bind
  simp only [newExc, newTuple]
  apply wpAny_bind
  refine wpAny_newObj_type ?_ (by size_fits)
  refine wpAny_bind (m := firstArgMember _ _) (wpAny_of_eq (a := Value.none) (by simp only [firstArgMember]; rfl) ?_)
  refine wpAny_newObj_type ?_ (by size_fits)
  have old : ∀ {h : Heap} {u v : Obj}, h.get? x1 = some o1 → ((h.push u).push v).get? x1 = some o1 := fun q => Heap.get?_push_of_some _ (Heap.get?_push_of_some _ q)
  refine raiseNew_hot ⟨hh, o1, f1, old ((Heap.get?_update_other _ _ (Ne.symm ne)).trans get_1), data_1, none_1⟩ ?_ (Heap.get?_push_size _ rfl) rfl (by simp; omega) ?_
  · exact Nat.ne_of_lt (Heap.lt_size (Heap.get?_push_of_some _ ((Heap.get?_update_other _ _ (Ne.symm ne)).trans get_1)))
  · apply wpAny_bind
    refine wpAny_isInstance (T := "StopIteration") (b := true) ⟨_, Heap.get?_update_self _ (Heap.get?_push_size _ rfl) rfl, rfl⟩ isSubtype_stop (wpAny_pure (stop _ ?_))
    intro b o nb e
    have e1 := (Heap.get?_update_other s.heap (Obj.mapFields (·.setIfInBounds 0 .none)) (Ne.symm nb)).trans e
    exact (Heap.get?_update_other _ _ (Nat.ne_of_gt (Heap.lt_size (Heap.get?_push_of_some _ e1)))).trans (Heap.get?_push_of_some _ (Heap.get?_push_of_some _ e1))
/-- a tuple taken apart -/
theorem unpack_hot {t : Addr} {Q : List Value → Shared → Prop} (hot : HotAt A x1 s.heap) (ht : IsTup s.heap t items) (hQ : ∀ h', Heap.ExtBut s.heap.objs.size s.heap h' → Q items.toList { s with heap := h' }) : wpAny (model prog w) A (unpackItems (.ref t) items.size none) Q E s := by
  have tlt : t ≠ s.heap.objs.size := by
    obtain ⟨o, z, _⟩ := ht
    exact Nat.ne_of_lt (Heap.lt_size z)
  obtain ⟨hh, o1, f1, get_1, data_1, none_1⟩ := hot
  have xlt : x1 ≠ s.heap.objs.size := Nat.ne_of_lt (Heap.lt_size get_1)
  unfold unpackItems notIterableAtAll
  refine wpAny_bind (wpAny_bind (wpAny_specialOf ht.typeIs slot_tuple_iter.lookup (wpAny_pure ?_)))
  simp only [Bool.false_eq_true, if_false]
  refine wpAny_bind (wpAny_holding (iter_tuple ht (wpAny_bind (wpAny_holding (draw_tuple tlt items.size 0 _ _ ⟨_, Heap.get?_push_size _ rfl, rfl, rfl⟩ (ht.push _) (by omega) fun h1 it1 same1 => ?_)))))
  rw [show List.take items.size (List.drop 0 items.toList) = items.toList by rw [List.drop_zero]; exact List.take_of_length_le (by simp), if_neg (by simp)]
  have here : h1.get? x1 = some o1 := same1.extBut x1 o1 xlt (Heap.get?_push_of_some _ get_1)
  refine wpAny_bind (wpAny_holding (tupEnd_hot ⟨hh, o1, f1, here, data_1, none_1⟩ xlt it1 ((ht.push _).extBut same1.extBut tlt) (by simp) fun h2 ext2 => ?_))
  simp only [Option.isSome_none, Bool.false_eq_true, if_false]
  exact wpAny_pure (hQ h2 fun b o nb e => ext2 b o nb (same1.extBut b o nb (Heap.get?_push_of_some _ e)))
end
end LR
namespace LR
open PySem PySem.Spec PyProof.Rows L2 HotX
/-- an enumerate object over the list at a, with i behind it -/
structure EnumAt (a en it : Addr) (i : Nat) (h : Heap) : Prop where
  enum : ∃ old, IsEnum h en it ((i : Nat) : Int) old
  iter : h.IsListIter it a i
  ne : en ≠ it
theorem EnumAt.keep {a en it : Addr} {i : Nat} {h h' : Heap} (t : EnumAt a en it i h) (k : ∀ b, b ∈ [en, it] → ∀ o, h.get? b = some o → h'.get? b = some o) : EnumAt a en it i h' := by
  obtain ⟨old, e⟩ := t.enum
  exact ⟨⟨old, k en (by simp) _ e⟩, t.iter.at fun o q => k it (by simp) o q, t.ne⟩
theorem EnumAt.obj {a en it : Addr} {i : Nat} {h : Heap} (t : EnumAt a en it i h) : ∀ b, b ∈ [en, it] → ∃ o, h.get? b = some o ∧ ∀ v, o.data ≠ .cell v := fun b hb => by
  rcases List.mem_cons.mp hb with z | z
  · obtain ⟨old, e⟩ := t.enum
    subst z
    refine ⟨_, e, fun v q => ?_⟩
    cases q
  · obtain ⟨o, q1, _, q3⟩ := t.iter
    exact ⟨o, by rw [List.mem_singleton.mp z]; exact q1, fun v q => by rw [q3] at q; cases q⟩
/-- what `enumerate(e)` has left, ready to be walked -/
def Begun (X : Cx) (pins : List (Addr × Obj)) (σ : L2.St) (R : It → Hp → Prop) (itv : Value) (s : Shared) : Prop :=
  ∃ en it a xs H, itv = .ref en ∧ Inv X pins σ H s ∧ EnumAt a en it 0 s.heap ∧ (∀ b, b ∈ [en, it] → FpOk X pins H b) ∧ SqL X.K H a xs ∧ R (Ite X.K a) H
theorem enum_begun {X : Cx} {e : Expr} {ta : TA} {p pos : Pos} {pins : List (Addr × Obj)} {s : Shared} {σ : L2.St} {H : Hp} {R : It → Hp → Prop} (hg : Gl X "enumerate") (hm : X.mg "enumerate" = none) (ha : PA X [e] ta) (I : Inv X pins σ H s) (h : iEnum X.K ta σ H R)
    (hs : starEach [e] X.env = [(false, eval e X.env)] := by rfl) : wpAny (model X.prog X.w) X.A (eval (.Call (.Name "enumerate" p) [e] [] pos) X.env) (fun v s1 => wpAny (model X.prog X.w) X.A (pyIter v) (Begun X pins σ R) X.xe s1) X.xe s := by
  refine Call_ (ld_blt I hg hm boot_enumerate (PyProof.Rows.callWith_type1 (thn (ha.run pos pins s σ H _ I h) fun us s1 got => ?_) hs rfl))
  obtain ⟨vs, H1, I1, r1, a, xs, rfl, sq, q⟩ := got
  obtain rfl := Vals.ref1 r1
  obtain ⟨its, _, pl, _⟩ := I1.list sq
  refine call_enumerate_list pl.isList fun h' en it _ old => wpAny_pyIter_enum en ?_
  have I2 : Inv X pins σ H1 { s1 with heap := h' } := I1.kept (t' := s1.toks) old
  refine ⟨s1.heap.objs.size + 1, s1.heap.objs.size, a, xs, H1, rfl, I2, ⟨⟨.none, en⟩, it, Nat.succ_ne_self _⟩, fun b hb => ?_, sq, q⟩
  have big : s1.heap.objs.size ≤ b := by
    rcases List.mem_cons.mp hb with z | z
    · rw [z]
      exact Nat.le_succ _
    · rw [List.mem_singleton.mp z]
      exact Nat.le_refl _
  exact I1.fpOk big (I1.hok.fresh big)
/-- the context began with a handled exception that it can't reach -/
def HotB (B : Cx) : Prop := ∃ r : Addr × Obj, L2H.Hot1 B.A r ∧ B.s_0.heap.get? r.1 = some r.2 ∧ B.H_0 r.1 = none ∧ r.1 ∉ B.fs ∧ r.1 ∉ B.ex
theorem HotB.at {B : Cx} {pins : List (Addr × Obj)} {σ : L2.St} {H : Hp} {s : Shared} (c : HotB B) (J : Inv B pins σ H s) : ∃ x1, HotAt B.A x1 s.heap ∧ ∀ b, b ∈ B.ex → x1 ≠ b := by
  obtain ⟨r, ⟨hh, v1, e1, c1⟩, get, free, nf, nx⟩ := c
  exact ⟨r.1, ⟨hh, r.2, v1, J.base.keep r.1 r.2 get free nf nx, e1, c1⟩, fun b hb z => nx (by rw [z]; exact hb)⟩
/-- so does a block of a context that bears one -/
theorem hotB_blk {X : Cx} {pins : List (Addr × Obj)} {σ : L2.St} {H : Hp} {s : Shared} {scope : Scope} {ce : Env} {fp : List Addr} (c : L2H.HotC X) (I : Inv X pins σ H s) (off : ∀ b, b ∈ fp → FpOk X pins H b) : HotB (X.blk s H scope ce fp) := by
  obtain ⟨r, hot, hr⟩ := c
  obtain ⟨get, free, nl, nf, _⟩ := I.pin r (List.mem_append_left _ hr)
  refine ⟨r, hot, get, free, fun m => ?_, fun m => (off _ m).2.2.2.2.2 r (List.mem_append_left _ hr) rfl⟩
  exact (List.mem_cons.mp (I.stkSub r.1 m)).elim nl nf
/-- a, b = t where an exception is handled -/
theorem pg_tupH {B : Cx} {es : List Expr} {k n : Nat} {t : TGs} {pos : Pos} (c : HotB B) (h : PGs B es t) (many : (assignEach es B.env).length = n := by rfl) (plain : (assignEach es B.env).findIdx? (·.1) = none := by rfl) : PG B (.Tuple es k pos) (gTup B.K n t) := by
  refine ⟨fun pins s σ H v u Q I r asked => ?_⟩
  obtain ⟨a, xs, rfl, sq, len, asked⟩ := asked
  obtain rfl : u = Value.ref a := r
  obtain ⟨its, rv, ht, _⟩ := I.tuple sq
  obtain ⟨x1, hot, _⟩ := c.at I
  have size : (assignEach es B.env).length = its.toArray.size := by rw [many, ← len, rv.length, List.size_toArray]
  rw [assign_Tuple]
  refine wpAny_bind (wpAny_standAt ?_)
  unfold unpack
  rw [size, plain]
  refine wpAny_bind (wpAny_holding (unpack_hot hot ht fun h' ext => ?_))
  have J : Inv B pins σ H { s with heap := h' } := I.kept (t' := s.toks) fun b o z => ext b o (Nat.ne_of_lt (Heap.lt_size z)) z
  exact h.run pins _ σ H xs _ Q J (by simpa using rv) asked
end LR
namespace LR
open PySem PySem.Spec PyProof.Rows L2 HotX
section
variable {X : Cx} {elt e : Expr} {elts ifs : List Expr} {kk : Nat} {scope : Scope} {own : List (Str × Nat)} {pos p ipos tpos : Pos} {ta : TA} {g : TG} {tt : TT} {te : TE}
/-- one turn's item: a new pair, in the block B -/
theorem enum_item {B : Cx} {σ : L2.St} {H : Hp} {s : Shared} {a en it : Addr} {i : Nat} {xs : List V} {x : V} {E : Value → Shared → Prop} {Q : Option Value → Shared → Prop} (I : Inv B [] σ H s) (t : EnumAt a en it i s.heap) (off : ∀ b, b ∈ [en, it] → FpOk B [] H b)
    (sq : SqL B.K H a xs) (hx : xs[i]? = some x)
    (q : ∀ u s1, (∀ E' Q', (∀ T s2, H T = none → Inv B [] σ (upd H T (.tup [.int (i : Nat), x])) s2 → u = .ref T → EnumAt a en it (i + 1) s2.heap → T ≠ en → T ≠ it → Q' () s2) → wpAny (model B.prog B.w) B.A (letOwnedTupleGo (.Tuple elts kk tpos) (.ref en) u) Q' E' s1) → Q (some u) s1) :
    wpAny (model B.prog B.w) B.A (pyNext (.ref en)) Q E s := by
  obtain ⟨old, he⟩ := t.enum
  obtain ⟨its, rv, pl, _⟩ := I.list sq
  obtain ⟨u, hu, ru⟩ := rv.get hx
  have le : en < s.heap.objs.size := Heap.lt_size he
  have li : it < s.heap.objs.size := by
    obtain ⟨_, z, _⟩ := t.iter
    exact Heap.lt_size z
  refine wpAny_pyNext_enum_item he t.iter pl.isList (x := u) (by simpa using hu) t.ne fun h1 ho hi hT _ old1 => q _ _ fun E' Q' k => ?_
  refine wpAny_letOwnedTupleGo_enum (s := { s with heap := h1, toks := s.toks + 1 }) ho fun h2 en2 but => ?_
  have pair : h2.get? s.heap.objs.size = some { cls := .type "tuple", data := .seq #[.int i s.toks, u] } := (but.2 _ (Nat.ne_of_gt le)).trans hT
  have fresh : H s.heap.objs.size = none := I.hok.fresh (Nat.le_refl _)
  have stay : ∀ b o, b ∉ [en, it] → s.heap.get? b = some o → h2.get? b = some o := fun b o nb z => by
    have n1 : b ≠ en := fun y => nb (by simp [y])
    have n2 : b ≠ it := fun y => nb (by simp [y])
    exact (but.2 b n1).trans (old1 b o n1 n2 z)
  have laid : ObjOk B.prog B.w (upd H s.heap.objs.size (.tup [.int (i : Nat), x])) h2 s.heap.objs.size (.tup [.int (i : Nat), x]) := ⟨by show 2 ≤ sizeLine; decide, [.int i s.toks, u], .cons ⟨_, rfl⟩ (.cons ru .nil), ⟨_, pair, rfl, _, rfl⟩⟩
  have J := I.turnedNew (ch := [en, it]) (t' := s.toks + 1) stay off (Nat.le_refl _) laid
  refine k s.heap.objs.size _ fresh J rfl ⟨⟨u, ?_⟩, hi.at fun o z => (but.2 it t.ne.symm).trans z, t.ne⟩ (Nat.ne_of_gt le) (Nat.ne_of_gt li)
  rw [show ((i + 1 : Nat) : Int) = (i : Int) + 1 by omega]
  exact en2
end
end LR
namespace LR
open PySem PySem.Spec PyProof.Rows L2 HotX
section
variable {X : Cx} {elt e : Expr} {elts ifs : List Expr} {kk : Nat} {scope : Scope} {own : List (Str × Nat)} {pos p ipos tpos : Pos} {ta : TA} {g : TG} {tt : TT} {te : TE}
/-- [elt for a, b in enumerate(e) if ..] where an exception is handled -/
theorem pe_lcEH (hot : L2H.HotC X) (nd : X.N.Nodup) (hg : Gl X "enumerate") (hm : X.mg "enumerate" = none) (ha : PA X [e] ta) (ok : BlkOk X.N X.env.scope scope own)
    (pg : ∀ (s : Shared) (H : Hp) (C : Addr) (cl : List (Str × Addr)) (fp : List Addr), HotB (X.blk s H scope (compEnvC scope cl C X.env) fp) → PG (X.blk s H scope (compEnvC scope cl C X.env) fp) (.Tuple elts kk tpos) g)
    (pt : ∀ (s : Shared) (H : Hp) (C : Addr) (cl : List (Str × Addr)) (fp : List Addr), PTs (X.blk s H scope (compEnvC scope cl C X.env) fp) ifs tt)
    (pe : ∀ (s : Shared) (H : Hp) (C : Addr) (cl : List (Str × Addr)) (fp : List Addr), PE (X.blk s H scope (compEnvC scope cl C X.env) fp) elt te)
    (st : starEach [e] X.env = [(false, eval e X.env)] := by rfl) (fold : ∀ x, foldedSetIterable (.Call (.Name "enumerate" p) [e] [] ipos) X.env x = pure x := by intro _; rfl) :
    PE X (.ListComp elt [⟨.Tuple elts kk tpos, .Call (.Name "enumerate" p) [e] [] ipos, ifs, 0⟩] scope pos) (tLc (iEnum X.K ta) g tt te (own.map (·.2))) := by
  refine ⟨fun pins s σ H Q I h => ?_⟩
  rw [eval_ListComp]
  have cells : ∀ y ∈ scope.names, y.2 = .free → ∃ c, X.env.cells.lookup y.1 = some c := fun y hy z => (ok.free y hy z).elim (fun k => I.ok.has _ (.inl k)) fun k => I.ok.has _ (.inr k)
  refine wpAny_comprehension_free (use := none) rfl fold (closure_ok cells) ok.kind (fun y hy z => by rw [ok.uniq y hy, z]) (thn (enum_begun hg hm ha I h st) fun v1 s1 b1 => thn b1 fun v2 s2 b2 => ?_)
  obtain ⟨en, it, a, xs0, H2, rfl, I2, at0, off, _, q⟩ := b2
  refine wpAny_newObj_type (newEnv_comp ?_) (by show 0 ≤ sizeLine; decide)
  have freshD : H2 s2.heap.objs.size = none := I2.hok.fresh (Nat.le_refl _)
  obtain ⟨W, ⟨m0, w0⟩, turn⟩ := q s2.heap.objs.size freshD
  generalize eD : s2.heap.objs.size = D at freshD w0 turn ⊢
  have offD : ∀ b, b ∈ [en, it] → b ≠ D := fun b hb => by
    obtain ⟨o, z, _⟩ := at0.obj b hb
    rw [← eD]
    exact Nat.ne_of_lt (Heap.lt_size z)
  generalize e3 : ({ s2 with heap := s2.heap.push { cls := .type "list", data := .seq ([] : List Value).toArray } } : Shared) = s3
  have push3 : ∀ {b : Addr} {o : Obj}, s2.heap.get? b = some o → s3.heap.get? b = some o := fun {b o} z => by
    rw [← e3]
    exact Heap.get?_push_of_some _ z
  have size3 : s3.heap.objs.size = s2.heap.objs.size + 1 := by
    rw [← e3]
    exact Heap.size_push _ _
  have I3 : Inv X pins σ (upd H2 D (.lst [])) s3 := by
    subst e3
    refine I2.laid (t' := s2.toks) (fun b o z => Heap.get?_push_of_some _ z) (Nat.le_of_eq eD) ⟨Nat.zero_le _, [], 0, .nil, ?_⟩
    subst eD
    exact Heap.get?_push_size _ rfl
  have off3 : ∀ b, b ∈ [en, it] → FpOk X pins (upd H2 D (.lst [])) b ∧ b < s3.heap.objs.size := fun b hb => by
    obtain ⟨f0, f1⟩ := off b hb
    obtain ⟨o, z, _⟩ := at0.obj b hb
    exact ⟨⟨by rw [upd_ne (offD b hb)]; exact f0, f1⟩, Heap.lt_size (push3 z)⟩
  have J0 := block_start I3 ok nd off3
  have hotB := hotB_blk (scope := scope) (ce := compEnvC scope (cellsFrom (s3.heap.objs.size + 1) scope.names (cloFrom X.env.cells scope.names [])) s3.heap.objs.size X.env) hot I3 fun b hb => (off3 b hb).1
  have pg' := pg s3 (upd H2 D (.lst [])) s3.heap.objs.size (cellsFrom (s3.heap.objs.size + 1) scope.names (cloFrom X.env.cells scope.names [])) [en, it] (hotB_blk hot I3 fun b hb => (off3 b hb).1)
  have pt' := pt s3 (upd H2 D (.lst [])) s3.heap.objs.size (cellsFrom (s3.heap.objs.size + 1) scope.names (cloFrom X.env.cells scope.names [])) [en, it]
  have pe' := pe s3 (upd H2 D (.lst [])) s3.heap.objs.size (cellsFrom (s3.heap.objs.size + 1) scope.names (cloFrom X.env.cells scope.names [])) [en, it]
  change codeAny _ _ (.compStart (.ListComp elt [⟨.Tuple elts kk tpos, .Call (.Name "enumerate" p) [e] [] ipos, ifs, 0⟩] scope pos) 0 (.ref en) (.ref D)
    (compEnvC scope (cellsFrom (s3.heap.objs.size + 1) scope.names (cloFrom X.env.cells scope.names [])) s3.heap.objs.size X.env))
    (compPost (model X.prog X.w) X.A X.xe none (EP X pins σ Q) (.ref D) s3.heap.objs.size)
    { s3 with heap := pushCells (s3.heap.push { cls := .type "dict", data := .dict #[] }) scope.names }
  have locs : (compEnvC scope (cellsFrom (s3.heap.objs.size + 1) scope.names (cloFrom X.env.cells scope.names [])) s3.heap.objs.size X.env).locals = s3.heap.objs.size := rfl
  generalize compEnvC scope (cellsFrom (s3.heap.objs.size + 1) scope.names (cloFrom X.env.cells scope.names [])) s3.heap.objs.size X.env = ce at J0 hotB pg' pt' pe' locs ⊢
  generalize e4 : ({ s3 with heap := pushCells (s3.heap.push { cls := .type "dict", data := .dict #[] }) scope.names } : Shared) = s4 at J0 ⊢
  have at4 : EnumAt a en it 0 s4.heap := at0.keep fun b _ o z => by
    rw [← e4]
    exact pushCells_keeps _ _ _ _ (Heap.get?_push_of_some _ (push3 z))
  generalize upd H2 D (.lst []) = H3 at I3 off3 J0 hotB pg' pt' pe' w0 ⊢
  -- seen from the block the walker's two objects are no one's
  have offB : ∀ {σ' : L2.St} {H' : Hp} {s' : Shared}, Inv (X.blk s3 H3 scope ce [en, it]) [] σ' H' s' → (∀ b, b ∈ [en, it] → H' b = none) → ∀ b, b ∈ [en, it] → FpOk (X.blk s3 H3 scope ce [en, it]) [] H' b := fun J free b hb => by
    obtain ⟨z1, z2⟩ := J.ok.exf b hb
    refine ⟨free b hb, z1, J.ok.exfs b hb, .inl hb, z2, fun r hr => ?_⟩
    simp at hr
  have loop : codeAny (model X.prog X.w) X.A (.compLoop (.ListComp elt [⟨.Tuple elts kk tpos, .Call (.Name "enumerate" p) [e] [] ipos, ifs, 0⟩] scope pos) 0 (.ref en) (.ref D) ce) (compPost (model X.prog X.w) X.A X.xe none (EP X pins σ Q) (.ref D) s3.heap.objs.size) s4 := by
    refine compLoop_any (fun n s' => ∃ i H', Inv (X.blk s3 H3 scope ce [en, it]) [] (wipe σ (own.map (·.2))) H' s' ∧ EnumAt a en it i s'.heap ∧ (∀ b, b ∈ [en, it] → H' b = none) ∧ W i n H') (fun n s5 inv => ?_) m0 ⟨0, H3, J0, at4, fun b hb => (off3 b hb).1.1, w0⟩
    obtain ⟨i, H5, J5, at5, free5, w5⟩ := inv
    rcases turn i n H5 w5 with ⟨stop, done⟩ | ⟨go, Nx, again, step⟩
    · obtain ⟨xs, sq, len⟩ := stop
      obtain ⟨its, rv, pl, _⟩ := J5.list sq
      obtain ⟨x1, hx1, ne1⟩ := hotB.at J5
      obtain ⟨old, he⟩ := at5.enum
      have few := rv.length
      refine enumEnd_hot hx1 (ne1 it (by simp)) he at5.iter pl.isList (by simp; omega) fun h' ext => ?_
      obtain ⟨f0, f1, f2, f3, f4, f5⟩ := offB J5 free5 it (by simp)
      have J6 := J5.turned (t' := s5.toks) (fun b o nb z => ext b o nb z) f0 f1 f3 f4 f5
      have I7 : Inv X pins σ H5 { s5 with heap := h' } := I3.call' (ch := [en, it]) J6.os J6.base J6.hok J6.bare fun b hb => by
        obtain ⟨_, o1, _, o3, o4, o5⟩ := (off3 b hb).1
        exact ⟨o3, o1, o4, o5⟩
      have noC : H5 s3.heap.objs.size = none := by
        have z : H5 ce.locals = none := J6.free
        rwa [locs] at z
      obtain ⟨m, ns, _⟩ := J6.loc
      have ns' : h'.Ns ce.locals m := ns
      rw [locs] at ns'
      obtain ⟨c0, c1, _, c3, c4, c5⟩ := I3.fpOk (Nat.le_refl _) noC
      exact ⟨m, ns', fun h2 but => ⟨.ref D, H5, I7.turned (t' := s5.toks) (fun b o nb z => (but.2 b nb).trans z) c0 c1 c3 c4 c5, rfl, done⟩⟩
    · obtain ⟨xs, x, sq, hx⟩ := go
      refine enum_item (elts := elts) (kk := kk) (tpos := tpos) (B := X.blk s3 H3 scope ce [en, it]) J5 at5 (offB J5 free5) sq hx fun u s6 own6 => ?_
      refine own6 _ _ fun T s7 fT J7 eu at7 nT1 nT2 => ?_
      subst eu
      have free7 : ∀ b, b ∈ [en, it] → upd H5 T (.tup [.int (i : Nat), x]) b = none := fun b hb => by
        have nb : b ≠ T := by
          rcases List.mem_cons.mp hb with z | z
          · rw [z]
            exact nT1.symm
          · rw [List.mem_singleton.mp z]
            exact nT2.symm
        rw [upd_ne nb]
        exact free5 b hb
      have now := step (.ref T) _ ⟨T, x, rfl, fT, rfl, fun ys hy => by rw [J5.list_inj hy sq]; exact hx⟩
      have P7 := J7.pinned (offB J7 free7) at7.obj
      refine thnF (pg'.run _ s7 _ _ (.ref T) (.ref T) _ P7 rfl now) fun _ s8 r8 => ?_
      obtain ⟨σ8, H8, J8, w8, q8⟩ := r8
      refine thnF (pt'.run _ s8 σ8 H8 _ J8 q8) fun b s9 r9 => ?_
      obtain ⟨H9, J9, q9⟩ := r9
      have close : ∀ {s' : Shared} {H' : Hp}, Inv (X.blk s3 H3 scope ce [en, it]) ([] ++ pinsAt [en, it] s7.heap) σ8 H' s' → Nx H' → ∃ m, m < n ∧ ∃ i H', Inv (X.blk s3 H3 scope ce [en, it]) [] (wipe σ (own.map (·.2))) H' s' ∧ EnumAt a en it i s'.heap ∧ (∀ b, b ∈ [en, it] → H' b = none) ∧ W i m H' := fun {s' H'} J' nx => by
        obtain ⟨m', lt, w'⟩ := again H' nx
        have kept : ∀ b, b ∈ [en, it] → ∀ o, s7.heap.get? b = some o → s'.heap.get? b = some o ∧ H' b = none := fun b hb o z => by
          have r := J'.pin (b, o) (List.mem_append_right _ (List.mem_append_right _ (mem_pinsAt hb z)))
          exact ⟨r.1, r.2.1⟩
        refine ⟨m', lt, i + 1, H', (J'.unpinned (pins := [])).weak (by rw [← w8, wipe_length]) (fun j v z => (wipe_some (by rwa [← w8] at z)).1), at7.keep fun b hb o z => (kept b hb o z).1, fun b hb => ?_, w'⟩
        obtain ⟨o, z, _⟩ := at7.obj b hb
        exact (kept b hb o z).2
      cases b with
      | false => exact close J9 (by simpa using q9)
      | true =>
        rw [if_pos rfl] at q9 ⊢
        refine thnF (pe'.run _ s9 σ8 H9 _ J9 q9) fun z s10 r10 => ?_
        obtain ⟨yv, H10, J10, ry, acc, hD, few, nx⟩ := r10
        exact app_ok (X := X.blk s3 H3 scope ce [en, it]) J10 hD few ry fun s11 J11 => close J11 nx
  exact codeAny_compStart_list loop (by
    obtain ⟨old, z⟩ := at4.enum
    exact wpAny_pyIter_enum z loop)
end
end LR

/-! a def that is handed the exception that is handled -/
namespace LR
open PySem PySem.Spec PyProof.Rows L2 HotX
/-- a promise that speaks of the handled exception: where it stands, how -/
structure FnE (P : Program) (w : World) (K : PySem.W.Frag) (mg : Str → Option Value) (base : Heap) (k : Nat) (f : Addr) (fd : FuncData) (ps : List Str) (sp : Addr → Obj → Sp) : Prop where
  len : ∀ a oe vs H Q E, sp a oe vs H Q E → vs.length = ps.length
  run : ∀ (A : Around) (outer : List Env) (s : Shared) (H : Hp) (args : Args) (us : List Value) (vs : List V) (Q : VK) (p : Addr × Obj), L2H.RoomH k A → L2H.Hot1 A p → L2H.PinOk outer H s p → Env0 P w K mg base A outer s H → BindsTo s fd args (ps.zip us) → Vals vs us → sp p.1 p.2 vs H Q E0 →
    codeAny (model P w) A (.call (.ref f) args) (CR CX0 outer P w H s Q E0) s
section
variable {P : Program} {w : World} {K : PySem.W.Frag} {mg : Str → Option Value} {base : Heap} {k : Nat} {f : Addr} {fd : FuncData} {x qual : Str} {st : Stmt} {N ps : List Str} {sp : Addr → Obj → Sp}
theorem okE (F : Fun K x qual st f fd) (S : FnScope N ps (defScope st)) (len : ∀ a oe vs H Q E, sp a oe vs H Q E → vs.length = ps.length)
    (walk : ∀ (cdv : Value) (A : Around) (outer : List Env) (s : Shared) (H : Hp) (vs : List V) (Q : VK) (p : Addr × Obj), L2H.Hot1 A p → L2H.RoomH k (A.deeper (envOfC qual (defScope st) s.heap.objs.size f cdv)) → sp p.1 p.2 vs H Q E0 →
      ∃ t, PSs (L2H.cxH CX0 P w K mg base N qual (defScope st) f cdv A outer s H E0 p) (defBody st) t ∧ t { nx := fun _ H' => Q .non H', rt := Q } (L2.start N vs) H) : FnE P w K mg base (k + 1) f fd ps sp := by
  obtain ⟨oc, od, kV, doc, pm, an, cdv, ct, osl, rfl, lk, code⟩ := F.ex
  refine ⟨len, fun A outer s H args us vs Q p room hot pin e0 bind rel asked => ?_⟩
  have inK : K.In s.heap := e0.mod.kin.keeps fun b o z => (e0.bs b o z).1
  have free : s.heap.NoLimit := e0.mod.nolimit.keeps fun b o z => (e0.bs b o z).1
  refine codeAny_call_function room.depth (inK _ _ lk) rfl S.co S.gen rfl (PySem.W.codeRec_of inK code) (bind _ _ _ _ ?_)
  refine wpAny_newFunctionEnv_cells S.kind (fun y hy => ?_) fun env he s1 made => ?_
  · rcases S.par y.1 (List.of_mem_zip hy).1 with z | z
    · exact .inl z
    · exact .inr ⟨z, PySem.W.cellsFrom_some _ _ _ (.inl z)⟩
  · subst he
    refine ⟨free.keeps made.toInCall.keep, codeAny_func ?_⟩
    obtain ⟨t, body, read⟩ := walk cdv A outer s H vs Q p hot (room.deeper _) asked
    have I := L2H.inv_startH (CX := CX0) (E := E0) (P := P) (w := w) S pin e0 (len _ _ _ _ _ _ asked) rel made
    refine wpAny_mono (body.run [] s1 _ H _ I read) (fun fl s' out => ?_) fun _ _ z => z
    cases fl with
    | ret u =>
      obtain ⟨v, σ', H', J, rv, q⟩ := out
      exact ⟨v, H', J.os, J.bare, J.base, J.hok, rv, q⟩
    | next =>
      obtain ⟨σ', H', J, q⟩ := out
      exact ⟨V.non, H', J.os, J.bare, J.base, J.hok, rfl, q⟩
    | brk =>
      obtain ⟨_, _, _, q⟩ := out
      exact q.elim
    | cont =>
      obtain ⟨_, _, _, q⟩ := out
      exact q.elim
end
section
variable {X : Cx} {k : Nat} {f a : Addr} {oe : Obj} {fd : FuncData} {ps : List Str} {sp : Addr → Obj → Sp} {x : Str} {q pos : Pos} {e : Expr} {es : List Expr} {t : TA}
/-- such a def called where p is handled -/
theorem pe_callE (F : FnE X.prog X.w X.K X.mg X.base k f fd ps sp) (room : L2H.RoomH k X.A) (hot : L2H.Hot1 X.A (a, oe)) (mem : (a, oe) ∈ X.pn) (hg : Gl X x) (hm : X.mg x = some (.ref f)) (kp : PySem.W.keepIn X.K (.ref f) = true) (bind : Binds X.K fd ps [])
    (ha : PA X (e :: es) t) (dbg : (x == ("__debug__" : Str)) = false := by decide) (he : starEach (e :: es) X.env = (false, eval e X.env) :: starEach es X.env := by rfl) (plain : (backTo pos (starEach es X.env)).any (·.1) = false := by rfl) :
    PE X (.Call (.Name x q) (e :: es) [] pos) (fun σ H Q => t σ H fun vs H1 => sp a oe vs H1 Q E0) := by
  refine ⟨fun pins s σ H Q I h => wpAny_Call_Name_kw (ld_glob I hg hm (PySem.W.callWith_K (h₀ := X.base) I.ok.mod.kin kp (thn (ha.run pos pins s σ H _ I h) fun us s1 got => ?_) he plain) dbg)⟩
  obtain ⟨vs, H1, I1, rel, asked⟩ := got
  refine ⟨I1.kIn, ?_⟩
  obtain ⟨g, fr, nl, nf, nc⟩ := I1.pin (a, oe) (List.mem_append_left _ mem)
  have pin : L2H.PinOk X.stack H1 s1 (a, oe) := ⟨g, fr, fun m => (List.mem_cons.mp (I1.stkSub a m)).elim nl nf, nc⟩
  have many : us.length = ps.length := by rw [← rel.length, F.len _ _ _ _ _ _ asked]
  have b := bind s1 us I1.kIn (by rw [List.append_nil]; exact many)
  rw [List.append_nil] at b
  refine wpAny_call (codeAny_mono (F.run X.A X.stack s1 H1 ⟨us, []⟩ us vs Q (a, oe) room hot pin I1.env0 b rel asked) fun r s' out => ?_)
  cases r with
  | error er => exact out.elim
  | ok fl =>
    cases fl with
    | ret u => exact I1.after out
    | next => exact False.elim out
    | brk => exact False.elim out
    | cont => exact False.elim out
/-- isinstance of a pinned exception -/
def rIsPin (K : PySem.W.Frag) (a D : Addr) (d : Option Addr) : List V → Hp → VK → Prop := fun xs H Q => ∃ (c : V) (cv : Value) (b : Bool), xs = [.ref a, c] ∧ (∀ dx, d = some dx → ∃ fs, H dx = some (.xd fs)) ∧ ClsV c cv ∧ PySem.W.kitOne K (.ref D) cv = some b ∧ Q (.bl b) H
theorem call_isPin {D : Addr} {d : Option Addr} (mem : (a, oe) ∈ X.pn) (z : Zc (.ref D) d oe) (fl : ∃ vs, oe.data = .fields vs) (T : ExcC X.K D) : CallR X (.builtin "isinstance") (rIsPin X.K a D d) := by
  intro pins s σ H xs us Q I r h
  obtain ⟨c, cv, b, rfl, hd, kc, ans, q⟩ := h
  obtain ⟨u1, u2, rfl, r1, r2⟩ := vals2 r
  obtain rfl := kc.eq r2
  obtain rfl : u1 = Value.ref a := r1
  obtain ⟨get, _⟩ := I.pin (a, oe) (List.mem_append_left _ mem)
  obtain ⟨vs, dv⟩ := fl
  have known : (PySem.W.clsIn X.K D).isSome = true := by
    obtain ⟨cd, hc, _⟩ := PySem.W.any_some T.hd
    rw [hc]
    rfl
  have J : ∃ od, PySem.W.InstAt s.heap a oe D od := by
    cases d with
    | none => exact ⟨none, get, z.1, by unfold PySem.W.notCls; rw [dv] <;> rfl, by rw [z.2]; trivial⟩
    | some dx =>
      obtain ⟨fs, hx⟩ := hd dx rfl
      obtain ⟨mA, hns, _⟩ := (show ObjOk X.prog X.w H s.heap dx (.xd fs) from I.hok dx _ hx)
      obtain ⟨o, ho, _⟩ := lookIn_ns hns
      exact ⟨some o, get, z.1, by unfold PySem.W.notCls; rw [dv] <;> rfl, by rw [z.2]; exact ho⟩
  obtain ⟨od, J⟩ := J
  exact PySem.W.kia_one (PySem.W.kitx_exc known T.hg T.hk T.hs T.ha T.hn T.ht T.hm) I.kIn J ans (fun z => nomatch z) fun tk => ⟨.bl b, H, I.tok tk, rfl, q⟩
end
end LR

namespace LK
open PySem PySem.Spec PyProof.Rows L2 LR
/-- the handled exception's own dict, where it has one -/
structure DictX (H : Hp) (d : Option Addr) : Prop where
  dict : ∀ dx, d = some dx → ∃ fs, H dx = some (.xd fs)
theorem DictX.same {H H' : Hp} {d : Option Addr} (s : Same H H') (h : DictX H d) : DictX H' d :=
  ⟨fun dx e => by
    obtain ⟨fs, q⟩ := h.dict dx e
    exact ⟨fs, s _ _ q⟩⟩
def spRefE (K : PySem.W.Frag) (C : Nat → Addr) (a : Addr) (oe : Obj) : Sp := fun vs H Q _ => ∃ (D : Addr) (d : Option Addr) (b : Nat → Bool), vs = [.ref a] ∧ Zc (.ref D) d oe ∧ (∃ fs, oe.data = .fields fs) ∧ DictX H d ∧ ExcC K D ∧ (∀ j, j < 12 → PySem.W.kitOne K (.ref D) (.ref (C j)) = some (b j)) ∧
  ∀ p H', Same H H' → H' p = some (.lst ((ix ((List.range 12).map b) 0).map V.int)) → Q (.ref p) H'
section
variable {P : Program} {w : World} {K : PySem.W.Frag} {mg : Str → Option Value} {base : Heap}
theorem ok_refusedE {C fE : Nat → Addr} {B f : Addr} {fdE : Nat → FuncData} {fd : FuncData} (S : Std mg) (G : Errs K mg C B fE fdE) (F : Fun K "_law_refused" "_law_refused" sRefused f fd) : FnE P w K mg base 1 f fd ["_law_e"] (spRefE K C) := by
  have e0 := G.er 0 (by decide)
  have e1 := G.er 1 (by decide)
  have e2 := G.er 2 (by decide)
  have e3 := G.er 3 (by decide)
  have e4 := G.er 4 (by decide)
  have e5 := G.er 5 (by decide)
  have e6 := G.er 6 (by decide)
  have e7 := G.er 7 (by decide)
  have e8 := G.er 8 (by decide)
  have e9 := G.er 9 (by decide)
  have e10 := G.er 10 (by decide)
  refine okE F scRef (fun a oe vs H Q E h => ?_) (fun cdv A outer s H vs Q pe0 hot hr h => ?_)
  · obtain ⟨D, d, b, rfl, _⟩ := h
    rfl
  · obtain ⟨D, d, b, rfl, zc, fl, x0, ex, kk, q⟩ := h
    obtain ⟨a, oe⟩ := pe0
    have hc : L2H.HotC (L2H.cxH CX0 P w K mg base nRef "_law_refused" (defScope sRefused) f cdv A outer s H E0 (a, oe)) := ⟨(a, oe), hot, List.mem_singleton.mpr rfl⟩
    have mem : (a, oe) ∈ (L2H.cxH CX0 P w K mg base nRef "_law_refused" (defScope sRefused) f cdv A outer s H E0 (a, oe)).pn := List.mem_singleton.mpr rfl
    refine ⟨_, pss_cons (ps_set (i := 1) scRef.nd rfl (Or.inl rfl) (pe_lst (pa_cons (pe_callB (call_isPin mem zc fl ex) (by rfl) S.isi (by decide +kernel) (pa_cons (pv 0) (pa_cons (pe_glob (v := .ref (C 0)) rfl e0.g rfl) pa_nil))) (pa_cons (pe_callB (call_isPin mem zc fl ex) (by rfl) S.isi (by decide +kernel) (pa_cons (pv 0) (pa_cons (pe_glob (v := .ref (C 1)) rfl e1.g rfl) pa_nil))) (pa_cons (pe_callB (call_isPin mem zc fl ex) (by rfl) S.isi (by decide +kernel) (pa_cons (pv 0) (pa_cons (pe_glob (v := .ref (C 2)) rfl e2.g rfl) pa_nil))) pa_nil)))))
      (pss_cons (ps_set (i := 1) scRef.nd rfl (Or.inl rfl) (pe_op op_cat (pv 1) (pe_lst (pa_cons (pe_callB (call_isPin mem zc fl ex) (by rfl) S.isi (by decide +kernel) (pa_cons (pv 0) (pa_cons (pe_glob (v := .ref (C 3)) rfl e3.g rfl) pa_nil))) (pa_cons (pe_callB (call_isPin mem zc fl ex) (by rfl) S.isi (by decide +kernel) (pa_cons (pv 0) (pa_cons (pe_glob (v := .ref (C 4)) rfl e4.g rfl) pa_nil))) (pa_cons (pe_callB (call_isPin mem zc fl ex) (by rfl) S.isi (by decide +kernel) (pa_cons (pv 0) (pa_cons (pe_glob (v := .ref (C 5)) rfl e5.g rfl) pa_nil))) pa_nil))))))
      (pss_cons (ps_set (i := 1) scRef.nd rfl (Or.inl rfl) (pe_op op_cat (pv 1) (pe_lst (pa_cons (pe_callB (call_isPin mem zc fl ex) (by rfl) S.isi (by decide +kernel) (pa_cons (pv 0) (pa_cons (pe_glob (v := .ref (C 6)) rfl e6.g rfl) pa_nil))) (pa_cons (pe_callB (call_isPin mem zc fl ex) (by rfl) S.isi (by decide +kernel) (pa_cons (pv 0) (pa_cons (pe_glob (v := .ref (C 7)) rfl e7.g rfl) pa_nil))) (pa_cons (pe_callB (call_isPin mem zc fl ex) (by rfl) S.isi (by decide +kernel) (pa_cons (pv 0) (pa_cons (pe_glob (v := .ref (C 8)) rfl e8.g rfl) pa_nil))) pa_nil))))))
      (pss_cons (ps_set (i := 1) scRef.nd rfl (Or.inl rfl) (pe_op op_cat (pv 1) (pe_lst (pa_cons (pe_callB (call_isPin mem zc fl ex) (by rfl) S.isi (by decide +kernel) (pa_cons (pv 0) (pa_cons (pe_glob (v := .ref (C 9)) rfl e9.g rfl) pa_nil))) (pa_cons (pe_callB (call_isPin mem zc fl ex) (by rfl) S.isi (by decide +kernel) (pa_cons (pv 0) (pa_cons (pe_glob (v := .ref (C 10)) rfl e10.g rfl) pa_nil))) (pa_cons (pe_callB (call_isPin mem zc fl ex) (by rfl) S.isi (by decide +kernel) (pa_cons (pv 0) (pa_cons (pe_glob (v := .ref (C 11)) rfl G.imp.g rfl) pa_nil))) pa_nil))))))
      (pss_one (ps_ret (pe_lcEH (own := [("_law_at", 2), ("_law_one", 3)]) (g := gTup K 2 (gCons (gName 2) (gCons (gName 3) gNil))) (tt := tB (tVar 3)) hc scRef.nd (by rfl) S.enumerate (pa_cons (pv 1) pa_nil) (blkOk_by (N := nRef) (sc := defScope sRefused) (by decide +kernel))
          (fun _ _ _ _ _ hb => pg_tupH hb (pgs_cons (pg_name (i := 2) scRef.nd rfl (Or.inl rfl)) (pgs_cons (pg_name (i := 3) scRef.nd rfl (Or.inl rfl)) pgs_nil))) (fun _ _ _ _ _ => pts_one (pt_val (pv 3)))
          (fun _ _ _ _ _ => pv 2))))))), ?_⟩
    refine ⟨_, rfl, _, _, b 0, rfl, x0.dict, .own (C 0), kk 0 (by decide), _, rfl, _, _, b 1, rfl, x0.dict, .own (C 1), kk 1 (by decide), _, rfl, _, _, b 2, rfl, x0.dict, .own (C 2), kk 2 (by decide), by show 3 ≤ sizeLine; decide, fun p1 hp1 => ?_⟩
    have s1 : Same H (upd H p1 (.lst [.bl (b 0), .bl (b 1), .bl (b 2)])) := same_new hp1
    have x1 := x0.same s1
    have h1 : (upd H p1 (.lst [.bl (b 0), .bl (b 1), .bl (b 2)])) p1 = some (.lst [.bl (b 0), .bl (b 1), .bl (b 2)]) := upd_same
    generalize upd H p1 (.lst [.bl (b 0), .bl (b 1), .bl (b 2)]) = H1 at s1 x1 h1 ⊢
    refine ⟨_, rfl, _, rfl, _, _, b 3, rfl, x1.dict, .own (C 3), kk 3 (by decide), _, rfl, _, _, b 4, rfl, x1.dict, .own (C 4), kk 4 (by decide), _, rfl, _, _, b 5, rfl, x1.dict, .own (C 5), kk 5 (by decide), by show 3 ≤ sizeLine; decide, fun m1 hm1 => ⟨p1, m1, _, _, rfl, rfl, same_new hm1 _ _ h1, upd_same, by show 6 ≤ sizeLine; decide, fun p2 hp2 => ?_⟩⟩
    have s2 : Same H (upd (upd H1 m1 (.lst [.bl (b 3), .bl (b 4), .bl (b 5)])) p2 (.lst ([.bl (b 0), .bl (b 1), .bl (b 2)] ++ [.bl (b 3), .bl (b 4), .bl (b 5)]))) := (s1.trans (same_new hm1)).trans (same_new hp2)
    have x2 := x0.same s2
    have h2 : (upd (upd H1 m1 (.lst [.bl (b 3), .bl (b 4), .bl (b 5)])) p2 (.lst ([.bl (b 0), .bl (b 1), .bl (b 2)] ++ [.bl (b 3), .bl (b 4), .bl (b 5)]))) p2 = some (.lst ([.bl (b 0), .bl (b 1), .bl (b 2)] ++ [.bl (b 3), .bl (b 4), .bl (b 5)])) := upd_same
    generalize upd (upd H1 m1 (.lst [.bl (b 3), .bl (b 4), .bl (b 5)])) p2 (.lst ([.bl (b 0), .bl (b 1), .bl (b 2)] ++ [.bl (b 3), .bl (b 4), .bl (b 5)])) = H2 at s2 x2 h2 ⊢
    refine ⟨_, rfl, _, rfl, _, _, b 6, rfl, x2.dict, .own (C 6), kk 6 (by decide), _, rfl, _, _, b 7, rfl, x2.dict, .own (C 7), kk 7 (by decide), _, rfl, _, _, b 8, rfl, x2.dict, .own (C 8), kk 8 (by decide), by show 3 ≤ sizeLine; decide, fun m2 hm2 => ⟨p2, m2, _, _, rfl, rfl, same_new hm2 _ _ h2, upd_same, by show 9 ≤ sizeLine; decide, fun p3 hp3 => ?_⟩⟩
    have s3 : Same H (upd (upd H2 m2 (.lst [.bl (b 6), .bl (b 7), .bl (b 8)])) p3 (.lst (([.bl (b 0), .bl (b 1), .bl (b 2)] ++ [.bl (b 3), .bl (b 4), .bl (b 5)]) ++ [.bl (b 6), .bl (b 7), .bl (b 8)]))) := (s2.trans (same_new hm2)).trans (same_new hp3)
    have x3 := x0.same s3
    have h3 : (upd (upd H2 m2 (.lst [.bl (b 6), .bl (b 7), .bl (b 8)])) p3 (.lst (([.bl (b 0), .bl (b 1), .bl (b 2)] ++ [.bl (b 3), .bl (b 4), .bl (b 5)]) ++ [.bl (b 6), .bl (b 7), .bl (b 8)]))) p3 = some (.lst (([.bl (b 0), .bl (b 1), .bl (b 2)] ++ [.bl (b 3), .bl (b 4), .bl (b 5)]) ++ [.bl (b 6), .bl (b 7), .bl (b 8)])) := upd_same
    generalize upd (upd H2 m2 (.lst [.bl (b 6), .bl (b 7), .bl (b 8)])) p3 (.lst (([.bl (b 0), .bl (b 1), .bl (b 2)] ++ [.bl (b 3), .bl (b 4), .bl (b 5)]) ++ [.bl (b 6), .bl (b 7), .bl (b 8)])) = H3 at s3 x3 h3 ⊢
    refine ⟨_, rfl, _, rfl, _, _, b 9, rfl, x3.dict, .own (C 9), kk 9 (by decide), _, rfl, _, _, b 10, rfl, x3.dict, .own (C 10), kk 10 (by decide), _, rfl, _, _, b 11, rfl, x3.dict, .own (C 11), kk 11 (by decide), by show 3 ≤ sizeLine; decide, fun m3 hm3 => ⟨p3, m3, _, _, rfl, rfl, same_new hm3 _ _ h3, upd_same, by show 12 ≤ sizeLine; decide, fun p4 hp4 => ?_⟩⟩
    have s4 : Same H (upd (upd H3 m3 (.lst [.bl (b 9), .bl (b 10), .bl (b 11)])) p4 (.lst ((([.bl (b 0), .bl (b 1), .bl (b 2)] ++ [.bl (b 3), .bl (b 4), .bl (b 5)]) ++ [.bl (b 6), .bl (b 7), .bl (b 8)]) ++ [.bl (b 9), .bl (b 10), .bl (b 11)]))) := (s3.trans (same_new hm3)).trans (same_new hp4)
    have x4 := x0.same s4
    have h4 : (upd (upd H3 m3 (.lst [.bl (b 9), .bl (b 10), .bl (b 11)])) p4 (.lst ((([.bl (b 0), .bl (b 1), .bl (b 2)] ++ [.bl (b 3), .bl (b 4), .bl (b 5)]) ++ [.bl (b 6), .bl (b 7), .bl (b 8)]) ++ [.bl (b 9), .bl (b 10), .bl (b 11)]))) p4 = some (.lst ((([.bl (b 0), .bl (b 1), .bl (b 2)] ++ [.bl (b 3), .bl (b 4), .bl (b 5)]) ++ [.bl (b 6), .bl (b 7), .bl (b 8)]) ++ [.bl (b 9), .bl (b 10), .bl (b 11)])) := upd_same
    generalize upd (upd H3 m3 (.lst [.bl (b 9), .bl (b 10), .bl (b 11)])) p4 (.lst ((([.bl (b 0), .bl (b 1), .bl (b 2)] ++ [.bl (b 3), .bl (b 4), .bl (b 5)]) ++ [.bl (b 6), .bl (b 7), .bl (b 8)]) ++ [.bl (b 9), .bl (b 10), .bl (b 11)])) = H4 at s4 x4 h4 ⊢
    have hb : H4 p4 = some (.lst (((List.range 12).map b).map V.bl)) := h4
    clear h4
    generalize hB : (List.range 12).map b = bs at hb q
    have hlen : bs.length = 12 := by rw [← hB]; rfl
    refine ⟨_, rfl, p4, _, rfl, SqL.of hb, fun D' hD => lc_enum (xs := bs.map V.bl) (fun i H5 => Keep D' H H5 ∧ H5 p4 = some (.lst (bs.map V.bl)) ∧ H5 D' = some (.lst ((ix (bs.take i) 0).map V.int)))
      ⟨(Keep.same s4).trans (Keep.new hD), by rw [upd_ne (ne_of_none hb hD)]; exact hb, upd_same⟩ (fun i H5 h => SqL.of h.2.1) (fun i x T H5 hx h hT => ?_) (fun H5 h => ?_)⟩
    · obtain ⟨k5, b5, d5⟩ := h
      rw [List.getElem?_map] at hx
      obtain ⟨c, hc, rfl⟩ := Option.map_eq_some_iff.mp hx
      have lt : i < bs.length := (List.getElem?_eq_some_iff.mp hc).1
      have tk : bs.take (i + 1) = bs.take i ++ [c] := by
        rw [List.take_add_one, hc]
        rfl
      have ln : (bs.take i).length = i := by rw [List.length_take]; omega
      have u5 : Same H5 (upd H5 T (.tup [.int (i : Nat), .bl c])) := same_new hT
      refine ⟨T, _, rfl, SqT.of upd_same, rfl, _, _, rfl, _, _, rfl, rfl, rfl, _, rfl, c, rfl, ?_⟩
      have pD : p4 ≠ D' := ne_of_none hb hD
      cases c with
      | true =>
        refine iteT ⟨_, rfl, _, u5 _ _ d5, ?_, ?_, ?_, ?_⟩
        · rw [List.length_map]
          have := ix_len (bs.take i) 0
          exact small1000 (by omega)
        · intro b' o n e
          rw [upd_ne n]
          exact u5 _ _ (k5 b' o n e)
        · rw [upd_ne pD]
          exact u5 _ _ b5
        · rw [upd_same, tk, ix_add, List.map_append, ln, Nat.zero_add]
          rfl
      | false =>
        refine iteF ⟨?_, ?_, ?_⟩
        · exact fun b' o n e => u5 _ _ (k5 b' o n e)
        · exact u5 _ _ b5
        · rw [tk, ix_add, u5 _ _ d5]
          simp
    · obtain ⟨k5, b5, d5⟩ := h
      rw [List.length_map, List.take_length] at d5
      exact q D' H5 (fun b' o e => k5 b' o (ne_of_none e (s4.free hD)) e) d5
end
end LK

/-! own errors with an __init__, raised and let out; instances whose __init__ may raise -/
namespace LR
open PySem PySem.Spec PyProof.Rows L2
/-- a def that may let an error out -/
theorem okN {P : Program} {w : World} {K : PySem.W.Frag} {mg : Str → Option Value} {base : Heap} {x qual : Str} {st : Stmt} {f : Addr} {fd : FuncData} {N ps : List Str} {k : Nat} {sp : Sp} (F : Fun K x qual st f fd) (S : FnScope N ps (defScope st)) (len : ∀ vs H Q E, sp vs H Q E → vs.length = ps.length)
    (walk : ∀ (cdv : Value) (A : Around) (outer : List Env) (s : Shared) (H : Hp) (vs : List V) (Q : VK) (E : XK), Room k (A.deeper (envOfC qual (defScope st) s.heap.objs.size f cdv)) → sp vs H Q E →
      ∃ t, PSs (cxOf (L2N.CX P w) P w K mg base N qual (defScope st) f cdv A outer s H E) (defBody st) t ∧ t { nx := fun _ H' => Q .non H', rt := Q } (start N vs) H) : FnOk P w K mg base (L2N.CX P w) (k + 1) f fd ps sp := by
  obtain ⟨oc, od, kV, doc, pm, an, cdv, ct, osl, rfl, lk, code⟩ := F.ex
  exact fn_of lk code S len fun A outer s H vs Q E room asked => walk cdv A outer s H vs Q E room asked
section
variable {X : Cx} {e : Expr} {es : List Expr} {ta : TA} {p pos : Pos} {x : Str} {C fI : Addr} {k : Nat} {fd : FuncData} {ps : List Str} {sp : Sp}
/-- raise Err(e, ..): the object is let go -/
theorem pmk_errN (T : OexC X.K C) (iC : PySem.W.findIn X.K (.ref C) "__init__" = some (some (.ref fI))) (tI : PySem.W.typeIn X.K (.ref fI) = some (.type "function")) (F1 : FnOk X.prog X.w X.K X.mg X.base CX0 k fI fd ps sp) (room : Room (k + 1) X.A) (bind : Binds X.K fd ps [])
    (hg : Gl X x) (hm : X.mg x = some (.ref C)) (ha : PA X (e :: es) ta) (dbg : (x == ("__debug__" : Str)) = false := by decide) (he : starEach (e :: es) X.env = (false, eval e X.env) :: starEach es X.env := by rfl) (plain : (backTo pos (starEach es X.env)).any (·.1) = false := by rfl) :
    L2N.PMk X (.Call (.Name x p) (e :: es) [] pos) (tMkO C sp [] ta) := by
  intro pins s σ H Q I h
  obtain ⟨nm, q, N, bs, bm, sn, sub, ab, col, dd, k0, k1, k2, k3, k5, hC, hbm⟩ := T.cls
  refine wpAny_Call_Name_kw (ld_glob I hg hm (PySem.W.callWith_K (h₀ := X.base) I.ok.mod.kin T.kC (thn (ha.run pos pins s σ H _ I h) fun us s1 got => ?_) he plain) dbg)
  obtain ⟨vs, H1, I1, r1, few1, q1⟩ := got
  refine ⟨I1.kIn, ?_⟩
  obtain ⟨hp, g, dr, tk, os⟩ := s1
  have new := q1 (hp.objs.size + 1) (I1.hok.fresh (Nat.le_succ _))
  rw [List.append_nil] at new
  have keep : ∀ b o, hp.get? b = some o → ((hp.push (PySem.W.kdv_tup us)).push (PySem.HandSPX.excO C hp.objs.size)).get? b = some o := fun b o z => Heap.get?_push_of_some _ (Heap.get?_push_of_some _ z)
  have J := I1.laid (t' := tk) keep (Nat.le_succ hp.objs.size) (exo_ok (C := C) (d := none) (t1 := hp.objs.size) (by heap_get))
  have rels : Vals (V.ref (hp.objs.size + 1) :: vs) (Value.ref (hp.objs.size + 1) :: us) := .cons rfl r1
  have many : (Value.ref (hp.objs.size + 1) :: us).length = ps.length := by rw [← rels.length, F1.len _ _ _ _ new]
  have few : us.length ≤ sizeLine := by rw [← Paired.length r1, sizeLine_eq]; omega
  have bound := bind _ (Value.ref (hp.objs.size + 1) :: us) J.kIn (by simpa using many)
  rw [List.append_nil] at bound
  refine wpAny_call (PySem.HandSPX.call_own F.excBase_ValueError (fun Y => PySem.HandSPX.refsVE_contains Y bm hbm) (I1.kIn _ _ hC) (PySem.W.looks_findIn I1.kIn iC) (fun self => PySem.W.bind_fn I1.kIn self tI) few
    (codeAny_mono (F1.run _ X.stack _ _ _ _ _ _ E0 (room.make C us []) (J.env0.make C us []) bound rels new) fun r s' out => ?_))
  cases r with
  | error er => exact out.elim
  | ok fl =>
    cases fl with
    | ret u =>
      obtain ⟨v, H2, os2, bare2, un2, hok2, rv, ev, d, fs, ea, ed, hd1, q2⟩ := out
      subst ev
      obtain ⟨h2, g2, d2, t2, os'⟩ := s'
      obtain ⟨t0, G, J2, kG, ge, hoe, na⟩ := mk_end0 (d2 := d2) (t2 := t2) I1 (Nat.le_succ hp.objs.size) keep un2 hok2 os2 bare2 ea ed hd1
      refine ⟨rv, hp.objs.size + 1, _, _, ⟨G, g2, d2, t2, os'⟩, _, .ref C, some d, rfl, J2, kG, ge, hoe, ⟨rfl, rfl, fun vs hv => ?_⟩, rfl, rfl, na, rfl, bare2, raises_own T.exC T.tyC, q2⟩
      cases hv
      rfl
    | next => exact False.elim out
    | brk => exact False.elim out
    | cont => exact False.elim out
end
/-- C(e, ..), whose __init__ may let an error out at the slots that stand -/
def tMakeS (C : Addr) (sp : Sp) (E : L2.St → XK) (t : TA) : TE := fun σ H Q => t σ H fun vs H1 => ∀ x dx, H1 x = none → H1 dx = none → dx ≠ x → sp (.ref x :: vs) (upd (upd H1 dx (.own x)) x (.ins C dx [])) (fun v H2 => v = .non ∧ Q (.ref x) H2) (E σ)
section
variable {X : Cx} {CX : CXT} {e : Expr} {es : List Expr} {t : TA} {p pos : Pos} {x : Str} {C f : Addr} {k : Nat} {fd : FuncData} {ps : List Str} {sp : Sp} {E : L2.St → XK}
theorem pe_makeS (M : Mk X.K C f) (F : FnOk X.prog X.w X.K X.mg X.base CX k f fd ps sp) (room : Room (k + 1) X.A) (hg : Gl X x) (hm : X.mg x = some (.ref C)) (bind : Binds X.K fd ps []) (out : ∀ σ, PassesAt CX X σ (E σ))
    (ha : PA X (e :: es) t) (dbg : (x == ("__debug__" : Str)) = false := by decide) (he : starEach (e :: es) X.env = (false, eval e X.env) :: starEach es X.env := by rfl) (plain : (backTo pos (starEach es X.env)).any (·.1) = false := by rfl) :
    PE X (.Call (.Name x p) (e :: es) [] pos) (tMakeS C sp E t) := by
  refine ⟨fun pins s σ H Q I h => wpAny_Call_Name_kw (ld_glob I hg hm (PySem.W.callWith_K (h₀ := X.base) I.ok.mod.kin M.kp (thn (ha.run pos pins s σ H _ I h) fun us s1 got => ?_) he plain) dbg)⟩
  obtain ⟨vs, H1, I1, r1, q1⟩ := got
  refine ⟨I1.kIn, ?_⟩
  have asked := q1 (s1.heap.objs.size + 1) s1.heap.objs.size (I1.hok.fresh (Nat.le_succ _)) (I1.hok.fresh (Nat.le_refl _)) (Nat.ne_of_lt (Nat.lt_succ_self _))
  have J := Inv.made (C := C) I1
  have rels : Vals (V.ref (s1.heap.objs.size + 1) :: vs) (Value.ref (s1.heap.objs.size + 1) :: us) := .cons rfl r1
  have many : (Value.ref (s1.heap.objs.size + 1) :: us).length = ps.length := by rw [← rels.length, F.len _ _ _ _ asked]
  have bound := bind _ (Value.ref (s1.heap.objs.size + 1) :: us) J.kIn (by simpa using many)
  rw [List.append_nil] at bound
  refine wpAny_call (make_map (f := f) I1.kIn M.makes M.init (beq_iff_eq.mp M.fn) (codeAny_mono (F.run _ X.stack _ _ ⟨Value.ref (s1.heap.objs.size + 1) :: us, []⟩ _ _ _ (E σ) (room.make C us []) (J.env0.make C us []) bound rels asked) fun r s' res => ?_))
  cases r with
  | error er => exact out σ pins _ _ er s' J res
  | ok fl =>
    cases fl with
    | ret u =>
      obtain ⟨v, H2, J2, rv, ev, q3⟩ := J.after res
      subst ev
      exact ⟨rv, ⟨V.ref (s1.heap.objs.size + 1), H2, J2, rfl, q3⟩⟩
    | next => exact False.elim res
    | brk => exact False.elim res
    | cont => exact False.elim res
end
end LR

/-! str(x) by an own __str__ -/
namespace LR
open PySem PySem.Spec PyProof.Rows L2
section
variable {X : Cx} {CX : CXT} {n : Nat} {f C : Addr} {fd : FuncData} {ps : List Str} {sp : Sp} {E : XK}
theorem call_strOwn (F : FnOk X.prog X.w X.K X.mg X.base CX n f fd ps sp) (hs : PySem.W.findIn X.K (.ref C) "__str__" = some (some (.ref f))) (hf : PySem.W.isFn X.K (.ref f) = true) (hb : Binds X.K fd ps []) (hx : Passes CX X E) (hr : Room (n + 2) X.A) :
    CallR X (.type "str") (fun xs H Q => ∃ a dx fs, xs = [V.ref a] ∧ H a = some (.ins C dx fs) ∧ sp [V.ref a] H (fun v H' => ∃ z : Str, v = .str z ∧ Q (.str z) H') E) := by
  intro pins s σ H xs us Q I r h
  obtain ⟨a, dx, fs, rfl, ha, h⟩ := h
  have e := vals1r r
  subst e
  obtain ⟨mA, J, _⟩ := ins_get I.hok ha
  obtain ⟨od, J, _⟩ := J.look
  refine PySem.W.kso_call hr.in1.in1.units0 I.kIn J hs hf ?_
  refine wpAny_mono (call_run (A := X.A.in1.in1) ⟨hr.in1.in1, rfl⟩ F hb hx I (.cons (show RelV (V.ref a) (Value.ref a) from rfl) .nil) h) (fun v s' q => ?_) fun _ _ z => z
  obtain ⟨y, H', I', ry, z, rfl, q⟩ := q
  obtain ⟨t, rfl⟩ := ry
  exact ⟨.str z, H', I', ⟨_, rfl⟩, q⟩
end
end LR

/-! x != y where x's class has an own __eq__ and no own __ne__ -/
namespace LR
open PySem PySem.Spec PyProof.Rows L2
theorem slotNe : Slot "object" "__ne__" "object.__ne__" :=
  Slot.of (owner := "object") (n := "__ne__") (by rw [typeLookup_type, builtinLookup_eq_fast]; kernel_rfl) F.cmpSplit_ne (by decide +kernel) (by decide +kernel) (.inl (by decide +kernel)) (by rw [isSubtype_type]; kernel_rfl)
section
variable {prog : Program} {w : World} {A : Around} {E : Value → Shared → Prop} {s : Shared} {K : PySem.W.Frag} {x C f : Addr} {ox : Obj} {od : Option Obj} {b : Value}
/-- the inherited __ne__ is asked -/
theorem ask_ne {M : Model} {Q : Option Value → Shared → Prop} (X : K.In s.heap) (I : PySem.W.InstAt s.heap x ox C od) (hn : PySem.W.findIn K (.ref C) "__ne__" = some (some (.builtin "object.__ne__")))
    (h : wpAny M A (call (.builtin "object.__ne__") [.ref x, b]) (fun v => Q (some v)) E s) : wpAny M A (callSpecialIfBound? (.ref x) "__ne__" [b]) Q E s := by
  simp only [callSpecialIfBound?, bindSpecialIfBound?]
  apply wpAny_holding
  apply wpAny_bind
  apply wpAny_bind
  apply wpAny_bind
  refine I.type.here ((PySem.W.looks_findIn X hn).here ?_)
  refine wpAny_bind (wpAny_askSetting (wpAny_ite ?_))
  have last : wpAny M A (call (.builtin "object.__ne__") ([.ref x] ++ [b]) >>= fun v => pure (some v)) Q E s := wpAny_bind (wpAny_mono h (fun v s' z => wpAny_pure z) fun _ _ z => z)
  have bound : wpAny M A (bindSpecial (.builtin "object.__ne__") (.ref x)) (fun r s' => r = (.builtin "object.__ne__", [.ref x]) ∧ s' = s) E s := wpAny_of_eq (slotNe.bind _) ⟨rfl, rfl⟩
  split
  · refine wpAny_bind (wpAny_mono bound (fun r s' z => ?_) fun _ _ z => z)
    obtain ⟨rfl, rfl⟩ := z
    exact wpAny_pure (by exact last)
  · refine wpAny_tryCatch (wpAny_bind (wpAny_of_eq (slotNe.bind _) (wpAny_pure (by exact last))))
/-- object.__ne__: the own __eq__, turned -/
theorem run_ne {Q : Value → Shared → Prop} (hu : A.units + 1 < cLine) (X : K.In s.heap) (I : PySem.W.InstAt s.heap x ox C od) (ob : PySem.W.mroIn K C (.type "object") = some true) (hs : PySem.W.findIn K (.ref C) "__eq__" = some (some (.ref f))) (hf : PySem.W.isFn K (.ref f) = true)
    (h : wpAny (model prog w) A.in1 (call (.ref f) [.ref x, b]) (fun v s' => ∃ r, v = .bool r ∧ Q (.bool (!r)) s') E s) : wpAny (model prog w) A (call (.builtin "object.__ne__") [.ref x, b]) Q E s := by
  have isObj : PySem.W.Looks (model prog w) s.heap (isInstance (.ref x) (.type "object")) true := I.type.andThen (PySem.W.looks_mroIn X ob)
  refine wpAny_call (codeAny_call_builtin slotNe.plain F.cmpEntry_ne (PySem.W.check_slot F.cmpKind_ne F.cmpSplit_ne isObj (F.cmpArgs_ne _ _) ?_))
  unfold Builtin.«object.__ne__»
  refine wpAny_bind (wpAny_of_eq (a := ((Value.ref x : Value), [b])) (by simp only [slotArgs]; rfl) ?_)
  refine wpAny_bind (wpAny_cRoomFor hu ?_)
  refine wpAny_bind (PySem.W.ifBound_K X I hs hf (wpAny_mono h (fun v s' z => ?_) fun _ _ z => z))
  obtain ⟨r, rfl, q⟩ := z
  refine wpAny_bind (wpAny_truthy_bool ?_)
  exact wpAny_pure q
theorem cmp_ne {Q : Value → Shared → Prop} {tb : Value} (hu : A.units + 2 < cLine) (X : K.In s.heap) (I : PySem.W.InstAt s.heap x ox C od) (hb : PySem.W.Looks (model prog w) s.heap (typeOf b) tb) (hn : PySem.W.notFirst K C tb = true) (ob : PySem.W.mroIn K C (.type "object") = some true)
    (hne : PySem.W.findIn K (.ref C) "__ne__" = some (some (.builtin "object.__ne__"))) (hs : PySem.W.findIn K (.ref C) "__eq__" = some (some (.ref f))) (hf : PySem.W.isFn K (.ref f) = true)
    (h : wpAny (model prog w) A.in1 (call (.ref f) [.ref x, b]) (fun v s' => ∃ r, v = .bool r ∧ Q (.bool (!r)) s') E s) : wpAny (model prog w) A (richCompare .NotEq (.ref x) b) Q E s := by
  have one : wpAny (model prog w) A (tryCompare (.ref x) "__ne__" b) (fun r s' => ∃ v, r = some v ∧ Q v s') E s := by
    unfold tryCompare
    refine wpAny_bind (ask_ne X I hne (run_ne (by omega) X I ob hs hf (wpAny_mono h (fun v s' z => ?_) fun _ _ z => z)))
    obtain ⟨r, rfl, q⟩ := z
    exact ⟨r, rfl, wpAny_pure ⟨_, rfl, q⟩⟩
  unfold richCompare
  simp only [oneThing_ref]
  apply wpAny_holding
  refine wpAny_bind (wpAny_cRoomFor (by omega) (wpAny_bind (I.type.here (wpAny_bind (hb.here ?_)))))
  have fin : ∀ {r : Option Value} {s' : Shared}, (∃ v, r = some v ∧ Q v s') → wpAny (model prog w) A (pure r) (fun r s' => ∃ v, r = some v ∧ Q v s') E s' := fun z => wpAny_pure z
  split
  · rename_i other
    have below : PySem.W.subIn K tb (.ref C) = some false := by
      rcases Bool.or_eq_true_iff.mp hn with z | z
      · rw [beq_iff_eq.mp z] at other
        simp at other
      · exact beq_iff_eq.mp z
    refine wpAny_bind ((PySem.W.looks_subIn X below).here ?_)
    simp only [Bool.false_eq_true, if_false]
    refine wpAny_bind (wpAny_mono one (fun r s' z => ?_) fun _ _ z => z)
    obtain ⟨v, rfl, q⟩ := z
    exact wpAny_pure q
  · refine wpAny_bind (wpAny_pure ?_)
    simp only [Bool.false_eq_true, if_false]
    refine wpAny_bind (wpAny_mono one (fun r s' z => ?_) fun _ _ z => z)
    obtain ⟨v, rfl, q⟩ := z
    exact wpAny_pure q
end
section
variable {X : Cx} {CX : CXT} {n : Nat} {f C : Addr} {fd : FuncData} {ps : List Str} {sp : Sp} {E : XK}
theorem op_neOwn (F : FnOk X.prog X.w X.K X.mg X.base CX n f fd ps sp) (hs : PySem.W.findIn X.K (.ref C) "__eq__" = some (some (.ref f))) (hf : PySem.W.isFn X.K (.ref f) = true) (hne : PySem.W.findIn X.K (.ref C) "__ne__" = some (some (.builtin "object.__ne__"))) (ob : PySem.W.mroIn X.K C (.type "object") = some true) (hb : Binds X.K fd ps []) (hx : Passes CX X E) (hr : Room (n + 1) X.A) :
    OpR X (compareOp .NotEq) (fun x y H Q => ∃ a dx fs t, x = V.ref a ∧ H a = some (.ins C dx fs) ∧ TyX X.K H y t ∧ PySem.W.notFirst X.K C t = true ∧ sp [V.ref a, y] H (fun v H' => ∃ b, v = .bl b ∧ Q (.bl (!b)) H') E) := by
  intro pins s σ H x y v u Q I rx ry h
  obtain ⟨a, dx, fs, t, rfl, ha, ty, nf, h⟩ := h
  cases rx
  obtain ⟨mA, J, _⟩ := ins_get I.hok ha
  obtain ⟨od, J, _⟩ := J.look
  obtain ⟨Pk, Z, pk, _⟩ := kit_of I ry ty
  refine cmp_ne (by have := hr.un; omega) I.kIn J (Z.ty _ _ I.kIn pk) nf ob hne hs hf ?_
  refine wpAny_mono (call_run (A := X.A.in1) ⟨hr.in1, rfl⟩ F hb hx I (.cons (show RelV (V.ref a) (Value.ref a) from rfl) (.cons ry .nil)) h) (fun v s' q => ?_) fun _ _ z => z
  obtain ⟨y', H', I', ry', b, rfl, q⟩ := q
  cases ry'
  exact ⟨b, rfl, .bl (!b), H', I', rfl, q⟩
end
end LR

/-! == of tuples and lists of things with an own __eq__: either answer -/
namespace LR
open PySem PySem.SeqAt
open AutoSeq1 (wpAny_loadPart')
open MeetsSeq MeetsSeq2 MeetsSeq3 SeqRoads2
section
variable {prog : Program} {w : World} {A : Around} {R : Result → Shared → Prop}
theorem tuple_eqB (l b : Addr) (items items2 : Array Value) (n n2 : Nat) (dd dd2 : Option Addr) (sl sl2 : Array (Option Value)) (f : Nat → Bool) (I : Shared → Prop)
    (turn : ∀ i (h1 : i < items.size) (h2 : i < items2.size) s, I s → wpAny (model prog w) A.in1 (eqBool items[i] items2[i]) (fun r s' => r = f i ∧ I s') (fun e s' => R (.error e) s') s)
    (res : Bool) (no : ∀ i, i < items.size → i < items2.size → f i = false → res = false) (yes : (∀ i, i < items.size → i < items2.size → f i = true) → res = (items.size == items2.size))
    (fin : ∀ s, I s → R (.ok (.ret (.bool res))) s) {s : Shared} (hl1 : s.heap.get? l = some { cls := .type "tuple", dict := dd, data := .seq items n, slots := sl }) (hb1 : s.heap.get? b = some { cls := .type "tuple", dict := dd2, data := .seq items2 n2, slots := sl2 }) (h : I s) :
    wpAny (model prog w) A.in1 (Builtin.«tuple.__eq__» ⟨[.ref l, .ref b], []⟩) (GQ.FinOf prog w A R) (fun e s' => R (.error e) s') s := by
  have f2 := AutoSeq1.sub_tuple_tuple
  have h0 := h
  have hZ : (items.toList.zip items2.toList).length = min items.size items2.size := by simp
  obtain ⟨hp, g, d, tk, os⟩ := s
  wp_walk using wpAny_loadPart' hl1, wpAny_loadPart' hb1, wpAny_forIn_list _ (fun rest b s' => b.1 = none ∧ ∃ i, rest = (items.toList.zip items2.toList).drop i ∧ (∀ j, j < i → f j = true) ∧ I s') _
  case turn =>
    rintro ⟨y, x⟩ rest b s' ⟨hb', i, hz, hi, hI⟩
    have hlt : i < (items.toList.zip items2.toList).length := by
      rcases Nat.lt_or_ge i (items.toList.zip items2.toList).length with h' | h'
      · exact h'
      · rw [List.drop_of_length_le h'] at hz; cases hz
    have h1 : i < items.size := by rw [hZ] at hlt; omega
    have h2 : i < items2.size := by rw [hZ] at hlt; omega
    rw [List.drop_eq_getElem_cons hlt] at hz
    injection hz with hyx hrest
    have hy : y = items[i] := by have := congrArg Prod.fst hyx; simpa using this
    have hx : x = items2[i] := by have := congrArg Prod.snd hyx; simpa using this
    subst hy hx
    refine wpAny_bind (wpAny_mono (turn i h1 h2 s' hI) (fun r s2 q2 => ?_) fun _ _ x => x)
    obtain ⟨hr, q2⟩ := q2
    subst hr
    cases hf : f i with
    | true =>
      wp_walk
      exact ⟨rfl, i + 1, hrest, fun j hj => by
        rcases Nat.lt_or_ge j i with q | q
        · exact hi j q
        · rw [show j = i by omega]; exact hf, q2⟩
    | false =>
      have hR : R (.ok (.ret (.bool res))) s2 := fin s2 q2
      rw [no i h1 h2 hf] at hR
      wp_walk
      exact hR
  case fin =>
    rintro ⟨b1, b2⟩ s' ⟨hb', i, hz, hi, hI⟩
    simp only at hb'
    subst hb'
    have hge : min items.size items2.size ≤ i := by
      rcases Nat.lt_or_ge i (items.toList.zip items2.toList).length with h' | h'
      · rw [List.drop_eq_getElem_cons h'] at hz; cases hz
      · exact hZ ▸ h'
    have hR : R (.ok (.ret (.bool res))) s' := fin s' hI
    rw [yes fun j h1 h2 => hi j (by omega)] at hR
    wp_walk
    simpa [Builtin.Tuple.tupleCompareSizes] using hR
  case h =>
    exact ⟨rfl, 0, rfl, fun j hj => absurd hj (Nat.not_lt_zero _), h0⟩
/-- at each turn the two lists are read anew -/
def ListB (l b : Addr) (N : Nat) (I : Shared → Prop) : Prop :=
  ∀ s, I s → ∃ (items items2 : Array Value) (n n2 : Nat), s.heap.get? l = some { cls := .type "list", data := .seq items n } ∧ s.heap.get? b = some { cls := .type "list", data := .seq items2 n2 } ∧ items.size = N ∧ items2.size = N
def TurnB (prog : Program) (w : World) (A : Around) (E : Value → Shared → Prop) (l b : Addr) (f : Nat → Bool) (I : Shared → Prop) : Prop :=
  ∀ s (items items2 : Array Value) (n n2 : Nat), I s → s.heap.get? l = some { cls := .type "list", data := .seq items n } → s.heap.get? b = some { cls := .type "list", data := .seq items2 n2 } →
    ∀ i (h1 : i < items.size) (h2 : i < items2.size), wpAny (model prog w) A.in1 (eqBool items[i] items2[i]) (fun r s' => r = f i ∧ I s') E s
theorem eq_loopB (l b : Addr) (N : Nat) (f : Nat → Bool) (I : Shared → Prop) (hl : ListB l b N I) (turn : TurnB prog w A (fun e s' => R (.error e) s') l b f I)
    (res : Bool) (no : ∀ i, i < N → f i = false → res = false) (yes : (∀ i, i < N → f i = true) → res = true)
    (fin : ∀ s, I s → R (.ok (.ret (.bool res))) s) (k : Nat) :
    ∀ i : Nat, N - i = k → i ≤ N → (∀ j, j < i → f j = true) → ∀ s, I s →
      wpAny (model prog w) A.in1 (Builtin.«list.__eq__.loop» ⟨[.ref l, .ref b, rawInt i, rawInt 2], []⟩) (GQ.FinOf prog w A R) (fun e s' => R (.error e) s') s := by
  induction k with
  | zero =>
    intro i hk hi hj s h
    obtain ⟨items, items2, n, n2, hl1, hb1, hs1, hs2⟩ := hl _ h
    have hi' : i = N := by omega
    have hR : R (.ok (.ret (.bool res))) s := fin s h
    rw [yes fun j q => hj j (by omega)] at hR
    obtain ⟨hp, g, d, tk, os⟩ := s
    wp_walk using wpAny_loadPart' hl1, wpAny_loadPart' hb1
    have hi1 : items[((i : Nat) : Int).toNat]? = none := by simp; omega
    have hi2 : items2[((i : Nat) : Int).toNat]? = none := by simp; omega
    rw [hi1, hi2]
    wp_walk using wpAny_loadPart' hl1, wpAny_loadPart' hb1
    show R (.ok (.ret (.bool (items.size == items2.size)))) _
    rw [hs1, hs2]
    simpa using hR
  | succ k ih =>
    intro i hk hi hj s h
    obtain ⟨items, items2, n, n2, hl1, hb1, hs1, hs2⟩ := hl _ h
    have hlt : i < items.size := by omega
    have hlt2 : i < items2.size := by omega
    have ht := turn s items items2 n n2 h hl1 hb1 i hlt hlt2
    obtain ⟨hp, g, d, tk, os⟩ := s
    wp_walk using wpAny_loadPart' hl1, wpAny_loadPart' hb1
    have hi1 : items[((i : Nat) : Int).toNat]? = some items[i] := by simp [hlt]
    have hi2 : items2[((i : Nat) : Int).toNat]? = some items2[i] := by simp [hlt2]
    have hc : ((i : Int) + 1) = ((i + 1 : Nat) : Int) := by omega
    rw [hi1, hi2]
    refine wpAny_bind (wpAny_mono ht (fun r s2 h2 => ?_) fun _ _ x => x)
    obtain ⟨hr, h2⟩ := h2
    subst hr
    cases hf : f i with
    | true =>
      have hrec := ih (i + 1) (by omega) (by omega) (fun j q => by
        rcases Nat.lt_or_ge j i with q' | q'
        · exact hj j q'
        · rw [show j = i by omega]; exact hf) s2 h2
      obtain ⟨hp2, g2, d2, tk2, os2⟩ := s2
      wp_walk
      rw [hc]
      exact ⟨plainId_quiet plain_eq_loop _, codeAny_builtin entry_eq_loop (by
        rw [Around.under_plainId plain_eq_loop _]
        exact hrec)⟩
    | false =>
      have hR : R (.ok (.ret (.bool res))) s2 := fin s2 h2
      rw [no i (by omega) hf] at hR
      obtain ⟨items', items2', n', n2', hl1', hb1', hs1', hs2'⟩ := hl _ h2
      obtain ⟨hp2, g2, d2, tk2, os2⟩ := s2
      wp_walk using wpAny_loadPart' hl1', wpAny_loadPart' hb1'
      have hi1' : items'[((i : Nat) : Int).toNat]? = some (items'[i]'(by omega)) := by simp
      have hi2' : items2'[((i : Nat) : Int).toNat]? = some (items2'[i]'(by omega)) := by simp
      rw [hi1', hi2']
      wp_walk
      exact hR
theorem list_eqB (l b : Addr) (N : Nat) (f : Nat → Bool) (I : Shared → Prop) (hl : ListB l b N I) (turn : TurnB prog w A (fun e s' => R (.error e) s') l b f I)
    (res : Bool) (no : ∀ i, i < N → f i = false → res = false) (yes : (∀ i, i < N → f i = true) → res = true)
    (fin : ∀ s, I s → R (.ok (.ret (.bool res))) s) {s : Shared} (h : I s) :
    wpAny (model prog w) A.in1 (Builtin.«list.__eq__» ⟨[.ref l, .ref b], []⟩) (GQ.FinOf prog w A R) (fun e s' => R (.error e) s') s := by
  obtain ⟨items, items2, n, n2, hl1, hb1, hs1, hs2⟩ := hl _ h
  have hrec := eq_loopB (A := A) (R := R) l b N f I hl turn res no yes fin _ 0 rfl (Nat.zero_le _) (fun j q => absurd q (Nat.not_lt_zero _)) s h
  obtain ⟨hp, g, d, tk, os⟩ := s
  have f3 := AutoSeq1.sub_list_list
  have hne : ¬ (items.size != items2.size) = true := by simp [hs1, hs2]
  wp_walk using wpAny_loadPart' hl1, wpAny_loadPart' hb1
  exact ⟨plainId_quiet plain_eq_loop _, codeAny_builtin entry_eq_loop (by
    rw [Around.under_plainId plain_eq_loop _]
    exact hrec)⟩
theorem list_lenB (l b : Addr) (items items2 : Array Value) (n n2 : Nat) (hne : items.size ≠ items2.size) {s : Shared} (hl1 : s.heap.get? l = some { cls := .type "list", data := .seq items n }) (hb1 : s.heap.get? b = some { cls := .type "list", data := .seq items2 n2 })
    (fin : R (.ok (.ret (.bool false))) s) :
    wpAny (model prog w) A.in1 (Builtin.«list.__eq__» ⟨[.ref l, .ref b], []⟩) (GQ.FinOf prog w A R) (fun e s' => R (.error e) s') s := by
  obtain ⟨hp, g, d, tk, os⟩ := s
  have f3 := AutoSeq1.sub_list_list
  have hne' : (items.size != items2.size) = true := by simp [hne]
  wp_walk using wpAny_loadPart' hl1, wpAny_loadPart' hb1
  exact fin
end
section
variable {prog : Program} {w : World} {A : Around} {E : Value → Shared → Prop} {s : Shared}
theorem rc_tupB {l b : Addr} {items items2 : Array Value} {Q : Value → Shared → Prop} (hu : A.units < cLine) (f : Nat → Bool) (I : Shared → Prop)
    (hl : s.heap.IsTuple l items) (hb : s.heap.IsTuple b items2)
    (turn : ∀ i (h1 : i < items.size) (h2 : i < items2.size) s, I s → wpAny (model prog w) A.in1 (eqBool items[i] items2[i]) (fun r s' => r = f i ∧ I s') E s)
    (res : Bool) (no : ∀ i, i < items.size → i < items2.size → f i = false → res = false) (yes : (∀ i, i < items.size → i < items2.size → f i = true) → res = (items.size == items2.size))
    (fin : ∀ s, I s → Q (.bool res) s) (h : I s) : wpAny (model prog w) A (richCompare .Eq (.ref l) (.ref b)) Q E s := by
  obtain ⟨⟨cls, dd, data, sl⟩, ho, hc, n, hd⟩ := id hl
  obtain ⟨⟨cls2, dd2, data2, sl2⟩, ho2, hc2, n2, hd2⟩ := id hb
  simp only at hc hd hc2 hd2
  subst hc hd hc2 hd2
  refine wpAny_richCompare_same_room (op := .Eq) ⟨_, ho, rfl⟩ ⟨_, ho2, rfl⟩ F.slot_tuple_eq (GQ.call_here F.slot_tuple_eq ⟨_, ho, rfl⟩ F.entry_tuple_eq (F.args_tuple_eq_2 _ _) ?_) hu
  exact tuple_eqB (R := wants (fun v s' => v ≠ .notImplemented ∧ Q v s') E) l b items items2 n n2 dd dd2 sl sl2 f I turn res no yes (fun s' q => ⟨(fun x => nomatch x), fin s' q⟩) ho ho2 h
theorem rc_listB {l b : Addr} {N : Nat} {Q : Value → Shared → Prop} (hu : A.units < cLine) (f : Nat → Bool) (I : Shared → Prop) (hl : ListB l b N I) (turn : TurnB prog w A E l b f I)
    (res : Bool) (no : ∀ i, i < N → f i = false → res = false) (yes : (∀ i, i < N → f i = true) → res = true)
    (fin : ∀ s, I s → Q (.bool res) s) (h : I s) : wpAny (model prog w) A (richCompare .Eq (.ref l) (.ref b)) Q E s := by
  obtain ⟨items, items2, n, n2, hl1, hb1, _, _⟩ := hl _ h
  refine wpAny_richCompare_same_room (op := .Eq) ⟨_, hl1, rfl⟩ ⟨_, hb1, rfl⟩ F.slot_list_eq (GQ.call_here F.slot_list_eq ⟨_, hl1, rfl⟩ F.entry_list_eq (F.args_list_eq_2 _ _) ?_) hu
  exact list_eqB (R := wants (fun v s' => v ≠ .notImplemented ∧ Q v s') E) l b N f I hl turn res no yes (fun s' q => ⟨(fun x => nomatch x), fin s' q⟩) h
theorem rc_listL {l b : Addr} {items items2 : Array Value} {n n2 : Nat} {Q : Value → Shared → Prop} (hu : A.units < cLine) (hne : items.size ≠ items2.size) (hl1 : s.heap.get? l = some { cls := .type "list", data := .seq items n }) (hb1 : s.heap.get? b = some { cls := .type "list", data := .seq items2 n2 })
    (fin : Q (.bool false) s) : wpAny (model prog w) A (richCompare .Eq (.ref l) (.ref b)) Q E s := by
  refine wpAny_richCompare_same_room (op := .Eq) ⟨_, hl1, rfl⟩ ⟨_, hb1, rfl⟩ F.slot_list_eq (GQ.call_here F.slot_list_eq ⟨_, hl1, rfl⟩ F.entry_list_eq (F.args_list_eq_2 _ _) ?_) hu
  exact list_lenB (R := wants (fun v s' => v ≠ .notImplemented ∧ Q v s') E) l b items items2 n n2 hne hl1 hb1 ⟨(fun x => nomatch x), fin⟩
theorem eqBool_refB {l b : Addr} {Q : Bool → Shared → Prop} (hne : l ≠ b) (h : wpAny (model prog w) A (richCompare .Eq (.ref l) (.ref b)) (fun v s' => ∃ r, v = .bool r ∧ Q r s') E s) : wpAny (model prog w) A (eqBool (.ref l) (.ref b)) Q E s := GQ.eqBool_refG hne h
end
end LR
namespace LR
open PySem PySem.Spec PyProof.Rows L2
/-- how == of two values comes out, by the abstract heap -/
abbrev EqvB := V → V → Bool → Hp → Prop
def MonB (D : EqvB) : Prop := ∀ x y b H H', Ext H H' → D x y b H → D x y b H'
def EqGB (X : Cx) (n : Nat) (D : EqvB) : Prop :=
  ∀ (A : Around) (pins : List (Addr × Obj)) (s : Shared) (σ : L2.St) (H : Hp) (x y : V) (b : Bool) (u v : Value), Sub X n A → Inv X pins σ H s → RelV x u → RelV y v → D x y b H →
    wpAny (model X.prog X.w) A (eqBool u v) (fun r s' => r = b ∧ ∃ H', Inv X pins σ H' s' ∧ Ext H H') X.xe s
def RcGB (X : Cx) (n : Nat) (D : EqvB) : Prop :=
  ∀ (A : Around) (pins : List (Addr × Obj)) (s : Shared) (σ : L2.St) (H : Hp) (x y : V) (b : Bool) (u v : Value), Sub X n A → Inv X pins σ H s → RelV x u → RelV y v → D x y b H →
    wpAny (model X.prog X.w) A (richCompare .Eq u v) (fun r s' => r = .bool b ∧ ∃ H', Inv X pins σ H' s' ∧ Ext H H') X.xe s
section
variable {X : Cx} {n m : Nat} {D D' : EqvB}
theorem EqGB.mono (h : EqGB X n D) (hn : n ≤ m) : EqGB X m D := fun A pins s σ H x y b u v sb => h A pins s σ H x y b u v (sb.mono hn)
theorem RcGB.mono (h : RcGB X n D) (hn : n ≤ m) : RcGB X m D := fun A pins s σ H x y b u v sb => h A pins s σ H x y b u v (sb.mono hn)
theorem EqGB.or (h : EqGB X n D) (h' : EqGB X n D') : EqGB X n (fun x y b H => D x y b H ∨ D' x y b H) := fun A pins s σ H x y b u v sb I rx ry d => d.elim (fun d => h A pins s σ H x y b u v sb I rx ry d) fun d => h' A pins s σ H x y b u v sb I rx ry d
theorem RcGB.or (h : RcGB X n D) (h' : RcGB X n D') : RcGB X n (fun x y b H => D x y b H ∨ D' x y b H) := fun A pins s σ H x y b u v sb I rx ry d => d.elim (fun d => h A pins s σ H x y b u v sb I rx ry d) fun d => h' A pins s σ H x y b u v sb I rx ry d
/-- flat values -/
def DFlatB : EqvB := fun x y b _ => flatV x = true ∧ flatV y = true ∧ eqV x y = b
theorem mon_flatB : MonB DFlatB := fun _ _ _ _ _ _ d => d
theorem eqGB_flat : EqGB X 0 DFlatB := by
  intro A pins s σ H x y b u v sb I rx ry d
  obtain ⟨fx, fy, e⟩ := d
  have q := eqAt_V (A := A) (s := s) rx ry fx fy
  rw [e] at q
  exact q X.prog X.w X.xe _ ⟨rfl, H, I, Ext.rfl'⟩
/-- item by item -/
def PrsB (D : EqvB) (xs ys : List V) (f : Nat → Bool) (H : Hp) : Prop := ∀ (i : Nat) x y, xs[i]? = some x → ys[i]? = some y → D x y (f i) H
theorem PrsB.mon (hD : MonB D) {xs ys : List V} {f : Nat → Bool} {H H' : Hp} (e : Ext H H') (p : PrsB D xs ys f H) : PrsB D xs ys f H' := fun i x y h1 h2 => hD x y _ H H' e (p i x y h1 h2)
def ansB (xs ys : List V) (f : Nat → Bool) : Bool := (List.range (min xs.length ys.length)).all f && (xs.length == ys.length)
theorem ansB_no {xs ys : List V} {f : Nat → Bool} {i : Nat} (h1 : i < xs.length) (h2 : i < ys.length) (h : f i = false) : ansB xs ys f = false := by
  unfold ansB
  rw [Bool.and_eq_false_iff]
  left
  rw [List.all_eq_false]
  exact ⟨i, List.mem_range.mpr (by omega), by rw [h]; decide⟩
theorem ansB_yes {xs ys : List V} {f : Nat → Bool} (h : ∀ i, i < xs.length → i < ys.length → f i = true) : ansB xs ys f = (xs.length == ys.length) := by
  unfold ansB
  have : (List.range (min xs.length ys.length)).all f = true := by
    rw [List.all_eq_true]
    intro i hi
    have := List.mem_range.mp hi
    exact h i (by omega) (by omega)
  rw [this, Bool.true_and]
/-- what the loop over the items keeps -/
theorem turnB (hD : MonB D) (h : EqGB X n D) {A : Around} (sb : Sub X (n + 1) A) {pins : List (Addr × Obj)} {σ : L2.St} {H : Hp} {xs ys : List V} {f : Nat → Bool} {its its2 : List Value} (p : PrsB D xs ys f H) (r : Vals xs its) (r2 : Vals ys its2)
    (i : Nat) (h1 : i < its.toArray.size) (h2 : i < its2.toArray.size) (s' : Shared) (l : LoopI X pins σ H s') :
    wpAny (model X.prog X.w) A.in1 (eqBool its.toArray[i] its2.toArray[i]) (fun r s2 => r = f i ∧ LoopI X pins σ H s2) X.xe s' := by
  obtain ⟨H1, I1, e1⟩ := l
  have g1 : its[i]? = some its.toArray[i] := by
    have h1' : i < its.length := by simpa using h1
    rw [List.getElem?_eq_getElem h1'] <;> simp
  have g2 : its2[i]? = some its2.toArray[i] := by
    have h2' : i < its2.length := by simpa using h2
    rw [List.getElem?_eq_getElem h2'] <;> simp
  have k1 : i < xs.length := by rw [r.length]; simpa using h1
  have k2 : i < ys.length := by rw [r2.length]; simpa using h2
  obtain ⟨u, hu, ru⟩ := r.get (List.getElem?_eq_getElem k1)
  obtain ⟨v, hv, rv⟩ := r2.get (List.getElem?_eq_getElem k2)
  rw [g1] at hu
  rw [g2] at hv
  rw [Option.some.inj hu, Option.some.inj hv]
  refine wpAny_mono (h A.in1 pins s' σ H1 _ _ _ u v sb.in1 I1 ru rv (hD _ _ _ _ _ e1 (p i _ _ (List.getElem?_eq_getElem k1) (List.getElem?_eq_getElem k2)))) (fun r s2 q => ?_) fun _ _ x => x
  obtain ⟨hr, H2, I2, e2⟩ := q
  exact ⟨hr, H2, I2, e1.trans e2⟩
def DTupB (K : PySem.W.Frag) (D : EqvB) : EqvB := fun x y r H => ∃ a b xs ys f, x = .ref a ∧ y = .ref b ∧ SqT K H a xs ∧ SqT K H b ys ∧ PrsB D xs ys f H ∧ r = ansB xs ys f
def DListB (D : EqvB) : EqvB := fun x y r H => ∃ a b xs ys f, x = .ref a ∧ y = .ref b ∧ H a = some (.lst xs) ∧ H b = some (.lst ys) ∧ (xs.length = ys.length → PrsB D xs ys f H) ∧ r = ansB xs ys f
theorem mon_tupB {K : PySem.W.Frag} (hD : MonB D) : MonB (DTupB K D) := fun x y r H H' e d => by
  obtain ⟨a, b, xs, ys, f, hx, hy, h1, h2, p, hr⟩ := d
  exact ⟨a, b, xs, ys, f, hx, hy, h1.ext e, h2.ext e, p.mon hD e, hr⟩
theorem mon_listB (hD : MonB D) : MonB (DListB D) := fun x y r H H' e d => by
  obtain ⟨a, b, xs, ys, f, hx, hy, h1, h2, p, hr⟩ := d
  exact ⟨a, b, xs, ys, f, hx, hy, e _ _ h1, e _ _ h2, fun l => (p l).mon hD e, hr⟩
theorem rcGB_tup (hD : MonB D) (h : EqGB X n D) : RcGB X (n + 1) (DTupB X.K D) := by
  intro A pins s σ H x y r u v sb I rx ry d
  obtain ⟨a, b, xs, ys, f, rfl, rfl, ha, hb, p, rfl⟩ := d
  cases rx
  cases ry
  obtain ⟨its, r, e, z⟩ := I.tuple ha
  obtain ⟨its2, r2, e2, z2⟩ := I.tuple hb
  have l1 : its.toArray.size = xs.length := by rw [List.size_toArray, ← r.length]
  have l2 : its2.toArray.size = ys.length := by rw [List.size_toArray, ← r2.length]
  exact rc_tupB sb.room.units0 f (fun s' => LoopI X pins σ H s') e e2 (fun i h1 h2 s' q => turnB hD h sb p r r2 i h1 h2 s' q) (ansB xs ys f) (fun i h1 h2 q => ansB_no (by omega) (by omega) q) (fun q => by rw [l1, l2]; exact ansB_yes fun i h1 h2 => q i (by omega) (by omega)) (fun s' q => ⟨rfl, q⟩) ⟨H, I, Ext.rfl'⟩
theorem rcGB_list (hD : MonB D) (h : EqGB X n D) : RcGB X (n + 1) (DListB D) := by
  intro A pins s σ H x y r u v sb I rx ry d
  obtain ⟨a, b, xs, ys, f, rfl, rfl, ha, hb, p, rfl⟩ := d
  cases rx
  cases ry
  by_cases hl : xs.length = ys.length
  · have key : ∀ s', LoopI X pins σ H s' → ∃ (its its2 : List Value) (k k2 : Nat), Vals xs its ∧ Vals ys its2 ∧ s'.heap.get? a = some { cls := .type "list", data := .seq its.toArray k } ∧ s'.heap.get? b = some { cls := .type "list", data := .seq its2.toArray k2 } := by
      rintro s' ⟨H1, I1, e1⟩
      obtain ⟨z, its, k, r, e⟩ := I1.hok a _ (e1 _ _ ha)
      obtain ⟨z2, its2, k2, r2, e2⟩ := I1.hok b _ (e1 _ _ hb)
      exact ⟨its, its2, k, k2, r, r2, e, e2⟩
    refine rc_listB (N := xs.length) sb.room.units0 f (fun s' => LoopI X pins σ H s') (fun s' q => ?_) (fun s' items items2 n1 n2 q g1 g2 i h1 h2 => ?_) (ansB xs ys f) (fun i h1 q => ansB_no h1 (by omega) q) (fun q => by rw [ansB_yes fun i h1 h2 => q i h1, hl]; simp) (fun s' q => ⟨rfl, q⟩) ⟨H, I, Ext.rfl'⟩
    · obtain ⟨its, its2, k, k2, r, r2, e, e2⟩ := key s' q
      exact ⟨its.toArray, its2.toArray, k, k2, e, e2, by rw [List.size_toArray, ← r.length], by rw [List.size_toArray, ← r2.length, ← hl]⟩
    · obtain ⟨its, its2, k, k2, r, r2, e, e2⟩ := key s' q
      rw [g1] at e
      rw [g2] at e2
      obtain ⟨rfl⟩ : items = its.toArray := by injection e with e; injection e with _ _ e; injection e
      obtain ⟨rfl⟩ : items2 = its2.toArray := by injection e2 with e; injection e with _ _ e; injection e
      exact turnB hD h sb (p hl) r r2 i h1 h2 s' q
  · obtain ⟨z, its, k, r, e⟩ := I.hok a _ ha
    obtain ⟨z2, its2, k2, r2, e2⟩ := I.hok b _ hb
    have ans : ansB xs ys f = false := by
      unfold ansB
      rw [show (xs.length == ys.length) = false by simpa using hl, Bool.and_false]
    rw [ans]
    refine rc_listL sb.room.units0 ?_ e e2 ⟨rfl, H, I, Ext.rfl'⟩
    rw [List.size_toArray, List.size_toArray, ← r.length, ← r2.length]
    exact hl
/-- objects of an own class with an own == -/
def DInsB (C : Addr) (R : Addr → Addr → Bool → Hp → Prop) : EqvB := fun x y r H => ∃ a b dx dy fs gs, x = .ref a ∧ y = .ref b ∧ H a = some (.ins C dx fs) ∧ H b = some (.ins C dy gs) ∧ R a b r H
theorem mon_insB {C : Addr} {R : Addr → Addr → Bool → Hp → Prop} (hR : ∀ a b r H H', Ext H H' → R a b r H → R a b r H') : MonB (DInsB C R) := fun x y r H H' e d => by
  obtain ⟨a, b, dx, dy, fs, gs, hx, hy, h1, h2, q⟩ := d
  exact ⟨a, b, dx, dy, fs, gs, hx, hy, e _ _ h1, e _ _ h2, hR a b r H H' e q⟩
/-- what such an own == promises -/
def spEqR (R : Addr → Addr → Bool → Hp → Prop) : Sp := fun vs H Q _ => ∃ a b r, vs = [.ref a, .ref b] ∧ R a b r H ∧ ∀ H', Ext H H' → Q (.bl r) H'
theorem rcGB_ins {CX : CXT} {C f : Addr} {fd : FuncData} {ps : List Str} {R : Addr → Addr → Bool → Hp → Prop} {E : XK} (F : FnOk X.prog X.w X.K X.mg X.base CX n f fd ps (spEqR R))
    (hs : PySem.W.findIn X.K (.ref C) "__eq__" = some (some (.ref f))) (hf : PySem.W.isFn X.K (.ref f) = true) (hb : Binds X.K fd ps []) (hx : Passes CX X E) : RcGB X n (DInsB C R) := by
  intro A pins s σ H x y r u v sb I rx ry d
  obtain ⟨a, b, dx, dy, fs, gs, rfl, rfl, ha, hb', hr⟩ := d
  cases rx
  cases ry
  obtain ⟨mA, J, _⟩ := ins_get I.hok ha
  obtain ⟨mB, J', _⟩ := ins_get I.hok hb'
  obtain ⟨od, J, _⟩ := J.look
  obtain ⟨od', J', _⟩ := J'.look
  obtain ⟨m, hF⟩ := I.fr
  refine PySem.W.cmp_K (op := .Eq) (tb := .ref C) sb.room.units0 hF I.ok.mod.kin J J'.type (by simp [PySem.W.notFirst]) hs hf ?_
  have hsp : spEqR R [.ref a, .ref b] H (fun v H' => v = .bl r ∧ Ext H H') E := ⟨a, b, r, rfl, hr, fun H' e => ⟨rfl, e⟩⟩
  refine wpAny_mono (call_run (A := A) sb F hb hx I (.cons (show RelV (V.ref a) (Value.ref a) from rfl) (.cons (show RelV (V.ref b) (Value.ref b) from rfl) .nil)) hsp) (fun v s' q => ?_) fun _ _ z => z
  obtain ⟨y, H', I', ry, rfl, e⟩ := q
  cases ry
  exact ⟨rfl, H', I', e⟩
theorem RcGB.eqG (h : RcGB X n D) (hr : ∀ x y r H, D x y r H → ∃ a b, x = .ref a ∧ y = .ref b ∧ (a = b → r = true)) : EqGB X n D := by
  intro A pins s σ H x y r u v sb I rx ry d
  obtain ⟨a, b, rfl, rfl, ht⟩ := hr _ _ _ _ d
  cases rx
  cases ry
  by_cases hab : a = b
  · have rt := ht hab
    subst hab
    subst rt
    exact SeqAt.EqAt.same (A := A) (s := s) (.ref a) X.prog X.w X.xe _ ⟨rfl, H, I, Ext.rfl'⟩
  · refine GQ.eqBool_refG hab (wpAny_mono (h A pins s σ H (.ref a) (.ref b) _ _ _ sb I rfl rfl d) (fun r' s' q => ?_) fun _ _ x => x)
    obtain ⟨hr', q⟩ := q
    exact ⟨r, hr', rfl, q⟩
/-- x == y as an expression -/
def rEqGB (D : EqvB) : R2 := fun x y H Q => ∃ b, D x y b H ∧ ∀ H', Ext H H' → Q (.bl b) H'
theorem op_eqGB (h : RcGB X n D) (hr : Room n X.A) : OpR X (compareOp .Eq) (rEqGB D) := by
  intro pins s σ H x y v u Q I rx ry hq
  obtain ⟨b, d, q⟩ := hq
  show wpAny (model X.prog X.w) X.A (richCompare .Eq v u) (EP X pins σ Q) X.xe s
  refine wpAny_mono (h X.A pins s σ H x y b v u ⟨hr, rfl⟩ I rx ry d) (fun r s' z => ?_) fun _ _ x => x
  obtain ⟨hr', H', I', e⟩ := z
  subst hr'
  exact ⟨.bl b, H', I', rfl, q H' e⟩
end
end LR

namespace LK
open PySem PySem.Spec PyProof.Rows L2 LR
/-! ### generic: values seen, errors made and caught -/
/-- whether a value is a text is known -/
def Seen (K : PySem.W.Frag) (H : Hp) (v : V) : Prop := (∃ z : Str, v = .str z ∧ z.length ≤ 1000) ∨ ((∀ z, v ≠ .str z) ∧ ∃ t, TyX K H v t ∧ PySem.W.kitOne K t (.type "str") = some false)
def spE0 (C : Addr) (x : Str) : Sp := fun vs H Q _ => ∃ (a : Addr) (v : V), vs = [.ref a, v] ∧ H a = some (exo a C none) ∧ ∀ dx, H dx = none → dx ≠ a → Q .non (upd (upd H dx (exd dx [(x, v)])) a (exo a C (some dx)))
theorem errX {C : Addr} {x : Str} {H : Hp} {v : V} {R : Addr → Hp → Prop} (q : ∀ d H', Same H H' → H' d = some (.xd [(x, v)]) → H d = none → R d H') : ([v] : List V).length ≤ 1000 ∧ ∀ a, H a = none → spE0 C x (.ref a :: ([v] ++ [])) (upd H a (exo a C none))
    (fun u H2 => u = .non ∧ ∃ (d : Addr) (fs : List (Str × V)), H2 a = some (exo a C (some d)) ∧ H2 d = some (exd d fs) ∧ H d = none ∧ R d (upd (L2.del H2 a) d (.xd fs))) (fun _ _ _ => False) := by
  refine ⟨by show 1 ≤ 1000; decide, fun a ha => ⟨a, v, rfl, upd_same, fun dx hdx ne => ?_⟩⟩
  have hd : H dx = none := by
    rw [upd_ne ne] at hdx
    exact hdx
  refine ⟨rfl, dx, [(x, v)], upd_same, by rw [upd_ne ne]; exact upd_same, hd, q dx _ (fun b o e => ?_) upd_same hd⟩
  have n1 : b ≠ a := ne_of_none e ha
  have n2 : b ≠ dx := ne_of_none e hd
  rw [upd_ne n2, del_ne n1, upd_ne n1, upd_ne n2, upd_ne n1]
  exact e
theorem Seen.same {K : PySem.W.Frag} {H H' : Hp} {v : V} (s : Same H H') (t : ∀ t, TyX K H v t → TyX K H' v t) (h : Seen K H v) : Seen K H' v := by
  rcases h with h | ⟨no, u, ty, k⟩
  · exact .inl h
  · exact .inr ⟨no, u, t u ty, k⟩
theorem TyX.same {K : PySem.W.Frag} {H H' : Hp} {v : V} {t : Value} (s : Same H H') (h : TyX K H v t) : TyX K H' v t := by
  cases h with
  | base h =>
    refine .base ?_
    cases h with
    | non => exact .non
    | bl b => exact .bl b
    | int i => exact .int i
    | str z => exact .str z
    | flt f => exact .flt f
    | lst e => exact .lst (s _ _ e)
    | frz e => exact .frz (s _ _ e)
    | tup e => exact .tup (s _ _ e)
    | dK e => exact .dK (s _ _ e)
    | dT e => exact .dT (s _ _ e)
    | ins e cl ha hn htk hm => exact .ins (s _ _ e) cl ha hn htk hm
  | byt b => exact .byt b
  | set e => exact .set (s _ _ e)
  | kList e c => exact .kList e c
  | kTuple e c => exact .kTuple e c
  | kDict e c => exact .kDict e c
  | fTuple e => exact .fTuple (s _ _ e)
  | fDict e => exact .fDict (s _ _ e)
theorem seen_same {K : PySem.W.Frag} {H H' : Hp} {v : V} (s : Same H H') (h : Seen K H v) : Seen K H' v := Seen.same s (fun _ t => TyX.same s t) h
section
variable {P : Program} {w : World} {K : PySem.W.Frag} {mg : Str → Option Value} {base : Heap}
theorem ok_err0X {C f : Addr} {fd : FuncData} (e : Er K mg 0 C f fd) : FnOk P w K mg base CX0 1 f fd ["self", "word"] (spE0 C "word") := by
  refine e.F.ok scErr0 (fun vs H Q E h => ?_) (fun cdv A outer s H vs Q E hr h => ?_)
  · obtain ⟨_, _, rfl, _⟩ := h
    rfl
  · obtain ⟨a, v, rfl, ha, q⟩ := h
    exact ⟨_, pss_one (ps_ost (pv 0) (pv 1)), _, rfl, _, rfl, a, C, rfl, e.T, e.no, .inl ⟨ha, q⟩⟩
theorem ok_err1X {C f : Addr} {fd : FuncData} (e : Er K mg 1 C f fd) : FnOk P w K mg base CX0 1 f fd ["self", "word"] (spE0 C "word") := by
  refine e.F.ok scErr1 (fun vs H Q E h => ?_) (fun cdv A outer s H vs Q E hr h => ?_)
  · obtain ⟨_, _, rfl, _⟩ := h
    rfl
  · obtain ⟨a, v, rfl, ha, q⟩ := h
    exact ⟨_, pss_one (ps_ost (pv 0) (pv 1)), _, rfl, _, rfl, a, C, rfl, e.T, e.no, .inl ⟨ha, q⟩⟩
theorem ok_err2X {C f : Addr} {fd : FuncData} (e : Er K mg 2 C f fd) : FnOk P w K mg base CX0 1 f fd ["self", "word"] (spE0 C "word") := by
  refine e.F.ok scErr2 (fun vs H Q E h => ?_) (fun cdv A outer s H vs Q E hr h => ?_)
  · obtain ⟨_, _, rfl, _⟩ := h
    rfl
  · obtain ⟨a, v, rfl, ha, q⟩ := h
    exact ⟨_, pss_one (ps_ost (pv 0) (pv 1)), _, rfl, _, rfl, a, C, rfl, e.T, e.no, .inl ⟨ha, q⟩⟩
theorem ok_err3X {C f : Addr} {fd : FuncData} (e : Er K mg 3 C f fd) : FnOk P w K mg base CX0 1 f fd ["self", "word"] (spE0 C "word") := by
  refine e.F.ok scErr3 (fun vs H Q E h => ?_) (fun cdv A outer s H vs Q E hr h => ?_)
  · obtain ⟨_, _, rfl, _⟩ := h
    rfl
  · obtain ⟨a, v, rfl, ha, q⟩ := h
    exact ⟨_, pss_one (ps_ost (pv 0) (pv 1)), _, rfl, _, rfl, a, C, rfl, e.T, e.no, .inl ⟨ha, q⟩⟩
end
/-- nothing may leave -/
theorem tk0 {X : Cx} : L2N.Takes X (fun _ _ _ _ => False) := fun u s' x => by
  obtain ⟨a, B, sI, pins, σ, H, cls, d, e, I, nb, up, sky, na, os, ag, w⟩ := x
  exact w.elim
/-- _law_refused(n), n the handled error -/
def tRefE (K : PySem.W.Frag) (C : Nat → Addr) (a : Addr) (cls : Value) (d : Option Addr) (i : Nat) : TE := fun σ H Q => tVar i σ H fun v H1 => v = .ref a ∧ ∃ (D : Addr) (b : Nat → Bool), cls = .ref D ∧ DictX H1 d ∧ ExcC K D ∧ (∀ j, j < 12 → PySem.W.kitOne K (.ref D) (.ref (C j)) = some (b j)) ∧
  ∀ p H', Same H1 H' → H' p = some (.lst ((ix ((List.range 12).map b) 0).map V.int)) → Q (.ref p) H'
theorem hot_of {A : Around} {a : Addr} {oe : Obj} {cls : Value} {d : Option Addr} (h : A.handled = some (.ref a)) (z : L2N.Zn cls d oe) (f : ∃ vs, oe.data = .fields vs) : L2H.Hot1 A (a, oe) := by
  obtain ⟨vs, hv⟩ := f
  exact ⟨h, vs, hv, z.2.2 vs hv⟩
theorem pe_refE {X : Cx} {C : Nat → Addr} {k i : Nat} {f a : Addr} {oe : Obj} {fd : FuncData} {x n : Str} {q np pos : Pos} {cls : Value} {d : Option Addr} (F : FnE X.prog X.w X.K X.mg X.base k f fd ["_law_e"] (spRefE X.K C)) (room : L2H.RoomH k X.A) (hot : L2H.Hot1 X.A (a, oe)) (mem : (a, oe) ∈ X.pn) (z : Zc cls d oe) (fl : ∃ vs, oe.data = .fields vs)
    (hm : X.mg x = some (.ref f)) (kp : PySem.W.keepIn X.K (.ref f) = true) (bind : Binds X.K fd ["_law_e"] []) (hg : Gl X x := by rfl) (hN : X.N[i]? = some n := by rfl) (hv : Vis X.env.scope n := by first | exact Or.inl rfl | exact Or.inr (Or.inl rfl)) (dn : (n == ("__debug__" : Str)) = false := by decide) (dn2 : (n == ("__classdict__" : Str)) = false := by decide) (dbg : (x == ("__debug__" : Str)) = false := by decide)
    (he : starEach [.Name n np] X.env = (false, eval (.Name n np) X.env) :: starEach [] X.env := by rfl) (plain : (backTo pos (starEach [] X.env)).any (·.1) = false := by rfl) : PE X (.Call (.Name x q) [.Name n np] [] pos) (tRefE X.K C a cls d i) := by
  refine ⟨fun pins s σ H Q I h => (pe_callE F room hot mem hg hm kp bind (pa_cons (pe_var hN hv dn dn2) pa_nil he) dbg he plain).run pins s σ H Q I ?_⟩
  obtain ⟨v, ev, rfl, D, b, rfl, dx, ec, kk, q⟩ := h
  exact ⟨_, ev, D, d, b, rfl, z, fl, dx, ec, kk, q⟩
theorem ix_one : ∀ i, i < 12 → ix ((List.range 12).map fun j => decide (i = j)) 0 = [(i : Int)] := by decide +kernel
theorem dp_one {K : PySem.W.Frag} {H : Hp} {p : Addr} {i : Int} (h : H p = some (.lst [.int i])) : Dp K H (.ref p) (.list [.int i]) := .lst (SqL.of h) (.cons (.int i) .nil)
/-! ### a drawn value: whether it is a text is known -/
theorem seen_of_leaf {K : PySem.W.Frag} {mg : Str → Option Value} {k : Kinds} {eS eE eT eC : Addr} {dS dE dT dC : FuncData} {H : Hp} {v : V} (k' : Kin K mg k eS eE eT eC dS dE dT dC) (h : Leaf K k H v) : Seen K H v := by
  cases h with
  | non => exact .inr ⟨(fun z e => by cases e), _, .base .non, kit_ty (by decide +kernel)⟩
  | bl b => exact .inr ⟨(fun z e => by cases e), _, .base (.bl b), kit_ty (by decide +kernel)⟩
  | int i => exact .inr ⟨(fun z e => by cases e), _, .base (.int i), kit_ty (by decide +kernel)⟩
  | str z h => exact .inl ⟨z, rfl, h⟩
  | step h _ _ =>
    obtain ⟨dx, e⟩ := h
    exact .inr ⟨(fun z e => by cases e), _, k'.S.ty e, k'.S.ns⟩
  | expr h =>
    obtain ⟨dx, z, p, x1, x2, x3, x4, e, hp⟩ := h
    exact .inr ⟨(fun z e => by cases e), _, k'.E.ty e, k'.E.ns⟩
  | trait h =>
    obtain ⟨dx, z, p, b, e, hp⟩ := h
    exact .inr ⟨(fun z e => by cases e), _, k'.T.ty e, k'.T.ns⟩
  | chain h =>
    obtain ⟨dx, p, b, e, hp⟩ := h
    exact .inr ⟨(fun z e => by cases e), _, k'.C.ty e, k'.C.ns⟩
theorem seen_of_alike {K : PySem.W.Frag} {mg : Str → Option Value} {k : Kinds} {eS eE eT eC : Addr} {dS dE dT dC : FuncData} {H : Hp} {x y : V} (k' : Kin K mg k eS eE eT eC dS dE dT dC) : ∀ {n : Nat}, Alike K k n H x y → Seen K H x
  | 0, h => h.elim
  | n + 1, h => by
    rcases h with ⟨h, _⟩ | ⟨a, b, xs, ys, rfl, _, _, _, hq, _⟩
    · exact seen_of_leaf k' h
    · rcases hq with ⟨h, _⟩ | ⟨h, _⟩
      · exact .inr ⟨(fun z e => by cases e), _, .base (.lst h), kit_ty (by decide +kernel)⟩
      · exact .inr ⟨(fun z e => by cases e), _, .base (.tup h), kit_ty (by decide +kernel)⟩
def spEqB (K : PySem.W.Frag) (C : Addr) : Sp := fun vs H Q _ => ∃ a y z w, vs = [.ref a, y] ∧ StepAt C H a z w ∧ ((∃ b z' w', y = .ref b ∧ StepAt C H b z' w' ∧ Q (.bl (decide (z = z') && decide (w = w'))) H) ∨ (∃ t, TyX K H y t ∧ PySem.W.kitOne K t (.ref C) = some false ∧ Q (.bl false) H))
theorem nf_str {K : PySem.W.Frag} {C : Addr} : PySem.W.notFirst K C (.type "str") = true := by kernel_rfl
theorem nf_tup {K : PySem.W.Frag} {C : Addr} : PySem.W.notFirst K C (.type "tuple") = true := by kernel_rfl
theorem nf_non {K : PySem.W.Frag} {C : Addr} : PySem.W.notFirst K C (.type "NoneType") = true := by kernel_rfl
theorem nf_own {K : PySem.W.Frag} {C : Addr} : PySem.W.notFirst K C (.ref C) = true := by
  unfold PySem.W.notFirst
  rw [beq_self_eq_true]
  rfl
section
variable {P : Program} {w : World} {K : PySem.W.Frag} {mg : Str → Option Value} {base : Heap}
theorem ok_stepEqB {C f : Addr} {fd : FuncData} (S : Std mg) (c : OwnCl K mg "Step" C) (n1 : NoAttr K C "name") (n2 : NoAttr K C "ways") (F : Fun K "__eq__" "Step.__eq__" sStepEq f fd) :
    FnOk P w K mg base CX0 1 f fd ["self", "other"] (spEqB K C) := by
  refine F.ok scStepEq (fun vs H Q E h => ?_) (fun cdv A outer s H vs Q E hr h => ?_)
  · obtain ⟨a, y, z, w, rfl, _⟩ := h
    rfl
  · obtain ⟨a, u, z, y, rfl, ⟨dx, ha⟩, h⟩ := h
    refine ⟨_, pss_one (ps_ret (pe_and (pe_callB call_isi (by rfl) S.isi (by decide +kernel) (pa_cons (pv 1) (pa_cons (pe_glob (v := .ref C) rfl c.g rfl) pa_nil)))
      (pe_and (pe_cmpR op_eq (pe_fld (pv 0) rfl) (pe_fld (pv 1) rfl) (nomark _)) (pe_one (pe_cmpR op_eq (pe_fld (pv 0) rfl) (pe_fld (pv 1) rfl) (nomark _)))))), ?_⟩
    rcases h with ⟨b, z', y', rfl, ⟨dy, hb⟩, q⟩ | ⟨t, ty, kt, q⟩
    · refine ⟨_, rfl, _, _, _, _, true, rfl, .own C, c.ty hb, kit_self, true, rfl, iteT ?_⟩
      refine ⟨_, rfl, _, _, _, _, _, rfl, ha, c.cl, n1, rfl, _, rfl, _, _, _, _, _, rfl, hb, c.cl, n1, rfl, rfl, _, rfl, ?_⟩
      by_cases hz : z = z'
      · rw [decide_eq_true hz] at q
        rw [decide_eq_true (show V.str z = V.str z' from by rw [hz])]
        refine iteT ⟨_, rfl, _, _, _, _, _, rfl, ha, c.cl, n2, rfl, _, rfl, _, _, _, _, _, rfl, hb, c.cl, n2, rfl, rfl, ?_⟩
        by_cases hy : y = y'
        · rw [decide_eq_true hy] at q
          rw [decide_eq_true (show V.str y = V.str y' from by rw [hy])]
          exact q
        · rw [decide_eq_false hy] at q
          rw [decide_eq_false (show ¬ V.str y = V.str y' from fun e => hy (by injection e))]
          exact q
      · rw [decide_eq_false hz] at q
        rw [decide_eq_false (show ¬ V.str z = V.str z' from fun e => hz (by injection e))]
        exact iteF q
    · exact ⟨_, rfl, _, _, _, _, false, rfl, .own C, ty, kt, false, rfl, iteF q⟩
end
end LK

/-! a list and an empty list compared: == says whether the first is empty, whatever it holds -/
namespace PySem.SeqAt
open AutoSeq1 (wpAny_loadPart')
open MeetsSeq MeetsSeq2 MeetsSeq3 SeqRoads2
section
variable {prog : Program} {w : World} {dd dd2 : Option Addr}
theorem lr_list_lenIn (l b : Addr) (items items2 : Array Value) (n n2 : Nat) (sl sl2 : Array (Option Value)) (hsz : items.size ≠ items2.size) :
    MeetsIn prog w (Builtin.«list.__eq__» ⟨[.ref l, .ref b], []⟩)
      (fun A R s => s.heap.get? l = some { cls := .type "list", dict := dd, data := .seq items n, slots := sl } ∧ s.heap.get? b = some { cls := .type "list", dict := dd2, data := .seq items2 n2, slots := sl2 } ∧
        R (.ok (.ret (.bool false))) s) := by
  intro A R s h
  obtain ⟨hp, g, d, tk, os⟩ := s; obtain ⟨hl, hb, h⟩ := h
  have f3 := AutoSeq1.sub_list_list
  have hne : (items.size != items2.size) = true := by simpa using hsz
  wp_walk using wpAny_loadPart' hl, wpAny_loadPart' hb
  exact h
theorem lr_rcP_len {A : Around} {s : Shared} {l b : Addr} {items items2 : Array Value} (hl : s.heap.IsList l items) (hb : s.heap.IsList b items2) (hsz : items.size ≠ items2.size) (hu : A.units < cLine)
    (E Q : Value → Shared → Prop) (h : Q (.bool false) s) : wpAny (model prog w) A (richCompare .Eq (.ref l) (.ref b)) Q E s := by
  obtain ⟨⟨cls, dd, data, sl⟩, ho, hc, n, hd⟩ := id hl
  obtain ⟨⟨cls2, dd2, data2, sl2⟩, ho2, hc2, n2, hd2⟩ := id hb
  simp only at hc hd hc2 hd2
  subst hc hd hc2 hd2
  have ta : s.TypeIs (.ref l) "list" := ⟨_, ho, rfl⟩
  have tb : s.TypeIs (.ref b) "list" := ⟨_, ho2, rfl⟩
  exact wpAny_richCompare_same_room (op := .Eq) ta tb F.slot_list_eq (call_meetsIn F.slot_list_eq ta F.entry_list_eq (F.args_list_eq_2 _ _) (lr_list_lenIn l b items items2 n n2 sl sl2 hsz)
    ⟨ho, ho2, show Value.bool false ≠ Value.notImplemented ∧ Q (.bool false) s from ⟨(fun x => nomatch x), h⟩⟩) hu
end
end PySem.SeqAt
namespace LR
open PySem PySem.Spec PyProof.Rows L2
section
variable {X : Cx}
def rEqEnd : R2 := fun x y H Q => ∃ a b xs, x = .ref a ∧ y = .ref b ∧ H a = some (.lst xs) ∧ H b = some (.lst []) ∧ Q (.bl xs.isEmpty) H
theorem op_eqEnd (hu : X.A.units < cLine) : OpR X (compareOp .Eq) rEqEnd := by
  intro pins s σ H x y v u Q I rx ry h
  obtain ⟨a, b, xs, rfl, rfl, ha, hb, q⟩ := h
  cases (show v = Value.ref a from rx)
  cases (show u = Value.ref b from ry)
  obtain ⟨us, r1, p1, _⟩ := I.list (SqL.of ha)
  obtain ⟨ws, r2, p2, _⟩ := I.list (SqL.of hb)
  cases r2
  cases xs with
  | nil =>
    cases r1
    refine SeqAt.rcP_lists (e := fun _ => true) p1.isList p2.isList rfl hu (fun j h1 h2 => absurd h1 (by simp)) _ _ ⟨.bl true, H, I, rfl, q⟩
  | cons x r =>
    cases r1 with
    | cons r0 r1 => exact SeqAt.lr_rcP_len p1.isList p2.isList (by simp) hu _ _ ⟨.bl false, H, I, rfl, q⟩
end
end LR

/-! defs with a star parameter that may let an error out; a list beside an empty one -/
namespace PySem.SeqAt
open AutoSeq1 (wpAny_loadPart')
open MeetsSeq MeetsSeq2 MeetsSeq3 SeqRoads2
section
variable {prog : Program} {w : World} {dd dd2 : Option Addr}
theorem lr_ne_lenIn (l b : Addr) (items items2 : Array Value) (n n2 : Nat) (sl sl2 : Array (Option Value)) (hsz : items.size ≠ items2.size) :
    MeetsIn prog w (Builtin.«list.__ne__» ⟨[.ref l, .ref b], []⟩)
      (fun A R s => s.heap.get? l = some { cls := .type "list", dict := dd, data := .seq items n, slots := sl } ∧ s.heap.get? b = some { cls := .type "list", dict := dd2, data := .seq items2 n2, slots := sl2 } ∧
        R (.ok (.ret (.bool true))) s) := by
  intro A R s h
  obtain ⟨hp, g, d, tk, os⟩ := s; obtain ⟨hl, hb, h⟩ := h
  have f3 := AutoSeq1.sub_list_list
  have hne : (items.size != items2.size) = true := by simpa using hsz
  wp_walk using wpAny_loadPart' hl, wpAny_loadPart' hb
  exact h
theorem lr_ne_end (l b : Addr) (n n2 : Nat) (sl sl2 : Array (Option Value)) :
    MeetsIn prog w (Builtin.«list.__ne__» ⟨[.ref l, .ref b], []⟩)
      (fun A R s => s.heap.get? l = some { cls := .type "list", dict := dd, data := .seq #[] n, slots := sl } ∧ s.heap.get? b = some { cls := .type "list", dict := dd2, data := .seq #[] n2, slots := sl2 } ∧
        R (.ok (.ret (.bool false))) s) := by
  intro A R s h
  obtain ⟨hp, g, d, tk, os⟩ := s; obtain ⟨hl, hb, h⟩ := h
  have f3 := AutoSeq1.sub_list_list
  wp_walk using wpAny_loadPart' hl, wpAny_loadPart' hb
  exact ⟨plainId_quiet plain_eq_loop _, codeAny_builtin entry_eq_loop (by
    rw [Around.under_plainId plain_eq_loop _]
    wp_walk using wpAny_loadPart' hl, wpAny_loadPart' hb
    exact h)⟩
theorem lr_rcN_len {A : Around} {s : Shared} {l b : Addr} {items items2 : Array Value} (hl : s.heap.IsList l items) (hb : s.heap.IsList b items2) (hsz : items.size ≠ items2.size) (hu : A.units < cLine)
    (E Q : Value → Shared → Prop) (h : Q (.bool true) s) : wpAny (model prog w) A (richCompare .NotEq (.ref l) (.ref b)) Q E s := by
  obtain ⟨⟨cls, dd, data, sl⟩, ho, hc, n, hd⟩ := id hl
  obtain ⟨⟨cls2, dd2, data2, sl2⟩, ho2, hc2, n2, hd2⟩ := id hb
  simp only at hc hd hc2 hd2
  subst hc hd hc2 hd2
  have ta : s.TypeIs (.ref l) "list" := ⟨_, ho, rfl⟩
  have tb : s.TypeIs (.ref b) "list" := ⟨_, ho2, rfl⟩
  exact wpAny_richCompare_same_room (op := .NotEq) ta tb F.slot_list_ne (call_meetsIn F.slot_list_ne ta F.entry_list_ne (F.args_list_ne_2 _ _) (lr_ne_lenIn l b items items2 n n2 sl sl2 hsz)
    ⟨ho, ho2, show Value.bool true ≠ Value.notImplemented ∧ Q (.bool true) s from ⟨(fun x => nomatch x), h⟩⟩) hu
theorem lr_rcN_end {A : Around} {s : Shared} {l b : Addr} (hl : s.heap.IsList l #[]) (hb : s.heap.IsList b #[]) (hu : A.units < cLine)
    (E Q : Value → Shared → Prop) (h : Q (.bool false) s) : wpAny (model prog w) A (richCompare .NotEq (.ref l) (.ref b)) Q E s := by
  obtain ⟨⟨cls, dd, data, sl⟩, ho, hc, n, hd⟩ := id hl
  obtain ⟨⟨cls2, dd2, data2, sl2⟩, ho2, hc2, n2, hd2⟩ := id hb
  simp only at hc hd hc2 hd2
  subst hc hd hc2 hd2
  have ta : s.TypeIs (.ref l) "list" := ⟨_, ho, rfl⟩
  have tb : s.TypeIs (.ref b) "list" := ⟨_, ho2, rfl⟩
  exact wpAny_richCompare_same_room (op := .NotEq) ta tb F.slot_list_ne (call_meetsIn F.slot_list_ne ta F.entry_list_ne (F.args_list_ne_2 _ _) (lr_ne_end l b n n2 sl sl2)
    ⟨ho, ho2, show Value.bool false ≠ Value.notImplemented ∧ Q (.bool false) s from ⟨(fun x => nomatch x), h⟩⟩) hu
end
end PySem.SeqAt
namespace LR
open PySem PySem.Spec PyProof.Rows L2
/-- xs != [] -/
def rNeEnd : R2 := fun x y H Q => ∃ a b xs, x = .ref a ∧ y = .ref b ∧ H a = some (.lst xs) ∧ H b = some (.lst []) ∧ Q (.bl (!xs.isEmpty)) H
theorem op_neEnd {X : Cx} (hu : X.A.units < cLine) : OpR X (compareOp .NotEq) rNeEnd := by
  intro pins s σ H x y v u Q I rx ry h
  obtain ⟨a, b, xs, rfl, rfl, ha, hb, q⟩ := h
  cases (show v = Value.ref a from rx)
  cases (show u = Value.ref b from ry)
  obtain ⟨us, r1, p1, _⟩ := I.list (SqL.of ha)
  obtain ⟨ws, r2, p2, _⟩ := I.list (SqL.of hb)
  cases r2
  cases xs with
  | nil =>
    cases r1
    exact SeqAt.lr_rcN_end p1.isList p2.isList hu _ _ ⟨.bl false, H, I, rfl, q⟩
  | cons x r =>
    cases r1 with
    | cons r0 r1 => exact SeqAt.lr_rcN_len p1.isList p2.isList (by simp) hu _ _ ⟨.bl true, H, I, rfl, q⟩
theorem cxUpN {P : Program} {w : World} : StX.CXUp (L2N.CX P w) := by
  rintro outer s H s2 H2 E e s' un kp ho ⟨a, B, H', cls, d, ea, fl, hok, ub, na, os, ag, he⟩
  refine ⟨a, B, H', cls, d, ea, fl, hok, ⟨fun b o q n hb => ub.keep b o (kp b o q) (un.free b o q n (by simp)) hb, fun b o q hb => ub.slot b o (kp b o q) hb, fun b o q n => ub.free b o (kp b o q) (un.free b o q n (by simp)),
    fun b o q hb => ub.there b o (kp b o q) hb, fun b xs q => ub.tups b xs (un.tups b xs q), fun b o xs q => ub.frzs b o xs (un.frzs b o xs q), fun b ps q => ?_⟩, na, os.trans ho, ag, he⟩
  obtain ⟨m1, e1⟩ := un.tbls b ps q
  obtain ⟨m2, e2⟩ := ub.tbls b _ e1
  exact ⟨m1 ++ m2, by rw [e2, Array.append_assoc]⟩
/-- a def with a star parameter that may let an error out -/
theorem okStarN {P : Program} {w : World} {K : PySem.W.Frag} {mg : Str → Option Value} {base : Heap} {x qual pv : Str} {st : Stmt} {f : Addr} {fd : FuncData} {N ps : List Str} {k : Nat} {sp : Sp} (F : Fun K x qual st f fd) (S : FnScope N (ps ++ [pv]) (defScope st))
    (hb : ∀ (kV doc pm : Value) (an : Option Addr) (cdv ct : Value) (us rest : List Value), us.length = ps.length → bindArgs (PySem.W.fnOf x qual (defArgs st) (defBody st) (defScope st) .none kV doc pm an cdv ct) ⟨us ++ rest, []⟩ = (newTuple rest >>= fun t => pure (ps.zip us ++ [(pv, t)])))
    (walk : ∀ (cdv : Value) (A : Around) (outer : List Env) (s : Shared) (H : Hp) (vs : List V) (Q : VK) (E : XK), Room k (A.deeper (envOfC qual (defScope st) s.heap.objs.size f cdv)) → sp vs H Q E →
      ∃ t, PSs (cxOf (L2N.CX P w) P w K mg base N qual (defScope st) f cdv A outer s H E) (defBody st) t ∧ t { nx := fun _ H' => Q .non H', rt := Q } (start N vs) H) :
    FnR P w K mg base (L2N.CX P w) (k + 1) f (fun vs H Q E => ∃ ws rest, vs = ws ++ rest ∧ ws.length = ps.length ∧ rest.length ≤ sizeLine ∧ ∀ p, H p = Option.none → sp (ws ++ [V.ref p]) (upd H p (.tup rest)) Q E) := by
  obtain ⟨oc, od, kV, doc, pm, an, cdv, ct, osl, rfl, lk, hcd⟩ := F.ex
  exact StX.fn_star lk hcd S cxUpN (hb kV doc pm an cdv ct) fun A outer s H vs Q E hr h => walk cdv A outer s H vs Q E hr h
/-- C(e, ..), whose __init__ has a star parameter and may let an error out -/
def tMakeRS (C : Addr) (sp : Sp) (E : L2.St → XK) (t : TA) : TE := fun σ H Q => t σ H fun vs H1 => ∀ x dx, H1 x = Option.none → H1 dx = Option.none → dx ≠ x →
  sp (V.ref x :: vs) (upd (upd H1 dx (.own x)) x (.ins C dx [])) (fun v H2 => v = .non ∧ Q (.ref x) H2) (E σ)
section
variable {X : Cx} {CX : CXT} {k : Nat} {f C : Addr} {sp : Sp} {E : L2.St → XK} {x : Str} {e : Expr} {es : List Expr} {t : TA} {p pos : Pos}
theorem pe_makeRS (M : Mk X.K C f) (F : FnR X.prog X.w X.K X.mg X.base CX k f sp) (hr : Room (k + 1) X.A) (hg : Gl X x) (hm : X.mg x = some (.ref C)) (out : ∀ σ, PassesAt CX X σ (E σ)) (ha : PA X (e :: es) t) (hdb : (x == ("__debug__" : Str)) = false := by decide)
    (he : starEach (e :: es) X.env = (false, eval e X.env) :: starEach es X.env := by rfl) (hpl : (backTo pos (starEach es X.env)).any (·.1) = false := by rfl) : PE X (.Call (.Name x p) (e :: es) [] pos) (tMakeRS C sp E t) := by
  refine ⟨fun pins s σ H Q I h => ?_⟩
  refine wpAny_Call_Name_kw (ld_glob I hg hm ?_ hdb)
  refine PySem.W.callWith_K (h₀ := X.base) I.ok.mod.kin M.kp (thn (ha.run pos pins s σ H _ I h) fun us s1 ⟨vs, H1, I1, r, q⟩ => ⟨I1.kIn, ?_⟩) he hpl
  have hq := q (s1.heap.objs.size + 1) s1.heap.objs.size (I1.hok.fresh (Nat.le_succ _)) (I1.hok.fresh (Nat.le_refl _)) (Nat.ne_of_lt (Nat.lt_succ_self _))
  have I2 := Inv.made (C := C) I1
  have r2 : Vals (V.ref (s1.heap.objs.size + 1) :: vs) (Value.ref (s1.heap.objs.size + 1) :: us) := .cons rfl r
  refine wpAny_call (make_map (f := f) I1.kIn M.makes M.init (beq_iff_eq.mp M.fn) (codeAny_mono (F _ X.stack _ _ (Value.ref (s1.heap.objs.size + 1) :: us) _ _ (E σ) (hr.make C us []) (I2.env0.make C us []) r2 hq) fun r s' hq' => ?_))
  cases r with
  | error e => exact out σ pins _ _ e s' I2 hq'
  | ok fl =>
    cases fl with
    | ret u =>
      obtain ⟨v, H', I3, rv, ev, q3⟩ := I2.after hq'
      subst ev
      exact ⟨rv, ⟨V.ref (s1.heap.objs.size + 1), H', I3, rfl, q3⟩⟩
    | next => exact False.elim hq'
    | brk => exact False.elim hq'
    | cont => exact False.elim hq'
end
end LR

namespace LK
open PySem PySem.Spec PyProof.Rows L2 LR
/-! ### things that are steps or are not -/
abbrev sTraitStr : Stmt := inClass (top 43) 2
def El (K : PySem.W.Frag) (cS : Addr) (H : Hp) (v : V) : Option (Str × Str) → Prop
  | some zy => ∃ a, v = .ref a ∧ StepAt cS H a zy.1 zy.2 ∧ NameOk zy.1 ∧ WaysOk zy.2
  | none => ∃ t, TyX K H v t ∧ PySem.W.kitOne K t (.ref cS) = some false
def Els (K : PySem.W.Frag) (cS : Addr) (H : Hp) (xs : List V) (os : List (Option (Str × Str))) : Prop := xs.length = os.length ∧ ∀ (i : Nat) v o, xs[i]? = some v → os[i]? = some o → El K cS H v o
theorem El.same {K : PySem.W.Frag} {cS : Addr} {H H' : Hp} {v : V} {o : Option (Str × Str)} (s : Same H H') (h : El K cS H v o) : El K cS H' v o := by
  cases o with
  | none =>
    obtain ⟨t, ty, k⟩ := h
    exact ⟨t, TyX.same s ty, k⟩
  | some zy =>
    obtain ⟨a, e, q, z, y⟩ := h
    exact ⟨a, e, q.same s, z, y⟩
theorem Els.same {K : PySem.W.Frag} {cS : Addr} {H H' : Hp} {xs : List V} {os : List (Option (Str × Str))} (s : Same H H') (h : Els K cS H xs os) : Els K cS H' xs os := ⟨h.1, fun i v o e1 e2 => (h.2 i v o e1 e2).same s⟩
theorem Els.at {K : PySem.W.Frag} {cS : Addr} {H : Hp} {xs : List V} {os : List (Option (Str × Str))} (h : Els K cS H xs os) {i : Nat} {v : V} (hv : xs[i]? = some v) : ∃ o, os[i]? = some o ∧ El K cS H v o := by
  have lt := (List.getElem?_eq_some_iff.mp hv).1
  have e : os[i]? = some (os[i]'(by have := h.1; omega)) := List.getElem?_eq_getElem _
  exact ⟨_, e, h.2 i v _ hv e⟩
theorem El.isi {K : PySem.W.Frag} {mg : Str → Option Value} {cS : Addr} {H : Hp} {v : V} {o : Option (Str × Str)} (c : OwnCl K mg "Step" cS) (h : El K cS H v o) : ∃ t, TyX K H v t ∧ PySem.W.kitOne K t (.ref cS) = some o.isSome := by
  cases o with
  | none => exact h
  | some zy =>
    obtain ⟨a, rfl, ⟨dx, e⟩, _⟩ := h
    exact ⟨_, c.ty e, kit_self⟩
/-- one or two different steps -/
def areB (n : Nat) (os : List (Option (Str × Str))) : Bool := (os.length == n) && (os.all Option.isSome && ((n == 1) || !(os[0]? == os[1]?)))
def spAreB (K : PySem.W.Frag) (cS : Addr) : Sp := fun vs H Q _ => ∃ (p : Addr) (n : Nat) (xs : List V) (os : List (Option (Str × Str))), vs = [.ref p, .int n] ∧ (n = 1 ∨ n = 2) ∧ H p = some (.tup xs) ∧ Els K cS H xs os ∧ xs.length ≤ 20 ∧ ∀ H', Same H H' → Q (.bl (areB n os)) H'
theorem all_take {os : List (Option (Str × Str))} {i : Nat} {o : Option (Str × Str)} (h : os[i]? = some o) : (os.take (i + 1)).map Option.isSome = (os.take i).map Option.isSome ++ [o.isSome] := by
  rw [List.take_add_one, h, List.map_append]
  rfl
section
variable {P : Program} {w : World} {K : PySem.W.Frag} {mg : Str → Option Value} {base : Heap}
theorem ok_areB {cS f eS : Addr} {fd dS : FuncData} (S : Std mg) (c : OwnCl K mg "Step" cS) (n1 : NoAttr K cS "name") (n2 : NoAttr K cS "ways") (qS : EqM K cS sStepEq "Step.__eq__" eS dS) (ne : PySem.W.findIn K (.ref cS) "__ne__" = some (some (.builtin "object.__ne__")))
    (F : Fun K "_are_steps" "_are_steps" sAreSteps f fd) : FnOk P w K mg base CX0 3 f fd ["steps", "count"] (spAreB K cS) := by
  have GE : FnOk P w K mg base CX0 1 eS dS ["self", "other"] (spEqB K cS) := ok_stepEqB S c n1 n2 qS.F
  refine F.ok scAreSteps (fun vs H Q E h => ?_) (fun cdv A outer s H vs Q E hr h => ?_)
  · obtain ⟨p, n, xs, os, rfl, _⟩ := h
    rfl
  · obtain ⟨p, n, xs, os, rfl, hn, hp, he, h20, q⟩ := h
    refine ⟨_, pss_cons (ps_if (PW.pt (pw_or (pt_cmpR op_ne (pe_callB call_len_seq (by rfl) S.len PySem.boot_len (pa_cons (pv 0) pa_nil)) (pv 1) (nomark _))
          (pw_or1 (pt_not (pt_val (pe_callB (cr_all rfl) (by rfl) S.all (by decide +kernel) (pa_cons (pe_lc (own := [("step", 2)]) (g := gName 2) (tt := tYes) (te := tCB (rIsi K) (tCons (tVar 2) (tCons (tC (.ref cS)) tNil))) rfl scAreSteps.nd
            (pi_tup (pv 0)) (blkOk_by (N := ["steps", "count", "step"]) (sc := defScope sAreSteps) (by decide +kernel)) (fun _ _ _ _ _ => pg_name (i := 2) scAreSteps.nd rfl (Or.inl rfl)) (fun _ _ _ _ _ => pts_nil)
            (fun _ _ _ _ _ => pe_callB (id := "isinstance") call_isi (by rfl) S.isi (by decide +kernel) (pa_cons (pv 2) (pa_cons (pe_glob (v := .ref cS) rfl c.g rfl) pa_nil)))) pa_nil))))))) (pss_one (ps_ret pe_bl)) pss_nil)
      (pss_one (ps_ret (pe_or (pe_cmpR op_eq (pv 1) pe_int (nomark _)) (pe_one (pe_cmpR (op_neOwn GE qS.at_ qS.fn ne c.ob qS.b pass0 hr) (pe_ix ix_tup (pv 0) pe_int (fun _ _ => rfl)) (pe_ix ix_tup (pv 0) pe_int (fun _ _ => rfl)) (nomark _)))))), ?_⟩
    refine ⟨_, rfl, p, _, rfl, .inr (SqT.of hp), _, rfl, rfl, _, rfl, ?_⟩
    have le := he.1
    by_cases hl : os.length = n
    · have e1 : (V.int ((xs.length : Nat) : Int)) = V.int (n : Int) := by rw [le, hl]
      rw [decide_eq_true e1]
      refine iteF ?_
      refine ⟨_, rfl, p, rfl, ⟨_, SqT.of hp⟩, fun D hD => lc_tup (xs := xs) (fun i H4 => Keep D H H4 ∧ H4 D = some (.lst (((os.take i).map Option.isSome).map V.bl))) ⟨Keep.new hD, upd_same⟩ (fun i H4 _ h => SqT.of (h.1 _ _ (ne_of_none hp hD) hp)) (fun i v H4 hv h => ?_) (fun H4 h => ?_)⟩
      · obtain ⟨k4, d4⟩ := h
        obtain ⟨o, ho, el⟩ := he.at hv
        obtain ⟨t, ty, kt⟩ := El.isi c el
        have sD : Same (L2.del H4 D) H4 := fun b o e => by
          by_cases hb : b = D
          · rw [hb, del_same] at e
            cases e
          · rw [del_ne hb] at e
            exact e
        have sH : Same H H4 := fun b o e => k4 b o (ne_of_none e hD) e
        refine ⟨rfl, _, rfl, _, _, _, _, o.isSome, rfl, .own cS, TyX.same sH ty, kt, _, d4, ?_, fun b o n e => ?_, ?_⟩
        · rw [List.length_map, List.length_map, List.length_take]
          exact small1000 (by omega)
        · rw [upd_ne n]
          exact k4 b o n e
        · rw [upd_same, all_take ho, List.map_append]
          rfl
      · obtain ⟨k4, d4⟩ := h
        have sH : Same H H4 := fun b o e => k4 b o (ne_of_none e hD) e
        refine ⟨D, os.map Option.isSome, rfl, SqL.of (by rw [d4, le, List.take_length]), _, rfl, ?_⟩
        have hp4 := sH _ _ hp
        have ea : (os.map Option.isSome).all id = os.all Option.isSome := by rw [List.all_map]; rfl
        rw [ea]
        cases ha : os.all Option.isSome with
        | false =>
          refine iteT ?_
          have : areB n os = false := by
            unfold areB
            rw [ha, Bool.false_and, Bool.and_false]
          rw [← this]
          exact q _ sH
        | true =>
          refine iteF ?_
          refine ⟨_, rfl, rfl, _, rfl, ?_⟩
          rcases hn with rfl | rfl
          · rw [decide_eq_true (show V.int ((1 : Nat) : Int) = V.int 1 from rfl)]
            refine iteT ?_
            have : areB 1 os = true := by
              unfold areB
              rw [ha, hl]
              rfl
            rw [← this]
            exact q _ sH
          · rw [decide_eq_false (show ¬ V.int ((2 : Nat) : Int) = V.int 1 from fun e => by injection e with e; omega)]
            refine iteF ?_
            match os, hl, ha, he, q with
            | [some zy, some zy'], _, _, he, q =>
              match xs, he.1, he, hp4 with
              | [v0, v1], _, he, hp4 =>
                obtain ⟨a0, rfl, ⟨d0, h0⟩, _, _⟩ := (he.2 0 v0 (some zy) rfl rfl).same sH
                obtain ⟨a1, rfl, ⟨d1, h1⟩, _, _⟩ := (he.2 1 v1 (some zy') rfl rfl).same sH
                refine ⟨_, rfl, p, _, 0, .ref a0, rfl, rfl, SqT.of hp4, rfl, _, rfl, p, _, 1, .ref a1, rfl, rfl, SqT.of hp4, rfl, ?_⟩
                refine ⟨a0, d0, _, .ref cS, rfl, h0, c.ty h1, nf_own, a0, .ref a1, zy.1, zy.2, rfl, ⟨d0, h0⟩, .inl ⟨a1, zy'.1, zy'.2, rfl, ⟨d1, h1⟩, _, rfl, ?_⟩⟩
                have e : areB 2 [some zy, some zy'] = !(decide (zy.1 = zy'.1) && decide (zy.2 = zy'.2)) := by
                  obtain ⟨z, y⟩ := zy
                  obtain ⟨z', y'⟩ := zy'
                  unfold areB
                  simp only [List.length_cons, List.length_nil, List.all_cons, List.all_nil, Option.isSome_some, Bool.and_true, List.getElem?_cons_zero, List.getElem?_cons_succ]
                  by_cases hz : z = z'
                  · by_cases hy : y = y'
                    · simp [hz, hy]
                    · simp [hz, hy]
                  · simp [hz]
                rw [← e]
                exact q _ sH
            | [none, _], _, ha, _, _ => cases ha
            | [some _, none], _, ha, _, _ => cases ha
    · have e1 : ¬ (V.int ((xs.length : Nat) : Int)) = V.int (n : Int) := fun e => hl (by injection e with e; omega)
      rw [decide_eq_false e1]
      refine iteT ?_
      have : areB n os = false := by
        unfold areB
        rw [show (os.length == n) = false by simpa using hl, Bool.false_and]
      rw [← this]
      exact q _ fun _ _ e => e
end
end LK

namespace LK
open PySem PySem.Spec PyProof.Rows L2 LR
/-! ### a trait, made or refused -/
def words7 : List Str := ["up", "down", "settled", "mean", "alike", "below", "back"]
def cntW (x : Str) : Nat := if x = "below" ∨ x = "back" then 2 else 1
def fitW (x : Str) : List Str := if x = "mean" then ["++"] else if x = "alike" then ["++", "--", "??"] else ["+"]
structure Fits2 (K : PySem.W.Frag) (w : World) (mg : Str → Option Value) (dC dF : Addr) : Prop where
  counts : mg "STEP_COUNTS" = some (.ref dC)
  c1 : ∃ es n, KDict K w dC es n
  cw : ∀ x, x ∈ words7 → ∃ t, PySem.W.nsIn K dC x = some (some (.int ((cntW x : Nat) : Int) t))
  cn : ∀ x, x ∉ words7 → PySem.W.nsIn K dC x = some none
  fits : mg "FITTING_WAYS" = some (.ref dF)
  f1 : ∃ es n, KDict K w dF es n
  fw : ∀ x, x ∈ words7 → x ≠ "below" → ∃ t, PySem.W.nsIn K dF x = some (some (.ref t)) ∧ ∀ H, SqT K H t ((fitW x).map V.str)
def waysOf (o : Option (Str × Str)) : Str := match o with | some zy => zy.2 | none => Str.empty
def wayB (x : Str) (os : List (Option (Str × Str))) : Bool :=
  !((os.map fun o => !(decide (waysOf o = waysOf (os.headD none)))).any id) && (decide (x = "below") || inV (.str (waysOf (os.headD none))) ((fitW x).map V.str))
theorem flat_strs (l : List Str) : (l.map V.str).all flatV = true := by
  rw [List.all_map, List.all_eq_true]
  intro z _
  rfl
def spWayB (K : PySem.W.Frag) (cS : Addr) : Sp := fun vs H Q _ => ∃ (x : Str) (p : Addr) (xs : List V) (os : List (Option (Str × Str))), vs = [.str x, .ref p] ∧ x ∈ words7 ∧ H p = some (.tup xs) ∧ Els K cS H xs os ∧ 0 < xs.length ∧ xs.length ≤ 20 ∧ os.all Option.isSome = true ∧ ∀ H', Same H H' → Q (.bl (wayB x os)) H'
theorem ne_take {os : List (Option (Str × Str))} {i : Nat} {o : Option (Str × Str)} {f : Option (Str × Str) → Bool} (h : os[i]? = some o) : (os.take (i + 1)).map f = (os.take i).map f ++ [f o] := by
  rw [List.take_add_one, h, List.map_append]
  rfl
theorem dec_str {a b : Str} : decide (V.str a = V.str b) = decide (a = b) := by
  by_cases h : a = b
  · rw [decide_eq_true h, decide_eq_true (by rw [h])]
  · rw [decide_eq_false h, decide_eq_false (fun e => h (by injection e))]
section
variable {P : Program} {w : World} {K : PySem.W.Frag} {mg : Str → Option Value} {base : Heap}
theorem ok_wayB {cS dC dF f : Addr} {fd : FuncData} (S : Std mg) (c : OwnCl K mg "Step" cS) (n2 : NoAttr K cS "ways") (D0 : Fits2 K w mg dC dF) (F : Fun K "_ways_fit" "_ways_fit" sWaysFit f fd) : FnOk P w K mg base CX0 1 f fd ["word", "steps"] (spWayB K cS) := by
  refine F.ok scWaysFit (fun vs H Q E h => ?_) (fun cdv A outer s H vs Q E hr h => ?_)
  · obtain ⟨x, p, xs, os, rfl, _⟩ := h
    rfl
  · obtain ⟨x, p, xs, os, rfl, hx, hp, he, pos, h20, ha, q⟩ := h
    obtain ⟨es, n, k1, k2, k3⟩ := D0.f1
    refine ⟨_, pss_cons (ps_set (i := 2) scWaysFit.nd rfl (Or.inr rfl) (pe_fld (pe_ix ix_tup (pv 1) pe_int (fun _ _ => rfl)) rfl))
      (pss_cons (ps_if (pt_val (pe_callB (cr_any rfl) (by rfl) S.any (by decide +kernel) (pa_cons (pe_lc (own := [("step", 3)]) (g := gName 3) (tt := tYes) (te := tOp rNe (tFld K (tVar 3) "ways") (tVar 2)) rfl scWaysFit.nd
            (pi_tup (pv 1)) (blkOk_by (N := ["word", "steps", "ways", "step"]) (sc := defScope sWaysFit) (by decide +kernel)) (fun _ _ _ _ _ => pg_name (i := 3) scWaysFit.nd rfl (Or.inl rfl)) (fun _ _ _ _ _ => pts_nil)
            (fun _ _ _ _ _ => pe_cmpR op_ne (pe_fld (pv 3) rfl) (pv 2) (nomark _))) pa_nil))) (pss_one (ps_ret pe_bl)) pss_nil)
      (pss_one (ps_ret (pe_or (pe_cmpR op_eq (pv 0) pe_str (nomark _)) (pe_one (pe_cmpR op_in_seq (pv 2) (pe_ix ix_kdict (pe_glob (v := .ref dF) rfl D0.fits rfl) (pv 0) (fun _ _ => rfl)) (by rfl))))))), ?_⟩
    have le := he.1
    obtain ⟨v0, hv0⟩ : ∃ v0, xs[0]? = some v0 := ⟨_, List.getElem?_eq_getElem pos⟩
    have isS : ∀ {i : Nat} {o}, os[i]? = some o → ∃ zy, o = some zy := fun {i o} e => by
      have := List.all_eq_true.mp ha o (List.mem_of_getElem? e)
      exact Option.isSome_iff_exists.mp this
    obtain ⟨o0, ho0, el0⟩ := he.at hv0
    obtain ⟨zy0, rfl⟩ := isS ho0
    obtain ⟨b, rfl, ⟨db, hb⟩, _⟩ := el0
    have hd0 : os.headD none = some zy0 := by
      cases os with
      | nil => cases ho0
      | cons a r => simpa using ho0
    refine ⟨_, rfl, p, _, 0, .ref b, rfl, rfl, SqT.of hp, at_of (j := 0) rfl hv0, b, cS, db, _, _, rfl, hb, c.cl, n2, rfl, ?_⟩
    refine ⟨_, rfl, p, rfl, ⟨_, SqT.of hp⟩, fun D hD => lc_tup (xs := xs) (fun i H4 => Keep D H H4 ∧ H4 D = some (.lst (((os.take i).map fun o => !(decide (waysOf o = zy0.2))).map V.bl))) ⟨Keep.new hD, upd_same⟩ (fun i H4 _ h => SqT.of (h.1 _ _ (ne_of_none hp hD) hp)) (fun i v H4 hv h => ?_) (fun H4 h => ?_)⟩
    · obtain ⟨k4, d4⟩ := h
      have sH : Same H H4 := fun b o e => k4 b o (ne_of_none e hD) e
      obtain ⟨o, ho, el⟩ := he.at hv
      obtain ⟨zy, rfl⟩ := isS ho
      obtain ⟨a, rfl, ⟨da, hha⟩, _⟩ := el.same sH
      refine ⟨rfl, _, rfl, a, cS, da, _, _, rfl, hha, c.cl, n2, rfl, _, rfl, rfl, _, d4, ?_, fun b o n e => ?_, ?_⟩
      · rw [List.length_map, List.length_map, List.length_take]
        exact small1000 (by omega)
      · rw [upd_ne n]
        exact k4 b o n e
      · rw [upd_same, ne_take ho, List.map_append, dec_str]
        rfl
    · obtain ⟨k4, d4⟩ := h
      have sH : Same H H4 := fun b o e => k4 b o (ne_of_none e hD) e
      have bdef : wayB x os = (!((os.map fun o => !(decide (waysOf o = zy0.2))).any id) && (decide (x = "below") || inV (.str zy0.2) ((fitW x).map V.str))) := by
        unfold wayB
        rw [hd0]
        rfl
      refine ⟨D, os.map fun o => !(decide (waysOf o = zy0.2)), rfl, SqL.of (by rw [d4, le, List.take_length]), _, rfl, ?_⟩
      cases hany : (os.map fun o => !(decide (waysOf o = zy0.2))).any id with
      | true =>
        refine iteT ?_
        rw [hany] at bdef
        rw [Bool.not_true, Bool.false_and] at bdef
        rw [← bdef]
        exact q _ sH
      | false =>
        refine iteF ?_
        rw [hany] at bdef
        rw [Bool.not_false, Bool.true_and] at bdef
        refine ⟨_, rfl, rfl, _, rfl, ?_⟩
        rw [dec_str]
        by_cases hb : x = "below"
        · rw [decide_eq_true hb] at bdef ⊢
          refine iteT ?_
          rw [Bool.true_or] at bdef
          rw [← bdef]
          exact q _ sH
        · rw [decide_eq_false hb] at bdef ⊢
          refine iteF ?_
          rw [Bool.false_or] at bdef
          obtain ⟨tU, f2, f3⟩ := D0.fw x hx hb
          refine ⟨_, rfl, _, rfl, dF, x, .ref tU, rfl, rfl, ⟨es, n, _, k1, k2, f2, rfl⟩, tU, _, rfl, .inr (f3 _), rfl, flat_strs _, ?_⟩
          rw [← bdef]
          exact q _ sH
/-- nothing, or the word it is refused with -/
def trB (v : V) (os : List (Option (Str × Str))) : Option Str := match v with
  | .str x => if x ∈ words7 then (if areB (cntW x) os = true then (if wayB x os = true then none else some ("ways" : Str)) else some ("steps" : Str)) else some ("word" : Str)
  | _ => some ("word" : Str)
theorem trB_not {v : V} {os : List (Option (Str × Str))} (h : ∀ z, v ≠ .str z) : trB v os = some ("word" : Str) := by
  cases v <;> first | rfl | exact absurd rfl (h _)
def spTrX (K : PySem.W.Frag) (cS C C1 : Addr) : Sp := fun vs H Q E => ∃ (x dx p : Addr) (wv : V) (xs : List V) (os : List (Option (Str × Str))), vs = [.ref x, wv, .ref p] ∧ H x = some (.ins C dx []) ∧ H p = some (.tup xs) ∧ Seen K H wv ∧ Els K cS H xs os ∧ xs.length ≤ 20 ∧
  (trB wv os = none → ∀ H', H' x = some (.ins C dx [("word", wv), ("steps", .ref p)]) → Keep x H H' → Q .non H') ∧
  (∀ m, trB wv os = some m → ∀ d H', Same H H' → H' d = some (.xd [("word", .str m)]) → H d = none → E (.ref C1) (some d) H')
theorem cntW_or (x : Str) : cntW x = 1 ∨ cntW x = 2 := by
  unfold cntW
  by_cases h : x = "below" ∨ x = "back"
  · right; rw [if_pos h]
  · left; rw [if_neg h]
theorem ok_trX {cS C C1 dC dF eS fE fA fW f : Addr} {dS fdE fdA fdW fd : FuncData} (S : Std mg) (c : OwnCl K mg "Step" cS) (n1 : NoAttr K cS "name") (n2 : NoAttr K cS "ways") (qS : EqM K cS sStepEq "Step.__eq__" eS dS) (ne : PySem.W.findIn K (.ref cS) "__ne__" = some (some (.builtin "object.__ne__")))
    (D0 : Fits2 K w mg dC dF) (A1 : Df K mg "_are_steps" sAreSteps fA fdA ["steps", "count"]) (W1 : Df K mg "_ways_fit" sWaysFit fW fdW ["word", "steps"])
    (cl : Cls K C) (m1 : NoAttr K C "word") (m2 : NoAttr K C "steps") (e1 : Er K mg 1 C1 fE fdE) (F : Fun K "__init__" "Trait.__init__" sTraitInit f fd) :
    FnR P w K mg base (L2N.CX P w) 4 f (fun vs H Q E => ∃ ws rest, vs = ws ++ rest ∧ ws.length = (["self", "word"] : List Str).length ∧ rest.length ≤ sizeLine ∧ ∀ p, H p = Option.none → spTrX K cS C C1 (ws ++ [V.ref p]) (upd H p (.tup rest)) Q E) := by
  have GA : FnOk P w K mg base CX0 3 fA fdA ["steps", "count"] (spAreB K cS) := ok_areB S c n1 n2 qS ne A1.F
  have GW : FnOk P w K mg base CX0 1 fW fdW ["word", "steps"] (spWayB K cS) := ok_wayB S c n2 D0 W1.F
  have GE : FnOk P w K mg base CX0 1 fE fdE ["self", "word"] (spE0 C1 "word") := ok_err1X e1
  refine okStarN (ps := ["self", "word"]) (pv := "steps") F scTrInit (fun kV doc pm an cdv ct => StX.bind_star2 (B := fun us => bindArgs (PySem.W.fnOf "__init__" "Trait.__init__" (defArgs sTraitInit) (defBody sTraitInit) (defScope sTraitInit) .none kV doc pm an cdv ct) ⟨us, []⟩) (p1 := "self") (p2 := "word") (pv := "steps") (fun a b => rfl) (fun a b r rs => rfl)) (fun cdv A outer s H vs Q E hr h => ?_)
  obtain ⟨x, dx, p, wv, xs, os, rfl, hx, hp, sw, he, h20, qy, qn⟩ := h
  obtain ⟨es, n, ka, kb, kc⟩ := D0.c1
  have KD : KDict K w dC es n := ⟨ka, kb, kc⟩
  have hr1 : Room 1 _ := hr.mono (by decide)
  have hr2 : Room 2 _ := hr.mono (by decide)
  refine ⟨_, pss_cons (ps_if (PW.pt (pw_or (pt_not (pt_val (pe_callB call_isi (by rfl) S.isi (by decide +kernel) (pa_cons (pv 1) (pa_cons (pe_bltn (v := .ty "str") (by rfl) S.str (by decide +kernel) rfl) pa_nil)))))
        (pw_or1 (pt_cmpR (op_notIn_kd KD) (pv 1) (pe_glob (v := .ref dC) rfl D0.counts rfl) (by rfl))))) (pss_one (L2N.ps_raise rfl (L2N.takes_of rfl rfl rfl rfl) (pmk_errN e1.T e1.ini e1.ti GE hr2 e1.b rfl e1.g (pa_cons pe_str pa_nil)))) pss_nil)
    (pss_cons (ps_if (pt_not (pt_val (pe_call GA hr rfl A1.g A1.F.kp A1.b .nil pass0 (pa_cons (pv 2) (pa_cons (pe_ix ix_kdict (pe_glob (v := .ref dC) rfl D0.counts rfl) (pv 1) (fun _ _ => rfl)) pa_nil))))) (pss_one (L2N.ps_raise rfl (L2N.takes_of rfl rfl rfl rfl) (pmk_errN e1.T e1.ini e1.ti GE hr2 e1.b rfl e1.g (pa_cons pe_str pa_nil)))) pss_nil)
    (pss_cons (ps_if (pt_not (pt_val (pe_call GW hr1 rfl W1.g W1.F.kp W1.b .nil pass0 (pa_cons (pv 1) (pa_cons (pv 2) pa_nil))))) (pss_one (L2N.ps_raise rfl (L2N.takes_of rfl rfl rfl rfl) (pmk_errN e1.T e1.ini e1.ti GE hr2 e1.b rfl e1.g (pa_cons pe_str pa_nil)))) pss_nil)
    (pss_cons (ps_fld (pv 0) (pv 1) rfl) (pss_one (ps_fld (pv 0) (pv 2) rfl))))), ?_⟩
  rcases sw with ⟨z, rfl, len⟩ | ⟨no, t, ty, kt⟩
  · refine ⟨_, rfl, _, _, _, _, true, rfl, .ty "str", .base (.str z), kit_ty (by decide +kernel), true, rfl, iteF ?_⟩
    by_cases hz : z ∈ words7
    · obtain ⟨tk, hc⟩ := D0.cw z hz
      refine ⟨_, rfl, z, _, rfl, rfl, hc, _, rfl, iteF ?_⟩
      have tr : trB (.str z) os = (if areB (cntW z) os = true then (if wayB z os = true then none else some ("ways" : Str)) else some ("steps" : Str)) := if_pos hz
      refine ⟨_, rfl, _, rfl, dC, z, .int ((cntW z : Nat) : Int), rfl, rfl, ⟨es, n, _, ka, kb, hc, ⟨_, rfl⟩⟩, p, cntW z, xs, os, rfl, cntW_or z, hp, he, h20, fun H1 s1 => ⟨_, rfl, ?_⟩⟩
      cases hA : areB (cntW z) os with
      | false =>
        refine iteT (errX fun d H' s' hd nd => ?_)
        exact qn "steps" (by rw [tr, hA]; rfl) d H' (s1.trans s') hd (s1.free nd)
      | true =>
        refine iteF ?_
        have alls : os.all Option.isSome = true ∧ os.length = cntW z := by
          unfold areB at hA
          rw [Bool.and_eq_true, Bool.and_eq_true] at hA
          exact ⟨hA.2.1, by simpa using hA.1⟩
        refine ⟨_, rfl, _, rfl, z, p, xs, os, rfl, hz, s1 _ _ hp, he.same s1, ?_, h20, alls.1, fun H2 s2 => ⟨_, rfl, ?_⟩⟩
        · rw [he.1, alls.2]
          rcases cntW_or z with e | e <;> rw [e] <;> decide
        have s12 := s1.trans s2
        cases hW : wayB z os with
        | false =>
          refine iteT (errX fun d H' s' hd nd => ?_)
          exact qn "ways" (by rw [tr, hA, hW]; rfl) d H' (s12.trans s') hd (s12.free nd)
        | true =>
          refine iteF ?_
          refine ⟨_, rfl, _, rfl, x, C, dx, _, rfl, s12 _ _ hx, cl, m1, by decide, ?_⟩
          refine ⟨_, rfl, _, rfl, x, C, dx, _, rfl, upd_same, cl, m2, by show 1 < 1000; decide, ?_⟩
          exact qy (by rw [tr, hA, hW]; rfl) _ upd_same (((Keep.same s12).trans Keep.put).trans Keep.put)
    · refine ⟨_, rfl, z, _, rfl, rfl, D0.cn z hz, _, rfl, ?_⟩
      refine iteT (errX fun d H' s' hd nd => ?_)
      exact qn "word" (if_neg hz) d H' s' hd nd
  · refine ⟨_, rfl, _, _, _, _, false, rfl, .ty "str", ty, kt, _, rfl, ?_⟩
    refine iteT (errX fun d H' s' hd nd => ?_)
    exact qn "word" (trB_not no) d H' s' hd nd
end
end LK

namespace LK
open PySem PySem.Spec PyProof.Rows L2 LR
/-! ### a trait tried -/
def spTraitX (K : PySem.W.Frag) (cS C C1 : Addr) : Sp := fun vs H Q E => ∃ (wv : V) (l : Addr) (xs : List V) (os : List (Option (Str × Str))), vs = [wv, .ref l] ∧ H l = some (.lst xs) ∧ Seen K H wv ∧ Els K cS H xs os ∧ xs.length ≤ 3 ∧
  (trB wv os = none → ∀ x dx p H', Same H H' → H x = none → H p = none → H' x = some (.ins C dx [("word", wv), ("steps", .ref p)]) → H' p = some (.tup xs) → Q (.ref x) H') ∧
  (∀ m, trB wv os = some m → ∀ d H', Same H H' → H' d = some (.xd [("word", .str m)]) → H d = none → E (.ref C1) (some d) H')
def spTold (K : PySem.W.Frag) (cS C : Addr) : Sp := fun vs H Q _ => ∃ (wv : V) (l : Addr) (xs : List V) (os : List (Option (Str × Str))), vs = [wv, .ref l] ∧ H l = some (.lst xs) ∧ Seen K H wv ∧ Els K cS H xs os ∧ xs.length ≤ 3 ∧
  (trB wv os = none → ∀ x dx p H', Same H H' → H x = none → H p = none → H' x = some (.ins C dx [("word", wv), ("steps", .ref p)]) → H' p = some (.tup xs) → Q (.ref x) H') ∧
  (∀ m, trB wv os = some m → ∀ p H', Same H H' → H' p = some (.tup [.str "refused", .str m]) → Q (.ref p) H')
theorem tr_tail {K : PySem.W.Frag} {cS C C1 : Addr} {wv : V} {xs : List V} {os : List (Option (Str × Str))} {H : Hp} {Q : VK} {E : XK} (sw : Seen K H wv) (he : Els K cS H xs os) (h3 : xs.length ≤ 3)
    (qy : trB wv os = none → ∀ x dx p H', Same H H' → H x = none → H p = none → H' x = some (.ins C dx [("word", wv), ("steps", .ref p)]) → H' p = some (.tup xs) → Q (.ref x) H')
    (qn : ∀ m, trB wv os = some m → ∀ d H', Same H H' → H' d = some (.xd [("word", .str m)]) → H d = none → E (.ref C1) (some d) H')
    {x dx : Addr} (nx : H x = none) (nd : H dx = none) (ne : dx ≠ x) {p : Addr} (hp : (upd (upd H dx (.own x)) x (.ins C dx [])) p = none) :
    spTrX K cS C C1 ([.ref x, wv] ++ [.ref p]) (upd (upd (upd H dx (.own x)) x (.ins C dx [])) p (.tup xs)) (fun v H2 => v = .non ∧ Q (.ref x) H2) E := by
  have px : x ≠ p := fun e => by
    rw [← e, upd_same] at hp
    cases hp
  have np : H p = none := by
    by_cases hpd : p = dx
    · rw [hpd]; exact nd
    · rw [upd_ne px.symm, upd_ne hpd] at hp
      exact hp
  have s : Same H (upd (upd (upd H dx (.own x)) x (.ins C dx [])) p (.tup xs)) := fun b o e => by
    rw [upd_ne (ne_of_none e np), upd_ne (ne_of_none e nx), upd_ne (ne_of_none e nd)]
    exact e
  refine ⟨x, dx, p, wv, xs, os, rfl, by rw [upd_ne px]; exact upd_same, upd_same, seen_same s sw, he.same s, by omega, fun tn H' hx kk => ⟨rfl, qy tn x dx p H' (fun b o e => kk b o (ne_of_none e nx) (s b o e)) nx np hx (kk p _ px.symm upd_same)⟩, fun m tm d H' s' hd nd' => qn m tm d H' (s.trans s') hd (s.free nd')⟩
section
variable {P : Program} {w : World} {K : PySem.W.Frag} {mg : Str → Option Value} {base : Heap}
theorem scTrait : FnScope ["_law_word_here", "_law_some"] ["_law_word_here", "_law_some"] (defScope sTrait) := ⟨rfl, rfl, rfl, by decide +kernel, rfl, by decide +kernel, by decide +kernel⟩
theorem ok_traitX {cS C C1 iT f : Addr} {fd : FuncData} (S : Std mg) (gC : mg "Trait" = some (.ref C)) (M : Mk K C iT)
    (GT : FnR P w K mg base (L2N.CX P w) 4 iT (fun vs H Q E => ∃ ws rest, vs = ws ++ rest ∧ ws.length = (["self", "word"] : List Str).length ∧ rest.length ≤ sizeLine ∧ ∀ p, H p = Option.none → spTrX K cS C C1 (ws ++ [V.ref p]) (upd H p (.tup rest)) Q E))
    (F : Fun K "_law_trait" "_law_trait" sTrait f fd) : FnOk P w K mg base (L2N.CX P w) 6 f fd ["_law_word_here", "_law_some"] (spTraitX K cS C C1) := by
  refine okN F scTrait (fun vs H Q E h => ?_) (fun cdv A outer s H vs Q E hr h => ?_)
  · obtain ⟨wv, l, xs, os, rfl, _⟩ := h
    rfl
  · obtain ⟨wv, l, xs, os, rfl, hl, sw, he, h3, qy, qn⟩ := h
    have out := fun (tk : L2N.Takes (cxOf (L2N.CX P w) P w K mg base ["_law_word_here", "_law_some"] "_law_trait" (defScope sTrait) f cdv A outer s H E) (fun cls d _ H => E cls d H)) σ => L2N.passAt tk σ
    refine ⟨_, pss_cons (ps_if (pt_cmpR op_eq (pe_callB call_len_seq (by rfl) S.len PySem.boot_len (pa_cons (pv 1) pa_nil)) pe_int (nomark _)) (pss_one (ps_ret (pe_makeRS M GT hr rfl gC (out (L2N.takes_of rfl rfl rfl rfl)) (pa_cons (pv 0) pa_nil)))) pss_nil)
      (pss_cons (ps_if (pt_cmpR op_eq (pe_callB call_len_seq (by rfl) S.len PySem.boot_len (pa_cons (pv 1) pa_nil)) pe_int (nomark _)) (pss_one (ps_ret (pe_makeRS M GT hr rfl gC (out (L2N.takes_of rfl rfl rfl rfl)) (pa_cons (pv 0) (pa_cons (pe_ix ix_list (pv 1) pe_int (fun _ _ => rfl)) pa_nil))))) pss_nil)
      (pss_cons (ps_if (pt_cmpR op_eq (pe_callB call_len_seq (by rfl) S.len PySem.boot_len (pa_cons (pv 1) pa_nil)) pe_int (nomark _)) (pss_one (ps_ret (pe_makeRS M GT hr rfl gC (out (L2N.takes_of rfl rfl rfl rfl)) (pa_cons (pv 0) (pa_cons (pe_ix ix_list (pv 1) pe_int (fun _ _ => rfl)) (pa_cons (pe_ix ix_list (pv 1) pe_int (fun _ _ => rfl)) pa_nil)))))) pss_nil)
      (pss_one (ps_ret (pe_makeRS M GT hr rfl gC (out (L2N.takes_of rfl rfl rfl rfl)) (pa_cons (pv 0) (pa_cons (pe_ix ix_list (pv 1) pe_int (fun _ _ => rfl)) (pa_cons (pe_ix ix_list (pv 1) pe_int (fun _ _ => rfl)) (pa_cons (pe_ix ix_list (pv 1) pe_int (fun _ _ => rfl)) pa_nil))))))))), ?_⟩
    have hS : SqL K H l xs := SqL.of hl
    refine ⟨_, rfl, l, _, rfl, .inl hS, rfl, _, rfl, ?_⟩
    match xs, h3, hS, he, qy with
    | [], h3, hS, he, qy =>
      refine iteT ⟨_, rfl, fun x dx nx nd ne => ⟨[.ref x, wv], [], rfl, rfl, by show 0 ≤ sizeLine; decide, fun p hp => ?_⟩⟩
      exact tr_tail sw he h3 qy qn nx nd ne hp
    | [v0], h3, hS, he, qy =>
      refine iteF ⟨_, rfl, l, _, rfl, .inl hS, rfl, _, rfl, iteT ⟨_, rfl, _, rfl, l, _, 0, v0, rfl, rfl, hS, rfl, fun x dx nx nd ne => ⟨[.ref x, wv], [v0], rfl, rfl, by show 1 ≤ sizeLine; decide, fun p hp => ?_⟩⟩⟩
      exact tr_tail sw he h3 qy qn nx nd ne hp
    | [v0, v1], h3, hS, he, qy =>
      refine iteF ⟨_, rfl, l, _, rfl, .inl hS, rfl, _, rfl, iteF ⟨_, rfl, l, _, rfl, .inl hS, rfl, _, rfl, iteT ⟨_, rfl, _, rfl, l, _, 0, v0, rfl, rfl, hS, rfl, _, rfl, l, _, 1, v1, rfl, rfl, hS, rfl, fun x dx nx nd ne => ⟨[.ref x, wv], [v0, v1], rfl, rfl, by show 2 ≤ sizeLine; decide, fun p hp => ?_⟩⟩⟩⟩
      exact tr_tail sw he h3 qy qn nx nd ne hp
    | [v0, v1, v2], h3, hS, he, qy =>
      refine iteF ⟨_, rfl, l, _, rfl, .inl hS, rfl, _, rfl, iteF ⟨_, rfl, l, _, rfl, .inl hS, rfl, _, rfl, iteF ⟨_, rfl, _, rfl, l, _, 0, v0, rfl, rfl, hS, rfl, _, rfl, l, _, 1, v1, rfl, rfl, hS, rfl, _, rfl, l, _, 2, v2, rfl, rfl, hS, rfl, fun x dx nx nd ne => ⟨[.ref x, wv], [v0, v1, v2], rfl, rfl, by show 3 ≤ sizeLine; decide, fun p hp => ?_⟩⟩⟩⟩
      exact tr_tail sw he h3 qy qn nx nd ne hp
    | _ :: _ :: _ :: _ :: _, h3, _, _, _ =>
      simp at h3
def nTold : List Str := ["_law_word_here", "_law_some", "_law_found", "_law_e"]
theorem scTold : FnScope nTold ["_law_word_here", "_law_some"] (defScope sTold) := ⟨rfl, rfl, rfl, by decide +kernel, rfl, by decide +kernel, by decide +kernel⟩
theorem ok_told {cS C fT fR f B : Addr} {fdT fdR fd : FuncData} {CC cE : Nat → Addr} {cD : Nat → FuncData} (S : Std mg) (G : Errs K mg CC B cE cD) (ex : PySem.W.exmOne K (.ref (CC 1)) (.ref B) = some true)
    (TR : Df K mg "_law_trait" sTrait fT fdT ["_law_word_here", "_law_some"]) (GT : FnOk P w K mg base (L2N.CX P w) 6 fT fdT ["_law_word_here", "_law_some"] (spTraitX K cS C (CC 1))) (RF : Df K mg "_law_refused" sRefused fR fdR ["_law_e"])
    (F : Fun K "_law_told" "_law_told" sTold f fd) : FnOk P w K mg base CX0 7 f fd ["_law_word_here", "_law_some"] (spTold K cS C) := by
  have e1 := G.er 1 (by decide)
  have GR : FnE P w K mg base 1 fR fdR ["_law_e"] (spRefE K CC) := ok_refusedE S G RF.F
  refine F.ok scTold (fun vs H Q E h => ?_) (fun cdv A outer s H vs Q E hr h => ?_)
  · obtain ⟨wv, l, xs, os, rfl, _⟩ := h
    rfl
  · obtain ⟨wv, l, xs, os, rfl, hl, sw, he, h3, qy, qn⟩ := h
    refine ⟨_, pss_cons (ps_set (i := 2) scTold.nd rfl (Or.inl rfl) pe_str)
      (pss_cons (L2N.ps_try_as (i := 3) (Wout := fun _ _ _ _ => False) rfl rfl scTold.nd rfl rfl ⟨rfl, by decide, .inl G.base.g⟩ tk0
        (fun W pn xe tk _ => pss_one (ps_set (i := 2) scTold.nd rfl (Or.inl rfl) (L2.pe_callS GT hr rfl TR.g TR.F.kp TR.b (fun σ => L2N.passAt tk σ) (pa_cons (pv 0) (pa_cons (pv 1) pa_nil)))))
        (fun a oe cls d pn zn fl => pss_one (ps_if (pt_cmpR (show OpR _ _ (rEqD K) from op_eqD hr.units) (show PE _ _ (tRefE K CC a cls d 3) from pe_refE (X := (cxOf CX0 P w K mg base nTold "_law_told" (defScope sTold) f cdv A outer s H E).nox.suite a ((a, oe) :: pn)) (cls := cls) (d := d) GR ⟨(hr.mono (show 1 ≤ 6 by decide)).dp, (hr.mono (show 1 ≤ 6 by decide)).un⟩ (hot_of rfl zn fl) List.mem_cons_self zn.zc fl RF.g RF.F.kp RF.b (i := 3)) (pe_lst (pa_cons pe_int pa_nil)) (nomark _))
          (pss_one (ps_set (i := 2) scTold.nd rfl (Or.inl rfl) (pe_tup (pa_cons pe_str (pa_cons (pe_xf e1.X e1.no zn.zc fl (pv 3)) pa_nil))))) pss_nil)))
      (pss_one (ps_ret (pv 2)))), ?_⟩
    refine ⟨_, rfl, _, rfl, wv, l, xs, os, rfl, hl, sw, he, h3, fun tn x dx p H' s' nx np hx hp => ?_, fun m tm d H' s' hd nd' => ?_⟩
    · exact ⟨_, rfl, qy tn x dx p H' s' nx np hx hp⟩
    · refine ⟨true, ex, fun _ a ha => ?_, fun z => nomatch z⟩
      refine ⟨_, rfl, rfl, CC 1, (fun j => decide (1 = j)), rfl, ⟨fun dx' e => ⟨_, by cases e; exact hd⟩⟩, e1.E, fun j hj => G.k1 1 j (by decide) hj, fun p H2 s2 hp => ?_⟩
      rw [ix_one 1 (by decide)] at hp
      refine ⟨by show 1 ≤ sizeLine; decide, fun p2 hp2 => ?_⟩
      have s3 := same_new (o := .lst [.int 1]) hp2
      refine ⟨.list [.int 1], .list [.int 1], dp_one (s3 _ _ hp), dp_one upd_same, rfl, rfl, _, rfl, ?_⟩
      rw [show PyData.eqv (.list [.int 1]) (.list [.int 1]) = true by decide +kernel]
      have s4 := s2.trans s3
      refine iteT ⟨_, rfl, rfl, rfl, d, _, _, rfl, s4 _ _ hd, rfl, by show 2 ≤ sizeLine; decide, fun p3 hp3 => ?_⟩
      exact ⟨_, rfl, qn m tm p3 _ ((s'.trans s4).trans (same_new hp3)) upd_same⟩
end
end LK

/-! x in a tuple or a list of things with an own __eq__ -/
namespace LR
open PySem PySem.SeqAt
open AutoSeq1 (wpAny_loadPart')
open MeetsSeq MeetsSeq2 MeetsSeq3 SeqRoads2
section
variable {prog : Program} {w : World} {A : Around} {R : Result → Shared → Prop}
theorem tuple_inB (l : Addr) (x : Value) (items : Array Value) (n : Nat) (dd : Option Addr) (sl : Array (Option Value)) (f : Nat → Bool) (I : Shared → Prop)
    (turn : ∀ i (h1 : i < items.size) s, I s → wpAny (model prog w) A.in1 (eqBool items[i] x) (fun r s' => r = f i ∧ I s') (fun e s' => R (.error e) s') s)
    (res : Bool) (yes : ∀ i, i < items.size → f i = true → res = true) (no : (∀ i, i < items.size → f i = false) → res = false)
    (fin : ∀ s, I s → R (.ok (.ret (.bool res))) s) {s : Shared} (hl1 : s.heap.get? l = some { cls := .type "tuple", dict := dd, data := .seq items n, slots := sl }) (h : I s) :
    wpAny (model prog w) A.in1 (Builtin.«tuple.__contains__» ⟨[.ref l, x], []⟩) (GQ.FinOf prog w A R) (fun e s' => R (.error e) s') s := by
  have h0 := h
  obtain ⟨hp, g, d, tk, os⟩ := s
  wp_walk using wpAny_loadPart' hl1, wpAny_forIn_array _ (fun rest b s' => b.1 = none ∧ ∃ i, rest = items.toList.drop i ∧ (∀ j, j < i → f j = false) ∧ I s') _
  case turn =>
    rintro y rest b s' ⟨hb', i, hz, hi, hI⟩
    have h1 : i < items.size := by
      rcases Nat.lt_or_ge i items.size with h' | h'
      · exact h'
      · rw [List.drop_of_length_le (by simpa using h')] at hz; cases hz
    rw [List.drop_eq_getElem_cons (by simpa using h1)] at hz
    injection hz with hyx hrest
    have hy : y = items[i] := by simpa using hyx
    subst hy
    refine wpAny_bind (wpAny_mono (turn i h1 s' hI) (fun r s2 q2 => ?_) fun _ _ x => x)
    obtain ⟨hr, q2⟩ := q2
    subst hr
    cases hf : f i with
    | false =>
      wp_walk
      exact ⟨rfl, i + 1, hrest, fun j hj => by
        rcases Nat.lt_or_ge j i with q | q
        · exact hi j q
        · rw [show j = i by omega]; exact hf, q2⟩
    | true =>
      have hR : R (.ok (.ret (.bool res))) s2 := fin s2 q2
      rw [yes i h1 hf] at hR
      wp_walk
      exact hR
  case fin =>
    rintro ⟨b1, b2⟩ s' ⟨hb', i, hz, hi, hI⟩
    simp only at hb'
    subst hb'
    have hge : items.size ≤ i := by
      rcases Nat.lt_or_ge i items.size with h' | h'
      · rw [List.drop_eq_getElem_cons (by simpa using h')] at hz; cases hz
      · exact h'
    have hR : R (.ok (.ret (.bool res))) s' := fin s' hI
    rw [no fun j h1 => hi j (by omega)] at hR
    wp_walk
    exact hR
  case h =>
    exact ⟨rfl, 0, rfl, fun j hj => absurd hj (Nat.not_lt_zero _), h0⟩
def ListC (l : Addr) (N : Nat) (I : Shared → Prop) : Prop :=
  ∀ s, I s → ∃ (items : Array Value) (n : Nat), s.heap.get? l = some { cls := .type "list", data := .seq items n } ∧ items.size = N
def TurnC (prog : Program) (w : World) (A : Around) (E : Value → Shared → Prop) (l : Addr) (x : Value) (f : Nat → Bool) (I : Shared → Prop) : Prop :=
  ∀ s (items : Array Value) (n : Nat), I s → s.heap.get? l = some { cls := .type "list", data := .seq items n } →
    ∀ i (h1 : i < items.size), wpAny (model prog w) A.in1 (eqBool items[i] x) (fun r s' => r = f i ∧ I s') E s
theorem in_loopB (l : Addr) (x : Value) (N : Nat) (f : Nat → Bool) (I : Shared → Prop) (hl : ListC l N I) (turn : TurnC prog w A (fun e s' => R (.error e) s') l x f I)
    (res : Bool) (yes : ∀ i, i < N → f i = true → res = true) (no : (∀ i, i < N → f i = false) → res = false)
    (fin : ∀ s, I s → R (.ok (.ret (.bool res))) s) (k : Nat) :
    ∀ i : Nat, N - i = k → i ≤ N → (∀ j, j < i → f j = false) → ∀ s, I s →
      wpAny (model prog w) A.in1 (Builtin.«list.__contains__.loop» ⟨[.ref l, x, rawInt i], []⟩) (GQ.FinOf prog w A R) (fun e s' => R (.error e) s') s := by
  induction k with
  | zero =>
    intro i hk hi hj s h
    obtain ⟨items, n, hl1, hs1⟩ := hl _ h
    have hR : R (.ok (.ret (.bool res))) s := fin s h
    rw [no fun j q => hj j (by omega)] at hR
    obtain ⟨hp, g, d, tk, os⟩ := s
    wp_walk using wpAny_loadPart' hl1
    have hi1 : items[((i : Nat) : Int).toNat]? = none := by simp; omega
    rw [hi1]
    wp_walk
    exact hR
  | succ k ih =>
    intro i hk hi hj s h
    obtain ⟨items, n, hl1, hs1⟩ := hl _ h
    have hlt : i < items.size := by omega
    have ht := turn s items n h hl1 i hlt
    obtain ⟨hp, g, d, tk, os⟩ := s
    wp_walk using wpAny_loadPart' hl1
    have hi1 : items[((i : Nat) : Int).toNat]? = some items[i] := by simp [hlt]
    have hc : ((i : Int) + 1) = ((i + 1 : Nat) : Int) := by omega
    rw [hi1]
    refine wpAny_bind (wpAny_mono ht (fun r s2 h2 => ?_) fun _ _ x => x)
    obtain ⟨hr, h2⟩ := h2
    subst hr
    cases hf : f i with
    | false =>
      have hrec := ih (i + 1) (by omega) (by omega) (fun j q => by
        rcases Nat.lt_or_ge j i with q' | q'
        · exact hj j q'
        · rw [show j = i by omega]; exact hf) s2 h2
      obtain ⟨hp2, g2, d2, tk2, os2⟩ := s2
      wp_walk
      rw [hc]
      exact ⟨plainId_quiet plain_contains_loop _, codeAny_builtin entry_contains_loop (by
        rw [Around.under_plainId plain_contains_loop _]
        exact hrec)⟩
    | true =>
      have hR : R (.ok (.ret (.bool res))) s2 := fin s2 h2
      rw [yes i (by omega) hf] at hR
      wp_walk
      exact hR
theorem list_inB (l : Addr) (x : Value) (N : Nat) (f : Nat → Bool) (I : Shared → Prop) (hl : ListC l N I) (turn : TurnC prog w A (fun e s' => R (.error e) s') l x f I)
    (res : Bool) (yes : ∀ i, i < N → f i = true → res = true) (no : (∀ i, i < N → f i = false) → res = false)
    (fin : ∀ s, I s → R (.ok (.ret (.bool res))) s) {s : Shared} (h : I s) :
    wpAny (model prog w) A.in1 (Builtin.«list.__contains__» ⟨[.ref l, x], []⟩) (GQ.FinOf prog w A R) (fun e s' => R (.error e) s') s := by
  have hrec := in_loopB (A := A) (R := R) l x N f I hl turn res yes no fin _ 0 rfl (Nat.zero_le _) (fun j q => absurd q (Nat.not_lt_zero _)) s h
  obtain ⟨items, n, hl1, hs1⟩ := hl _ h
  obtain ⟨hp, g, d, tk, os⟩ := s
  wp_walk using wpAny_loadPart' hl1
  exact ⟨plainId_quiet plain_contains_loop _, codeAny_builtin entry_contains_loop (by
    rw [Around.under_plainId plain_contains_loop _]
    exact hrec)⟩
end
end LR
namespace LR
open PySem PySem.Spec PyProof.Rows L2
def anyB (n : Nat) (f : Nat → Bool) : Bool := (List.range n).any f
theorem anyB_yes {n : Nat} {f : Nat → Bool} {i : Nat} (h : i < n) (hf : f i = true) : anyB n f = true := List.any_eq_true.mpr ⟨i, List.mem_range.mpr h, hf⟩
theorem anyB_no {n : Nat} {f : Nat → Bool} (h : ∀ i, i < n → f i = false) : anyB n f = false := List.any_eq_false.mpr fun i hi => by
  rw [h i (List.mem_range.mp hi)]
  exact Bool.false_ne_true
section
variable {X : Cx} {n : Nat} {D : EqvB}
theorem turnC (hD : MonB D) (h : EqGB X n D) {A : Around} (sb : Sub X (n + 1) A) {pins : List (Addr × Obj)} {σ : L2.St} {H : Hp} {xs : List V} {x : V} {u : Value} {f : Nat → Bool} {its : List Value} (p : ∀ (i : Nat) v, xs[i]? = some v → D v x (f i) H) (r : Vals xs its) (rx : RelV x u)
    (i : Nat) (h1 : i < its.toArray.size) (s' : Shared) (l : LoopI X pins σ H s') :
    wpAny (model X.prog X.w) A.in1 (eqBool its.toArray[i] u) (fun r s2 => r = f i ∧ LoopI X pins σ H s2) X.xe s' := by
  obtain ⟨H1, I1, e1⟩ := l
  have g1 : its[i]? = some its.toArray[i] := by
    have h1' : i < its.length := by simpa using h1
    rw [List.getElem?_eq_getElem h1'] <;> simp
  have k1 : i < xs.length := by rw [r.length]; simpa using h1
  obtain ⟨v, hu, ru⟩ := r.get (List.getElem?_eq_getElem k1)
  rw [g1] at hu
  rw [Option.some.inj hu]
  refine wpAny_mono (h A.in1 pins s' σ H1 _ _ _ v u sb.in1 I1 ru rx (hD _ _ _ _ _ e1 (p i _ (List.getElem?_eq_getElem k1)))) (fun r s2 q => ?_) fun _ _ x => x
  obtain ⟨hr, H2, I2, e2⟩ := q
  exact ⟨hr, H2, I2, e1.trans e2⟩
def rInGB (K : PySem.W.Frag) (neg : Bool) (D : EqvB) : R2 := fun x y H Q => ∃ p xs f, y = .ref p ∧ (SqT K H p xs ∨ H p = some (.lst xs)) ∧ (∀ (i : Nat) v, xs[i]? = some v → D v x (f i) H) ∧ ∀ H', Ext H H' → Q (.bl (if neg then !anyB xs.length f else anyB xs.length f)) H'
theorem contGB (hD : MonB D) (h : EqGB X n D) (hr : Room (n + 1) X.A) {pins : List (Addr × Obj)} {σ : L2.St} {H : Hp} {s : Shared} {x : V} {u : Value} {p : Addr} {xs : List V} {f : Nat → Bool} (I : Inv X pins σ H s) (rx : RelV x u) (hp : SqT X.K H p xs ∨ H p = some (.lst xs)) (hf : ∀ (i : Nat) v, xs[i]? = some v → D v x (f i) H) :
    wpAny (model X.prog X.w) X.A (contains (.ref p) u) (fun b s' => b = anyB xs.length f ∧ LoopI X pins σ H s') X.xe s := by
  rcases hp with hp | hp
  · obtain ⟨its, r, e, z⟩ := I.tuple hp
    obtain ⟨⟨cls, dd, data, sl⟩, ho, hc, n', hd⟩ := id e
    simp only at hc hd
    subst hc hd
    have l1 : its.toArray.size = xs.length := by rw [List.size_toArray, ← r.length]
    refine wpAny_contains_slot ⟨_, ho, rfl⟩ PySem.F.slot_tuple_contains (wpAny_mono (GQ.call_here (Q := fun v s' => v = .bool (anyB xs.length f) ∧ LoopI X pins σ H s') PySem.F.slot_tuple_contains ⟨_, ho, rfl⟩ PySem.F.entry_tuple_contains (PySem.F.args_tuple_contains_2 _ _) ?_) (fun v s' hv => ?_) fun _ _ e => e)
    · exact tuple_inB (R := wants (fun v s' => v = .bool (anyB xs.length f) ∧ LoopI X pins σ H s') X.xe) p u its.toArray n' dd sl f (fun s' => LoopI X pins σ H s') (fun i h1 s' q => turnC hD h ⟨hr, rfl⟩ hf r rx i h1 s' q) (anyB xs.length f) (fun i h1 q => anyB_yes (by omega) q) (fun q => anyB_no fun i hi => q i (by omega)) (fun s' q => ⟨rfl, q⟩) ho ⟨H, I, Ext.rfl'⟩
    · obtain ⟨rfl, q⟩ := hv
      exact wpAny_truthy_bool ⟨rfl, q⟩
  · obtain ⟨z, its, k, r, e⟩ := I.hok p _ hp
    have key : ∀ s', LoopI X pins σ H s' → ∃ (its : List Value) (k : Nat), Vals xs its ∧ s'.heap.get? p = some { cls := .type "list", data := .seq its.toArray k } := by
      rintro s' ⟨H1, I1, e1⟩
      obtain ⟨z, its, k, r, e⟩ := I1.hok p _ (e1 _ _ hp)
      exact ⟨its, k, r, e⟩
    refine wpAny_contains_slot ⟨_, e, rfl⟩ PySem.F.slot_list_contains (wpAny_mono (GQ.call_here (Q := fun v s' => v = .bool (anyB xs.length f) ∧ LoopI X pins σ H s') PySem.F.slot_list_contains ⟨_, e, rfl⟩ PySem.F.entry_list_contains (PySem.F.args_list_contains_2 _ _) ?_) (fun v s' hv => ?_) fun _ _ e => e)
    · refine list_inB (R := wants (fun v s' => v = .bool (anyB xs.length f) ∧ LoopI X pins σ H s') X.xe) p u xs.length f (fun s' => LoopI X pins σ H s') (fun s' q => ?_) (fun s' items n1 q g1 i h1 => ?_) (anyB xs.length f) (fun i h1 q => anyB_yes h1 q) (fun q => anyB_no q) (fun s' q => ⟨rfl, q⟩) ⟨H, I, Ext.rfl'⟩
      · obtain ⟨its, k, r, e⟩ := key s' q
        exact ⟨its.toArray, k, e, by rw [List.size_toArray, ← r.length]⟩
      · obtain ⟨its, k, r, e⟩ := key s' q
        rw [g1] at e
        obtain ⟨rfl⟩ : items = its.toArray := by injection e with e; injection e with _ _ e; injection e
        exact turnC hD h ⟨hr, rfl⟩ hf r rx i h1 s' q
    · obtain ⟨rfl, q⟩ := hv
      exact wpAny_truthy_bool ⟨rfl, q⟩
theorem op_inGB (hD : MonB D) (h : EqGB X n D) (hr : Room (n + 1) X.A) : OpR X (compareOp .In) (rInGB X.K false D) := by
  intro pins s σ H x y v u Q I rx ry hq
  obtain ⟨p, xs, f, rfl, hp, hf, q⟩ := hq
  cases ry
  show wpAny _ X.A (do return .bool (← contains (.ref p) v)) (EP X pins σ Q) X.xe s
  refine wpAny_bind (wpAny_mono (contGB hD h hr I rx hp hf) (fun b s' hv => ?_) fun _ _ z => z)
  obtain ⟨rfl, H', I', e⟩ := hv
  exact wpAny_pure ⟨.bl _, H', I', rfl, q H' e⟩
theorem op_notInGB (hD : MonB D) (h : EqGB X n D) (hr : Room (n + 1) X.A) : OpR X (compareOp .NotIn) (rInGB X.K true D) := by
  intro pins s σ H x y v u Q I rx ry hq
  obtain ⟨p, xs, f, rfl, hp, hf, q⟩ := hq
  cases ry
  show wpAny _ X.A (do return .bool (!(← contains (.ref p) v))) (EP X pins σ Q) X.xe s
  refine wpAny_bind (wpAny_mono (contGB hD h hr I rx hp hf) (fun b s' hv => ?_) fun _ _ z => z)
  obtain ⟨rfl, H', I', e⟩ := hv
  exact wpAny_pure ⟨.bl _, H', I', rfl, q H' e⟩
end
end LR

namespace LK
open PySem PySem.Spec PyProof.Rows L2 LR
/-! ### which ways fit, by the law -/
theorem iteY {b : Bool} {P Q : Prop} (h : b = true) (p : P) : if b = true then P else Q := by rw [if_pos h]; exact p
theorem iteN {b : Bool} {P Q : Prop} (h : b = false) (q : Q) : if b = true then P else Q := by rw [if_neg (by rw [h]; decide)]; exact q
theorem eqV_str {a b : Str} : eqV (.str a) (.str b) = decide (a = b) := by
  by_cases h : a = b
  · subst h
    rw [decide_eq_true rfl]
    simp [eqV]
  · rw [decide_eq_false h]
    simp [eqV, h]
theorem prs_strs (ys zs : List Str) (H : Hp) : ∃ f, PrsB DFlatB (ys.map V.str) (zs.map V.str) f H ∧ ansB (ys.map V.str) (zs.map V.str) f = decide (ys = zs) := by
  refine ⟨fun i => decide (ys[i]? = zs[i]?), fun i x y e1 e2 => ?_, ?_⟩
  · rw [List.getElem?_map] at e1 e2
    obtain ⟨a, ha, rfl⟩ := Option.map_eq_some_iff.mp e1
    obtain ⟨b, hb, rfl⟩ := Option.map_eq_some_iff.mp e2
    refine ⟨rfl, rfl, ?_⟩
    show _ = decide (ys[i]? = zs[i]?)
    rw [eqV_str, ha, hb]
    by_cases h : a = b
    · rw [decide_eq_true h, decide_eq_true (by rw [h])]
    · rw [decide_eq_false h, decide_eq_false (fun e => h (by injection e))]
  · by_cases h : ys = zs
    · rw [decide_eq_true h, ansB_yes]
      · subst h
        simp
      · intro i h1 h2
        rw [h]
        exact decide_eq_true rfl
    · rw [decide_eq_false h]
      by_cases hl : ys.length = zs.length
      · have : ∃ i, i < ys.length ∧ ys[i]? ≠ zs[i]? := by
          refine Classical.byContradiction fun no => h (List.ext_getElem? fun i => ?_)
          by_cases hi : i < ys.length
          · exact Classical.byContradiction fun q => no ⟨i, hi, q⟩
          · rw [List.getElem?_eq_none (by omega), List.getElem?_eq_none (by omega)]
        obtain ⟨i, hi, hne⟩ := this
        exact ansB_no (by rw [List.length_map]; exact hi) (by rw [List.length_map]; omega) (decide_eq_false hne)
      · unfold ansB
        rw [show ((ys.map V.str).length == (zs.map V.str).length) = false by simpa using hl, Bool.and_false]
/-- two different lists compared -/
def DListN (D : EqvB) : EqvB := fun x y r H => ∃ a b, x = .ref a ∧ y = .ref b ∧ a ≠ b ∧ DListB D x y r H
theorem mon_listN {D : EqvB} (hD : MonB D) : MonB (DListN D) := fun x y r H H' e d => by
  obtain ⟨a, b, hx, hy, ne, d⟩ := d
  exact ⟨a, b, hx, hy, ne, mon_listB hD x y r H H' e d⟩
theorem eqGB_listN {X : Cx} {n : Nat} {D : EqvB} (hD : MonB D) (h : EqGB X n D) : EqGB X (n + 1) (DListN D) :=
  RcGB.eqG (D := DListN D) (fun A pins s σ H x y b u v sb I rx ry d => by
    obtain ⟨_, _, _, _, _, d⟩ := d
    exact rcGB_list hD h A pins s σ H x y b u v sb I rx ry d) fun x y r H d => by
    obtain ⟨a, b, hx, hy, ne, _⟩ := d
    exact ⟨a, b, hx, hy, fun e => absurd e ne⟩
def twoB : List Str → Bool
  | [a, b] => decide (a = b)
  | _ => false
def lawFit (x : Str) (ys : List Str) : Bool :=
  if x = "up" ∨ x = "down" ∨ x = "settled" then decide (ys = (["+"] : List Str)) else if x = "mean" then decide (ys = (["++"] : List Str)) else if x = "alike" then (decide ((["++"] : List Str) = ys) || (decide ((["--"] : List Str) = ys) || decide ((["??"] : List Str) = ys)))
  else if x = "below" then twoB ys else decide (ys = (["+", "+"] : List Str))
def spFits (K : PySem.W.Frag) (cS : Addr) : Sp := fun vs H Q _ => ∃ (x : Str) (l : Addr) (xs : List V) (os : List (Option (Str × Str))), vs = [.str x, .ref l] ∧ x ∈ words7 ∧ H l = some (.lst xs) ∧ Els K cS H xs os ∧ xs.length ≤ 3 ∧ os.all Option.isSome = true ∧ ∀ H', Same H H' → Q (.bl (lawFit x (os.map waysOf))) H'
theorem map_take {α β : Type} {xs : List α} {f : α → β} {i : Nat} {x : α} (h : xs[i]? = some x) : (xs.take (i + 1)).map f = (xs.take i).map f ++ [f x] := by
  rw [List.take_add_one, h, List.map_append]
  rfl
theorem words7_cases {x : Str} (h : x ∈ words7) : x = "up" ∨ x = "down" ∨ x = "settled" ∨ x = "mean" ∨ x = "alike" ∨ x = "below" ∨ x = "back" := by
  simpa [words7] using h
section
variable {P : Program} {w : World} {K : PySem.W.Frag} {mg : Str → Option Value} {base : Heap}
def nFits : List Str := ["_law_word_here", "_law_steps", "_law_ways_here", "_law_step"]
theorem scFits : FnScope nFits ["_law_word_here", "_law_steps"] (defScope sFits) := ⟨rfl, rfl, rfl, by decide +kernel, rfl, by decide +kernel, by decide +kernel⟩
theorem ok_fits {cS f : Addr} {fd : FuncData} (S : Std mg) (c : OwnCl K mg "Step" cS) (n2 : NoAttr K cS "ways") (F : Fun K "_law_fits" "_law_fits" sFits f fd) : FnOk P w K mg base CX0 3 f fd ["_law_word_here", "_law_steps"] (spFits K cS) := by
  refine F.ok scFits (fun vs H Q E h => ?_) (fun cdv A outer s H vs Q E hr h => ?_)
  · obtain ⟨x, l, xs, os, rfl, _⟩ := h
    rfl
  · obtain ⟨x, l, xs, os, rfl, hx, hl, he, h3, ha, q⟩ := h
    have hr1 : Room 1 _ := hr.mono (by decide)
    refine ⟨_, pss_cons (ps_setLc (i := 2) (own := [("_law_step", 3)]) (g := gName 3) (tt := tYes) (te := tFld K (tVar 3) "ways") rfl scFits.nd rfl rfl (sw_true rfl rfl rfl (by decide +kernel))
          (pi_list (pv 1)) (blkOk_by (N := nFits) (sc := defScope sFits) (by decide +kernel)) (fun _ _ _ _ _ => pg_name (i := 3) scFits.nd rfl (Or.inl rfl)) (fun _ _ _ _ _ => pts_nil) (fun _ _ _ _ _ => pe_fld (pv 3) rfl))
      (pss_cons (ps_if (pt_cmpR op_in_seq (pv 0) (pe_tup (pa_cons pe_str (pa_cons pe_str (pa_cons pe_str pa_nil)))) (by rfl)) (pss_one (ps_ret (pe_cmpR (op_eqGB (rcGB_list mon_flatB eqGB_flat) hr1) (pv 2) (pe_lst (pa_cons pe_str pa_nil)) (nomark _)))) pss_nil)
      (pss_cons (ps_if (pt_cmpR op_eq (pv 0) pe_str (nomark _)) (pss_one (ps_ret (pe_cmpR (op_eqGB (rcGB_list mon_flatB eqGB_flat) hr1) (pv 2) (pe_lst (pa_cons pe_str pa_nil)) (nomark _)))) pss_nil)
      (pss_cons (ps_if (pt_cmpR op_eq (pv 0) pe_str (nomark _)) (pss_one (ps_ret (pe_cmpR (op_inGB (mon_listN mon_flatB) (eqGB_listN mon_flatB eqGB_flat) hr) (pv 2) (pe_tup (pa_cons (pe_lst (pa_cons pe_str pa_nil)) (pa_cons (pe_lst (pa_cons pe_str pa_nil)) (pa_cons (pe_lst (pa_cons pe_str pa_nil)) pa_nil)))) (by rfl)))) pss_nil)
      (pss_cons (ps_if (pt_cmpR op_eq (pv 0) pe_str (nomark _)) (pss_one (ps_ret (pe_and (pe_cmpR op_eq (pe_callB call_len_seq (by rfl) S.len PySem.boot_len (pa_cons (pv 2) pa_nil)) pe_int (nomark _)) (pe_one (pe_cmpR op_eq (pe_ix ix_list (pv 2) pe_int (fun _ _ => rfl)) (pe_ix ix_list (pv 2) pe_int (fun _ _ => rfl)) (nomark _)))))) pss_nil)
      (pss_one (ps_ret (pe_cmpR (op_eqGB (rcGB_list mon_flatB eqGB_flat) hr1) (pv 2) (pe_lst (pa_cons pe_str (pa_cons pe_str pa_nil))) (nomark _)))))))), ?_⟩
    have le := he.1
    have isS : ∀ {i : Nat} {o}, os[i]? = some o → ∃ zy, o = some zy := fun {i o} e => Option.isSome_iff_exists.mp (List.all_eq_true.mp ha o (List.mem_of_getElem? e))
    refine ⟨_, rfl, l, rfl, ⟨_, SqL.of hl⟩, fun D hD => lc_list (xs := xs) (fun i H4 => Keep D H H4 ∧ H4 D = some (.lst (((os.take i).map waysOf).map V.str))) ⟨Keep.new hD, upd_same⟩ (fun i H4 _ h => SqL.of (h.1 _ _ (ne_of_none hl hD) hl)) (fun i v H4 hv h => ?_) (fun H4 h => ?_)⟩
    · obtain ⟨k4, d4⟩ := h
      have sH : Same H H4 := fun b o e => k4 b o (ne_of_none e hD) e
      obtain ⟨o, ho, el⟩ := he.at hv
      obtain ⟨zy, rfl⟩ := isS ho
      obtain ⟨a, rfl, ⟨da, hha⟩, _⟩ := el.same sH
      refine ⟨rfl, _, rfl, a, cS, da, _, _, rfl, hha, c.cl, n2, rfl, _, d4, ?_, fun b o n e => ?_, ?_⟩
      · rw [List.length_map, List.length_map, List.length_take]
        exact small1000 (by omega)
      · rw [upd_ne n]
        exact k4 b o n e
      · rw [upd_same, map_take ho, List.map_append]
        rfl
    · obtain ⟨k4, d4⟩ := h
      have sH : Same H H4 := fun b o e => k4 b o (ne_of_none e hD) e
      rw [show os.take xs.length = os by rw [le, List.take_length]] at d4
      have l3 : (os.map waysOf).length ≤ 3 := by rw [List.length_map, ← le]; exact h3
      generalize os.map waysOf = ys at d4 q l3
      clear k4 isS
      -- the answer of a comparison with a written list
      have cmp : ∀ (zs : List Str) (H5 : Hp) (r : Addr), Same H4 H5 → H5 r = some (.lst (zs.map V.str)) → lawFit x ys = decide (ys = zs) →
          ∃ b, DListB DFlatB (.ref D) (.ref r) b H5 ∧ ∀ H', Ext H5 H' → Q (.bl b) H' := fun zs H5 r s5 hz e => by
        obtain ⟨f, pf, an⟩ := prs_strs ys zs H5
        refine ⟨_, ⟨D, r, _, _, f, rfl, rfl, s5 _ _ d4, hz, fun _ => pf, rfl⟩, fun H' s' => ?_⟩
        rw [an, ← e]
        exact q _ ((sH.trans s5).trans s')
      refine ⟨_, rfl, by show 3 ≤ sizeLine; decide, fun p hp => ?_⟩
      have sp : Same H4 (upd H4 p (.tup [.str "up", .str "down", .str "settled"])) := same_new hp
      refine ⟨p, _, rfl, .inr (SqT.of upd_same), rfl, rfl, _, rfl, ?_⟩
      generalize upd H4 p (.tup [.str "up", .str "down", .str "settled"]) = H5 at sp ⊢
      -- a comparison with a list written there
      have one : ∀ (z : Str) (r : Addr), H5 r = none → lawFit x ys = decide (ys = [z]) → ∃ b, DListB DFlatB (.ref D) (.ref r) b (upd H5 r (.lst [.str z])) ∧ ∀ H', Ext (upd H5 r (.lst [.str z])) H' → Q (.bl b) H' := fun z r hr e =>
        cmp [z] _ r (sp.trans (same_new hr)) upd_same e
      rcases words7_cases hx with rfl | rfl | rfl | rfl | rfl | rfl | rfl
      · exact iteY (by decide +kernel) ⟨_, rfl, by show 1 ≤ sizeLine; decide, fun r hr => one _ r hr (if_pos (by decide +kernel))⟩
      · exact iteY (by decide +kernel) ⟨_, rfl, by show 1 ≤ sizeLine; decide, fun r hr => one _ r hr (if_pos (by decide +kernel))⟩
      · exact iteY (by decide +kernel) ⟨_, rfl, by show 1 ≤ sizeLine; decide, fun r hr => one _ r hr (if_pos (by decide +kernel))⟩
      · refine iteN (by decide +kernel) ⟨_, rfl, rfl, _, rfl, iteY (by decide +kernel) ?_⟩
        exact ⟨_, rfl, by show 1 ≤ sizeLine; decide, fun r hr => one _ r hr (by unfold lawFit; rw [if_neg (by decide +kernel), if_pos rfl])⟩
      · refine iteN (by decide +kernel) ⟨_, rfl, rfl, _, rfl, iteN (by decide +kernel) ⟨_, rfl, rfl, _, rfl, iteY (by decide +kernel) ?_⟩⟩
        refine ⟨_, rfl, by show 1 ≤ sizeLine; decide, fun r1 h1 => ⟨by show 1 ≤ sizeLine; decide, fun r2 h2 => ⟨by show 1 ≤ sizeLine; decide, fun r3 h3 => ⟨by show 3 ≤ sizeLine; decide, fun p2 hp2 => ?_⟩⟩⟩⟩
        have s1 := same_new (o := .lst [.str "++"]) h1
        have s2 := same_new (o := .lst [.str "--"]) h2
        have s3 := same_new (o := .lst [.str "??"]) h3
        have s4 := same_new (o := .tup [.ref r1, .ref r2, .ref r3]) hp2
        have g1 := s4 _ _ (s3 _ _ (s2 _ _ (upd_same (H := H5) (a := r1) (o := .lst [.str "++"]))))
        have g2 := s4 _ _ (s3 _ _ (upd_same (H := upd H5 r1 (.lst [.str "++"])) (a := r2) (o := .lst [.str "--"])))
        have g3 := s4 _ _ (upd_same (H := upd (upd H5 r1 (.lst [.str "++"])) r2 (.lst [.str "--"])) (a := r3) (o := .lst [.str "??"]))
        have gp := upd_same (H := upd (upd (upd H5 r1 (.lst [.str "++"])) r2 (.lst [.str "--"])) r3 (.lst [.str "??"])) (a := p2) (o := .tup [.ref r1, .ref r2, .ref r3])
        have n1 : r1 ≠ D := (ne_of_none (sp _ _ d4) h1).symm
        have n2 : r2 ≠ D := (ne_of_none (s1 _ _ (sp _ _ d4)) h2).symm
        have n3 : r3 ≠ D := (ne_of_none (s2 _ _ (s1 _ _ (sp _ _ d4))) h3).symm
        have sA := ((s1.trans s2).trans s3).trans s4
        clear s1 s2 s3 s4 h1 h2 h3 hp2
        generalize upd (upd (upd (upd H5 r1 (.lst [.str "++"])) r2 (.lst [.str "--"])) r3 (.lst [.str "??"])) p2 (.tup [.ref r1, .ref r2, .ref r3]) = H6 at g1 g2 g3 gp sA ⊢
        have it : ∀ (r : Addr) (z : Str), r ≠ D → H6 r = some (.lst [.str z]) → DListN DFlatB (.ref r) (.ref D) (decide ([z] = ys)) H6 := fun r z ne e => by
          obtain ⟨f, pf, an⟩ := prs_strs [z] ys H6
          exact ⟨r, D, rfl, rfl, ne, r, D, _, _, f, rfl, rfl, e, sA _ _ (sp _ _ d4), fun _ => pf, an.symm⟩
        refine ⟨p2, _, fun i => match i with | 0 => decide ((["++"] : List Str) = ys) | 1 => decide ((["--"] : List Str) = ys) | _ => decide ((["??"] : List Str) = ys), rfl, .inl (SqT.of gp), fun i v hv => ?_, fun H' e => ?_⟩
        · match i, hv with
          | 0, hv => cases hv; exact it _ _ n1 g1
          | 1, hv => cases hv; exact it _ _ n2 g2
          | 2, hv => cases hv; exact it _ _ n3 g3
          | i + 3, hv => cases hv
        · have e2 : lawFit "alike" ys = anyB 3 (fun i => match i with | 0 => decide ((["++"] : List Str) = ys) | 1 => decide ((["--"] : List Str) = ys) | _ => decide ((["??"] : List Str) = ys)) := by
            unfold lawFit
            rw [if_neg (by decide +kernel), if_neg (by decide +kernel), if_pos rfl]
            show _ = (decide ((["++"] : List Str) = ys) || (decide ((["--"] : List Str) = ys) || (decide ((["??"] : List Str) = ys) || false)))
            rw [Bool.or_false]
          show Q (.bl (anyB 3 _)) H'
          rw [← e2]
          exact q _ (((sH.trans sp).trans sA).trans e)
      · refine iteN (by decide +kernel) ⟨_, rfl, rfl, _, rfl, iteN (by decide +kernel) ⟨_, rfl, rfl, _, rfl, iteN (by decide +kernel) ⟨_, rfl, rfl, _, rfl, iteY (by decide +kernel) ?_⟩⟩⟩
        refine ⟨_, rfl, D, _, rfl, .inl (SqL.of (sp _ _ d4)), rfl, _, rfl, ?_⟩
        have un : lawFit "below" ys = twoB ys := by
          unfold lawFit
          rw [if_neg (by decide +kernel), if_neg (by decide +kernel), if_neg (by decide +kernel), if_pos rfl]
        have q' := q _ (sH.trans sp)
        rw [un] at q'
        clear un cmp one q l3
        match ys, d4, q' with
        | [], _, q' => exact iteF q'
        | [_], _, q' => exact iteF q'
        | [a, b], d4, q' =>
          refine iteT ⟨_, rfl, D, _, 0, .str a, rfl, rfl, SqL.of (sp _ _ d4), rfl, _, rfl, D, _, 1, .str b, rfl, rfl, SqL.of (sp _ _ d4), rfl, rfl, ?_⟩
          rw [dec_str]
          exact q'
        | _ :: _ :: _ :: r, _, q' =>
          refine iteN ?_ q'
          rw [decide_eq_false]
          intro e
          injection e with e
          simp at e
          omega
      · refine iteN (by decide +kernel) ⟨_, rfl, rfl, _, rfl, iteN (by decide +kernel) ⟨_, rfl, rfl, _, rfl, iteN (by decide +kernel) ⟨_, rfl, rfl, _, rfl, iteN (by decide +kernel) ?_⟩⟩⟩
        refine ⟨_, rfl, by show 2 ≤ sizeLine; decide, fun r hr => cmp ["+", "+"] _ r (sp.trans (same_new hr)) upd_same ?_⟩
        unfold lawFit
        rw [if_neg (by decide +kernel), if_neg (by decide +kernel), if_neg (by decide +kernel), if_neg (by decide +kernel)]
end
end LK

namespace LK
open PySem PySem.Spec PyProof.Rows L2 LR
/-! ### what is due, by the law -/
def dueV : Option Str → V
  | none => .non
  | some m => .str m
theorem inV_strs {x : Str} : ∀ {l : List Str}, inV (.str x) (l.map V.str) = decide (x ∈ l)
  | [] => rfl
  | a :: l => by
    have ih := inV_strs (x := x) (l := l)
    unfold inV at ih ⊢
    rw [List.map_cons, List.any_cons, ih, eqV_str]
    by_cases h : x = a
    · subst h
      simp
    · have h' : ¬ a = x := fun e => h e.symm
      simp [h, h']
theorem fit_eq {x : Str} {os : List (Option (Str × Str))} (hx : x ∈ words7) (h : areB (cntW x) os = true) : wayB x os = lawFit x (os.map waysOf) := by
  unfold areB at h
  rw [Bool.and_eq_true, Bool.and_eq_true] at h
  obtain ⟨hl, ha, _⟩ := h
  have hl : os.length = cntW x := by simpa using hl
  have one : ∀ y : Str, (cntW x = 1 → fitW x = [y] → x ≠ "below" → lawFit x (os.map waysOf) = decide (os.map waysOf = [y]) → wayB x os = lawFit x (os.map waysOf)) := fun y c1 f1 nb e => by
    rw [c1] at hl
    match os, hl with
    | [o], _ =>
      rw [e]
      unfold wayB
      rw [f1, decide_eq_false nb, inV_strs]
      show (!((decide (waysOf o = waysOf o)).not || false) && (false || decide (waysOf o ∈ [y]))) = decide ([waysOf o] = [y])
      rw [decide_eq_true rfl]
      simp
  rcases words7_cases hx with rfl | rfl | rfl | rfl | rfl | rfl | rfl
  · exact one "+" (by decide +kernel) (by decide +kernel) (by decide +kernel) (by unfold lawFit; rw [if_pos (by decide +kernel)])
  · exact one "+" (by decide +kernel) (by decide +kernel) (by decide +kernel) (by unfold lawFit; rw [if_pos (by decide +kernel)])
  · exact one "+" (by decide +kernel) (by decide +kernel) (by decide +kernel) (by unfold lawFit; rw [if_pos (by decide +kernel)])
  · exact one "++" (by decide +kernel) (by decide +kernel) (by decide +kernel) (by unfold lawFit; rw [if_neg (by decide +kernel), if_pos rfl])
  · rw [show cntW "alike" = 1 by decide +kernel] at hl
    match os, hl with
    | [o], _ =>
      unfold wayB lawFit
      rw [if_neg (by decide +kernel), if_neg (by decide +kernel), if_pos rfl, show fitW "alike" = (["++", "--", "??"] : List Str) by decide +kernel, inV_strs, show decide (("alike" : Str) = "below") = false by decide +kernel]
      show (!((decide (waysOf o = waysOf o)).not || false) && (false || decide (waysOf o ∈ (["++", "--", "??"] : List Str)))) = (decide ((["++"] : List Str) = [waysOf o]) || (decide ((["--"] : List Str) = [waysOf o]) || decide ((["??"] : List Str) = [waysOf o])))
      rw [decide_eq_true rfl]
      generalize waysOf o = y
      by_cases h1 : y = "++"
      · subst h1; simp
      · by_cases h2 : y = "--"
        · subst h2; simp
        · by_cases h3 : y = "??"
          · subst h3; simp
          · have e1 : ¬ "++" = y := fun e => h1 e.symm
            have e2 : ¬ "--" = y := fun e => h2 e.symm
            have e3 : ¬ "??" = y := fun e => h3 e.symm
            simp [h1, h2, h3, e1, e2, e3]
  · rw [show cntW "below" = 2 by decide +kernel] at hl
    match os, hl with
    | [o, o'], _ =>
      unfold wayB lawFit
      rw [if_neg (by decide +kernel), if_neg (by decide +kernel), if_neg (by decide +kernel), if_pos rfl, show decide (("below" : Str) = "below") = true by decide +kernel]
      show (!((decide (waysOf o = waysOf o)).not || ((decide (waysOf o' = waysOf o)).not || false)) && (true || _)) = decide (waysOf o = waysOf o')
      rw [decide_eq_true rfl]
      by_cases h : waysOf o = waysOf o'
      · rw [h]; simp
      · have h' : ¬ waysOf o' = waysOf o := fun e => h e.symm
        simp [h, h']
  · rw [show cntW "back" = 2 by decide +kernel] at hl
    match os, hl with
    | [o, o'], _ =>
      unfold wayB lawFit
      rw [if_neg (by decide +kernel), if_neg (by decide +kernel), if_neg (by decide +kernel), if_neg (by decide +kernel), show fitW "back" = (["+"] : List Str) by decide +kernel, inV_strs, show decide (("back" : Str) = "below") = false by decide +kernel]
      show (!((decide (waysOf o = waysOf o)).not || ((decide (waysOf o' = waysOf o)).not || false)) && (false || decide (waysOf o ∈ (["+"] : List Str)))) = decide ([waysOf o, waysOf o'] = (["+", "+"] : List Str))
      rw [decide_eq_true rfl]
      by_cases h : waysOf o = "+"
      · by_cases h' : waysOf o' = "+"
        · simp [h, h']
        · simp [h, h']
      · simp [h]
theorem iteC {c : Bool} {σ : L2.St} {H : Hp} {G : VK} {a b v : V} (h : (if c = true then a else b) = v) (g : G v H) : if c = true then tC a σ H G else tC b σ H G := by
  cases c with
  | true =>
    rw [if_pos rfl] at h
    subst h
    rw [if_pos rfl]
    exact g
  | false =>
    rw [if_neg Bool.false_ne_true] at h
    subst h
    rw [if_neg Bool.false_ne_true]
    exact g
def spDue (K : PySem.W.Frag) (cS : Addr) : Sp := fun vs H Q _ => ∃ (wv : V) (l : Addr) (xs : List V) (os : List (Option (Str × Str))), vs = [wv, .ref l] ∧ H l = some (.lst xs) ∧ Seen K H wv ∧ Els K cS H xs os ∧ xs.length ≤ 3 ∧ ∀ H', Same H H' → Q (dueV (trB wv os)) H'
section
variable {P : Program} {w : World} {K : PySem.W.Frag} {mg : Str → Option Value} {base : Heap}
def nDue : List Str := ["_law_word_here", "_law_some", "_law_words_here", "_law_many", "_law_one"]
theorem scDue : FnScope nDue ["_law_word_here", "_law_some"] (defScope sDue) := ⟨rfl, rfl, rfl, by decide +kernel, rfl, by decide +kernel, by decide +kernel⟩
theorem ok_due {cS fF eS f : Addr} {fdF dS fd : FuncData} (S : Std mg) (c : OwnCl K mg "Step" cS) (n1 : NoAttr K cS "name") (n2 : NoAttr K cS "ways") (qS : EqM K cS sStepEq "Step.__eq__" eS dS) (FI : Df K mg "_law_fits" sFits fF fdF ["_law_word_here", "_law_steps"]) (F : Fun K "_law_due" "_law_due" sDue f fd) :
    FnOk P w K mg base CX0 4 f fd ["_law_word_here", "_law_some"] (spDue K cS) := by
  have GE : FnOk P w K mg base CX0 1 eS dS ["self", "other"] (spEqB K cS) := ok_stepEqB S c n1 n2 qS.F
  have GF : FnOk P w K mg base CX0 3 fF fdF ["_law_word_here", "_law_steps"] (spFits K cS) := ok_fits S c n2 FI.F
  refine F.ok scDue (fun vs H Q E h => ?_) (fun cdv A outer s H vs Q E hr h => ?_)
  · obtain ⟨wv, l, xs, os, rfl, _⟩ := h
    rfl
  · obtain ⟨wv, l, xs, os, rfl, hl, sw, he, h3, q⟩ := h
    have hr1 : Room 1 _ := hr.mono (by decide)
    refine ⟨_, pss_cons (ps_set (i := 2) scDue.nd rfl (Or.inl rfl) (pe_lst (pa_cons pe_str (pa_cons pe_str (pa_cons pe_str (pa_cons pe_str (pa_cons pe_str (pa_cons pe_str (pa_cons pe_str pa_nil)))))))))
      (pss_cons (ps_if (PW.pt (pw_or (pt_not (pt_val (pe_callB call_isi (by rfl) S.isi (by decide +kernel) (pa_cons (pv 0) (pa_cons (pe_bltn (v := .ty "str") (by rfl) S.str (by decide +kernel) rfl) pa_nil)))))
          (pw_or1 (pt_cmpR op_notIn_seq (pv 0) (pv 2) (by rfl))))) (pss_one (ps_ret pe_str)) pss_nil)
      (pss_cons (ps_set (i := 3) scDue.nd rfl (Or.inl rfl) (pe_ifExp (pt_cmpR op_in_seq (pv 0) (pe_tup (pa_cons pe_str (pa_cons pe_str pa_nil))) (by rfl)) pe_int pe_int))
      (pss_cons (ps_if (PW.pt (pw_or (pt_cmpR op_ne (pe_callB call_len_seq (by rfl) S.len PySem.boot_len (pa_cons (pv 1) pa_nil)) (pv 3) (nomark _))
          (pw_or1 (pt_cmpR (op_neEnd hr.units0) (pe_lc (own := [("_law_one", 4)]) (g := gName 4) (tt := tNot (tB (tCB (rIsi K) (tCons (tVar 4) (tCons (tC (.ref cS)) tNil))))) rfl scDue.nd
            (pi_list (pv 1)) (blkOk_by (N := nDue) (sc := defScope sDue) (by decide +kernel)) (fun _ _ _ _ _ => pg_name (i := 4) scDue.nd rfl (Or.inl rfl))
            (fun _ _ _ _ _ => pts_one (pt_not (pt_val (pe_callB (id := "isinstance") call_isi (by rfl) S.isi (by decide +kernel) (pa_cons (pv 4) (pa_cons (pe_glob (v := .ref cS) rfl c.g rfl) pa_nil))))))
            (fun _ _ _ _ _ => pv 4)) (pe_lst pa_nil) (nomark _))))) (pss_one (ps_ret pe_str)) pss_nil)
      (pss_cons (ps_if (PW.pt (pw_and (pt_cmpR op_eq (pv 3) pe_int (nomark _)) (pw_and1 (pt_cmpR (op_eqOwn GE qS.at_ qS.fn qS.b pass0 hr1) (pe_ix ix_list (pv 1) pe_int (fun _ _ => rfl)) (pe_ix ix_list (pv 1) pe_int (fun _ _ => rfl)) (nomark _))))) (pss_one (ps_ret pe_str)) pss_nil)
      (pss_one (ps_ret (pe_ifExp (pt_val (pe_call GF hr rfl FI.g FI.F.kp FI.b .nil pass0 (pa_cons (pv 0) (pa_cons (pv 1) pa_nil)))) pe_non pe_str))))))), ?_⟩
    have le := he.1
    refine ⟨by show 7 ≤ sizeLine; decide, fun p hp => ?_⟩
    have s1 := same_new (o := .lst (words7.map V.str)) hp
    have w1 := upd_same (H := H) (a := p) (o := .lst (words7.map V.str))
    have e7 : (HO.lst [V.str "up", V.str "down", V.str "settled", V.str "mean", V.str "alike", V.str "below", V.str "back"]) = .lst (words7.map V.str) := rfl
    rw [e7]
    generalize upd H p (.lst (words7.map V.str)) = H1 at s1 w1 ⊢
    clear hp
    rcases sw with ⟨z, rfl, len⟩ | ⟨no, t, ty, kt⟩
    · refine ⟨_, rfl, _, _, _, _, true, rfl, .ty "str", .base (.str z), kit_ty (by decide +kernel), true, rfl, iteF ?_⟩
      refine ⟨_, rfl, _, rfl, p, _, rfl, .inl (SqL.of w1), rfl, flat_strs _, ?_⟩
      rw [if_pos rfl, inV_strs]
      refine ⟨_, rfl, ?_⟩
      by_cases hz : z ∈ words7
      · rw [decide_eq_true hz]
        refine iteF ⟨_, rfl, by show 2 ≤ sizeLine; decide, fun p2 hp2 => ⟨p2, _, rfl, .inr (SqT.of upd_same), rfl, rfl, _, rfl, ?_⟩⟩
        have sp2 := s1.trans (same_new (o := .tup [.str "below", .str "back"]) hp2)
        generalize upd H1 p2 (.tup [.str "below", .str "back"]) = H2 at sp2 ⊢
        refine iteC (v := V.int ((cntW z : Nat) : Int)) ?_ ?_
        · show (if inV (.str z) ((["below", "back"] : List Str).map V.str) = true then V.int 2 else V.int 1) = _
          rw [inV_strs]
          unfold cntW
          by_cases hb : z = "below" ∨ z = "back"
          · rw [if_pos hb, if_pos (decide_eq_true (by simpa using hb))]
            rfl
          · rw [if_neg hb, if_neg (by rw [decide_eq_true_eq]; simpa using hb)]
            rfl
        have tr : trB (.str z) os = (if areB (cntW z) os = true then (if wayB z os = true then none else some ("ways" : Str)) else some ("steps" : Str)) := if_pos hz
        have hl2 := sp2 _ _ hl
        have he2 := he.same sp2
        have no : areB (cntW z) os = false → ∀ H', Same H2 H' → Q (.str "steps") H' := fun e H' s' => by
          have := q _ (sp2.trans s')
          rw [tr, if_neg (by rw [e]; decide)] at this
          exact this
        refine ⟨_, rfl, l, _, rfl, .inl (SqL.of hl2), _, rfl, rfl, _, rfl, ?_⟩
        by_cases hn : os.length = cntW z
        · have e1 : (V.int ((xs.length : Nat) : Int)) = V.int ((cntW z : Nat) : Int) := by rw [le, hn]
          rw [decide_eq_true e1]
          refine iteF ?_
          refine ⟨_, rfl, l, rfl, ⟨_, SqL.of hl2⟩, fun D hD => lc_list (xs := xs) (fun i H4 => Keep D H2 H4 ∧ ∃ ys : List V, H4 D = some (.lst ys) ∧ ys.length ≤ i ∧ ys.isEmpty = (os.take i).all Option.isSome) ⟨Keep.new hD, [], upd_same, Nat.le_refl _, rfl⟩ (fun i H4 _ h => SqL.of (h.1 _ _ (ne_of_none hl2 hD) hl2)) (fun i v H4 hv h => ?_) (fun H4 h => ?_)⟩
          · obtain ⟨k4, ys, d4, ly, ey⟩ := h
            have sH : Same H2 H4 := fun b o e => k4 b o (ne_of_none e hD) e
            obtain ⟨o, ho, el⟩ := he2.at hv
            obtain ⟨t, ty, kt⟩ := El.isi c el
            have lt := (List.getElem?_eq_some_iff.mp hv).1
            have tk : (os.take (i + 1)).all Option.isSome = ((os.take i).all Option.isSome && o.isSome) := by
              rw [List.take_add_one, ho, List.all_append]
              simp
            refine ⟨rfl, _, rfl, _, _, _, _, o.isSome, rfl, .own cS, TyX.same sH ty, kt, _, rfl, ?_⟩
            cases ho2 : o.isSome with
            | true =>
              refine iteF ⟨k4, ys, d4, by omega, ?_⟩
              rw [tk, ho2, Bool.and_true, ey]
            | false =>
              refine iteT ⟨_, rfl, ys, d4, small1000 (by omega), fun b o n e => ?_, ys ++ [v], upd_same, by rw [List.length_append]; show ys.length + 1 ≤ i + 1; omega, ?_⟩
              · rw [upd_ne n]
                exact k4 b o n e
              · rw [tk, ho2, Bool.and_false]
                cases ys <;> rfl
          · obtain ⟨k4, ys, d4, ly, ey⟩ := h
            have sH : Same H2 H4 := fun b o e => k4 b o (ne_of_none e hD) e
            rw [le, List.take_length] at ey
            refine ⟨by show 0 ≤ sizeLine; decide, fun e5 he5 => ⟨D, e5, ys, rfl, rfl, same_new he5 _ _ d4, upd_same, _, rfl, ?_⟩⟩
            have s5 := sH.trans (same_new (o := .lst []) he5)
            generalize upd H4 e5 (.lst []) = H5 at s5 ⊢
            rw [ey]
            have hl5 := s5 _ _ hl2
            have he5 := he2.same s5
            have no5 : areB (cntW z) os = false → Q (.str "steps") H5 := fun e => no e _ s5
            have yes5 : areB (cntW z) os = true → ∀ H', Same H5 H' → Q (if lawFit z (os.map waysOf) = true then .non else .str "ways") H' := fun e H' s' => by
              have := q _ ((sp2.trans s5).trans s')
              rw [tr, if_pos e, fit_eq hz e] at this
              cases hb : lawFit z (os.map waysOf) with
              | true =>
                rw [hb] at this
                exact this
              | false =>
                rw [hb] at this
                exact this
            cases ha : os.all Option.isSome with
            | false =>
              refine iteT (no5 ?_)
              unfold areB
              rw [ha, Bool.false_and, Bool.and_false]
            | true =>
              refine iteF ⟨_, rfl, rfl, _, rfl, ?_⟩
              rcases cntW_or z with hc | hc
              · have hA : areB (cntW z) os = true := by
                  unfold areB
                  rw [ha, hn, hc]
                  rfl
                rw [hc]
                rw [decide_eq_false (show ¬ V.int ((1 : Nat) : Int) = V.int 2 from fun e => by injection e with e; omega)]
                refine iteF ⟨_, rfl, _, rfl, z, l, xs, os, rfl, hz, hl5, he5, h3, ha, fun H6 s6 => ⟨_, rfl, ?_⟩⟩
                have yy := yes5 hA H6 s6
                cases hb : lawFit z (os.map waysOf) with
                | true =>
                  rw [hb] at yy
                  exact iteT yy
                | false =>
                  rw [hb] at yy
                  exact iteF yy
              · rw [hc] at hn no5 yes5 ⊢
                rw [decide_eq_true (show V.int ((2 : Nat) : Int) = V.int 2 from rfl)]
                refine iteT ?_
                match os, hn, ha, he5, no5, yes5 with
                | [some zy, some zy'], _, ha, he5, no5, yes5 =>
                  match xs, he5.1, he5, hl5, h3 with
                  | [v0, v1], _, he5, hl5, h3 =>
                    obtain ⟨a0, rfl, ⟨d0, h0⟩, _, _⟩ := he5.2 0 v0 (some zy) rfl rfl
                    obtain ⟨a1, rfl, ⟨d1, h1⟩, _, _⟩ := he5.2 1 v1 (some zy') rfl rfl
                    refine ⟨_, rfl, l, _, 0, .ref a0, rfl, rfl, SqL.of hl5, rfl, _, rfl, l, _, 1, .ref a1, rfl, rfl, SqL.of hl5, rfl, ?_⟩
                    refine ⟨a0, d0, _, .ref cS, rfl, h0, c.ty h1, nf_own, a0, .ref a1, zy.1, zy.2, rfl, ⟨d0, h0⟩, .inl ⟨a1, zy'.1, zy'.2, rfl, ⟨d1, h1⟩, _, rfl, _, rfl, ?_⟩⟩
                    have hA : areB 2 [some zy, some zy'] = !(decide (zy.1 = zy'.1) && decide (zy.2 = zy'.2)) := by
                      obtain ⟨z, y⟩ := zy
                      obtain ⟨z', y'⟩ := zy'
                      unfold areB
                      simp only [List.length_cons, List.length_nil, List.all_cons, List.all_nil, Option.isSome_some, Bool.and_true, List.getElem?_cons_zero, List.getElem?_cons_succ]
                      by_cases hz : z = z'
                      · by_cases hy : y = y'
                        · simp [hz, hy]
                        · simp [hz, hy]
                      · simp [hz]
                    cases hb : (decide (zy.1 = zy'.1) && decide (zy.2 = zy'.2)) with
                    | true =>
                      rw [hb] at hA
                      exact iteT (no5 hA)
                    | false =>
                      rw [hb] at hA
                      refine iteF ⟨_, rfl, _, rfl, z, l, _, [some zy, some zy'], rfl, hz, hl5, he5, h3, ha, fun H6 s6 => ⟨_, rfl, ?_⟩⟩
                      have yy := yes5 hA H6 s6
                      cases hb : lawFit z (([some zy, some zy'] : List (Option (Str × Str))).map waysOf) with
                      | true =>
                        rw [hb] at yy
                        exact iteT yy
                      | false =>
                        rw [hb] at yy
                        exact iteF yy
                | [none, _], _, ha, _, _, _ => cases ha
                | [some _, none], _, ha, _, _, _ => cases ha
        · have e1 : ¬ (V.int ((xs.length : Nat) : Int)) = V.int ((cntW z : Nat) : Int) := fun e => hn (by injection e with e; omega)
          rw [decide_eq_false e1]
          refine iteT (no ?_ _ fun _ _ e => e)
          unfold areB
          rw [show (os.length == cntW z) = false by simpa using hn, Bool.false_and]
      · rw [decide_eq_false hz]
        refine iteT ?_
        have := q _ s1
        rw [show trB (.str z) os = some ("word" : Str) from if_neg hz] at this
        exact this
    · refine ⟨_, rfl, _, _, _, _, false, rfl, .ty "str", TyX.same s1 ty, kt, _, rfl, ?_⟩
      refine iteT ?_
      have := q _ s1
      rw [trB_not no] at this
      exact this
end
end LK

namespace LK
open PySem PySem.Spec PyProof.Rows L2 LR
/-! ### a trait beside another thing; its text -/
def TrAt (K : PySem.W.Frag) (cS C : Addr) (H : Hp) (a : Addr) (x : Str) (zs : List (Str × Str)) : Prop := ∃ dx p xs, H a = some (.ins C dx [("word", .str x), ("steps", .ref p)]) ∧ H p = some (.tup xs) ∧ Els K cS H xs (zs.map some)
theorem TrAt.same {K : PySem.W.Frag} {cS C : Addr} {H H' : Hp} {a : Addr} {x : Str} {zs : List (Str × Str)} (s : Same H H') (h : TrAt K cS C H a x zs) : TrAt K cS C H' a x zs := by
  obtain ⟨dx, p, xs, ha, hp, he⟩ := h
  exact ⟨dx, p, xs, s _ _ ha, s _ _ hp, he.same s⟩
def stepR (cS : Addr) : Addr → Addr → Bool → Hp → Prop := fun a b r H => ∃ z y z' y', StepAt cS H a z y ∧ StepAt cS H b z' y' ∧ r = (decide (z = z') && decide (y = y'))
def DStep (cS : Addr) : EqvB := DInsB cS (stepR cS)
theorem mon_step {cS : Addr} : MonB (DStep cS) := mon_insB fun a b r H H' e h => by
  obtain ⟨z, y, z', y', h1, h2, e'⟩ := h
  exact ⟨z, y, z', y', h1.same e, h2.same e, e'⟩
theorem StepAt.inj {C : Addr} {H : Hp} {a : Addr} {z y z' y' : Str} (h : StepAt C H a z y) (h' : StepAt C H a z' y') : z = z' ∧ y = y' := by
  obtain ⟨d, h⟩ := h
  obtain ⟨d', h'⟩ := h'
  rw [h] at h'
  injection h' with h'
  injection h' with _ _ h'
  injection h' with h1 h2
  injection h2 with h2 _
  injection h1 with _ h1
  injection h2 with _ h2
  injection h1 with h1
  injection h2 with h2
  exact ⟨h1, h2⟩
theorem eqGB_step {X : Cx} {eS : Addr} {dS : FuncData} {cS : Addr} (S : Std X.mg) (c : OwnCl X.K X.mg "Step" cS) (n1 : NoAttr X.K cS "name") (n2 : NoAttr X.K cS "ways") (qS : EqM X.K cS sStepEq "Step.__eq__" eS dS) : EqGB X 1 (DStep cS) := by
  have G : FnOk X.prog X.w X.K X.mg X.base CX0 1 eS dS ["self", "other"] (spEqR (stepR cS)) := (ok_stepEqB S c n1 n2 qS.F).imp fun vs H Q E h => by
    obtain ⟨a, b, r, rfl, ⟨z, y, z', y', h1, h2, rfl⟩, q⟩ := h
    exact ⟨a, .ref b, z, y, rfl, h1, .inl ⟨b, z', y', rfl, h2, q H Ext.rfl'⟩⟩
  refine RcGB.eqG (rcGB_ins G qS.at_ qS.fn qS.b pass0) fun x y r H d => ?_
  obtain ⟨a, b, _, _, _, _, hx, hy, _, _, z, w, z', w', h1, h2, hr⟩ := d
  refine ⟨a, b, hx, hy, fun e => ?_⟩
  subst e
  obtain ⟨rfl, rfl⟩ := h1.inj h2
  rw [hr]
  simp
theorem ans_dec {α : Type} [DecidableEq α] {as bs : List α} {xs ys : List V} (h1 : xs.length = as.length) (h2 : ys.length = bs.length) {f : Nat → Bool} (hf : ∀ (i : Nat) a b, as[i]? = some a → bs[i]? = some b → f i = decide (a = b)) : ansB xs ys f = decide (as = bs) := by
  by_cases h : as = bs
  · subst h
    rw [decide_eq_true rfl, ansB_yes]
    · simp [h1, h2]
    · intro i l1 l2
      rw [hf i _ _ (List.getElem?_eq_getElem (by omega)) (List.getElem?_eq_getElem (by omega))]
      exact decide_eq_true rfl
  · rw [decide_eq_false h]
    by_cases hl : as.length = bs.length
    · have : ∃ i, i < as.length ∧ as[i]? ≠ bs[i]? := by
        refine Classical.byContradiction fun no => h (List.ext_getElem? fun i => ?_)
        by_cases hi : i < as.length
        · exact Classical.byContradiction fun q => no ⟨i, hi, q⟩
        · rw [List.getElem?_eq_none (by omega), List.getElem?_eq_none (by omega)]
      obtain ⟨i, hi, hne⟩ := this
      refine ansB_no (i := i) (by omega) (by omega) ?_
      rw [hf i _ _ (List.getElem?_eq_getElem hi) (List.getElem?_eq_getElem (by omega))]
      refine decide_eq_false fun e => hne ?_
      rw [List.getElem?_eq_getElem hi, List.getElem?_eq_getElem (by omega), e]
    · unfold ansB
      rw [show (xs.length == ys.length) = false by simp [h1, h2, hl], Bool.and_false]
def zyEq (zs zs' : List (Str × Str)) (i : Nat) : Bool := match zs[i]?, zs'[i]? with
  | some a, some b => decide (a.1 = b.1) && decide (a.2 = b.2)
  | _, _ => false
theorem zyEq_of {zs zs' : List (Str × Str)} {i : Nat} {a b : Str × Str} (h : zs[i]? = some a) (h' : zs'[i]? = some b) : zyEq zs zs' i = (decide (a.1 = b.1) && decide (a.2 = b.2)) := by
  unfold zyEq
  rw [h, h']
theorem zy_dec {a b : Str × Str} : (decide (a.1 = b.1) && decide (a.2 = b.2)) = decide (a = b) := by
  obtain ⟨x, y⟩ := a
  obtain ⟨x', y'⟩ := b
  by_cases h : x = x'
  · by_cases h' : y = y'
    · simp [h, h']
    · simp [h, h']
  · simp [h]
theorem els_prs {K : PySem.W.Frag} {cS : Addr} {H : Hp} {xs ys : List V} {zs zs' : List (Str × Str)} (h : Els K cS H xs (zs.map some)) (h' : Els K cS H ys (zs'.map some)) : PrsB (DStep cS) xs ys (zyEq zs zs') H ∧ ansB xs ys (zyEq zs zs') = decide (zs = zs') := by
  have l1 : xs.length = zs.length := by have := h.1; rwa [List.length_map] at this
  have l2 : ys.length = zs'.length := by have := h'.1; rwa [List.length_map] at this
  refine ⟨fun i x y e1 e2 => ?_, ans_dec l1 l2 fun i a b ha hb => by rw [zyEq_of ha hb, zy_dec]⟩
  have i1 := (List.getElem?_eq_some_iff.mp e1).1
  have i2 := (List.getElem?_eq_some_iff.mp e2).1
  have g1 : zs[i]? = some (zs[i]'(by omega)) := List.getElem?_eq_getElem _
  have g2 : zs'[i]? = some (zs'[i]'(by omega)) := List.getElem?_eq_getElem _
  obtain ⟨a, rfl, ⟨da, ha⟩, _⟩ := h.2 i x (some (zs[i]'(by omega))) e1 (by rw [List.getElem?_map, g1]; rfl)
  obtain ⟨b, rfl, ⟨db, hb⟩, _⟩ := h'.2 i y (some (zs'[i]'(by omega))) e2 (by rw [List.getElem?_map, g2]; rfl)
  exact ⟨a, b, da, db, _, _, rfl, rfl, ha, hb, _, _, _, _, ⟨da, ha⟩, ⟨db, hb⟩, zyEq_of g1 g2⟩
def spTrEqB (K : PySem.W.Frag) (cS C : Addr) : Sp := fun vs H Q _ => ∃ a y x zs, vs = [.ref a, y] ∧ TrAt K cS C H a x zs ∧ ((∃ b x' zs', y = .ref b ∧ TrAt K cS C H b x' zs' ∧ ∀ H', Same H H' → Q (.bl (decide (x = x') && decide (zs = zs'))) H') ∨ (∃ t, TyX K H y t ∧ PySem.W.kitOne K t (.ref C) = some false ∧ Q (.bl false) H))
def trText (x : Str) (zs : List (Str × Str)) : Str := Txt.join " " (x :: zs.map (·.1))
def spTrStr (K : PySem.W.Frag) (cS C : Addr) : Sp := fun vs H Q _ => ∃ a x zs, vs = [.ref a] ∧ TrAt K cS C H a x zs ∧ x.length ≤ 1000 ∧ zs.length ≤ 20 ∧ ∀ H', Same H H' → Q (.str (trText x zs)) H'
theorem sum_len4 : ∀ {l : List Str}, (∀ z, z ∈ l → z.length ≤ 4) → (l.map (·.length)).sum ≤ 4 * l.length
  | [], _ => Nat.le_refl _
  | a :: l, h => by
    have ih := sum_len4 (l := l) fun z hz => h z (List.mem_cons_of_mem _ hz)
    have ha := h a List.mem_cons_self
    rw [List.map_cons, List.sum_cons, List.length_cons]
    omega
section
variable {P : Program} {w : World} {K : PySem.W.Frag} {mg : Str → Option Value} {base : Heap}
theorem ok_trEqB {cS C eS f : Addr} {dS fd : FuncData} (S : Std mg) (cs : OwnCl K mg "Step" cS) (s1 : NoAttr K cS "name") (s2 : NoAttr K cS "ways") (qS : EqM K cS sStepEq "Step.__eq__" eS dS) (c : OwnCl K mg "Trait" C) (n1 : NoAttr K C "word") (n2 : NoAttr K C "steps") (F : Fun K "__eq__" "Trait.__eq__" sTraitEq f fd) :
    FnOk P w K mg base CX0 3 f fd ["self", "other"] (spTrEqB K cS C) := by
  refine F.ok scTraitEq (fun vs H Q E h => ?_) (fun cdv A outer s H vs Q E hr h => ?_)
  · obtain ⟨a, y, x, zs, rfl, _⟩ := h
    rfl
  · obtain ⟨a, u, x, zs, rfl, ⟨dx, p, xs, ha, hp, he⟩, h⟩ := h
    refine ⟨_, pss_one (ps_ret (pe_and (pe_callB call_isi (by rfl) S.isi (by decide +kernel) (pa_cons (pv 1) (pa_cons (pe_glob (v := .ref C) rfl c.g rfl) pa_nil)))
      (pe_and (pe_cmpR op_eq (pe_fld (pv 0) rfl) (pe_fld (pv 1) rfl) (nomark _)) (pe_one (pe_cmpR (op_eqGB (rcGB_tup mon_step (eqGB_step (X := (cxOf CX0 P w K mg base ["self", "other"] "Trait.__eq__" (defScope sTraitEq) f cdv A outer s H E).nox) S cs s1 s2 qS)) hr) (pe_fld (pv 0) rfl) (pe_fld (pv 1) rfl) (nomark _)))))), ?_⟩
    rcases h with ⟨b, x', zs', rfl, ⟨dy, p', ys, hb, hp', he'⟩, q⟩ | ⟨t, ty, kt, q⟩
    · refine ⟨_, rfl, _, _, _, _, true, rfl, .own C, c.ty hb, kit_self, true, rfl, iteT ?_⟩
      refine ⟨_, rfl, _, _, _, _, _, rfl, ha, c.cl, n1, rfl, _, rfl, _, _, _, _, _, rfl, hb, c.cl, n1, rfl, rfl, _, rfl, ?_⟩
      rw [dec_str]
      by_cases hx : x = x'
      · rw [decide_eq_true hx] at q ⊢
        refine iteT ⟨_, rfl, _, _, _, _, _, rfl, ha, c.cl, n2, rfl, _, rfl, _, _, _, _, _, rfl, hb, c.cl, n2, rfl, ?_⟩
        obtain ⟨pr, an⟩ := els_prs he he'
        refine ⟨_, ⟨p, p', xs, ys, _, rfl, rfl, SqT.of hp, SqT.of hp', pr, rfl⟩, fun H' e => ?_⟩
        rw [an]
        exact q H' e
      · rw [decide_eq_false hx] at q ⊢
        exact iteF (q H fun _ _ e => e)
    · exact ⟨_, rfl, _, _, _, _, false, rfl, .own C, ty, kt, false, rfl, iteF q⟩
def nTrStr : List Str := ["self", "step"]
theorem scTrStr : FnScope nTrStr ["self"] (defScope sTraitStr) := ⟨rfl, rfl, rfl, by decide +kernel, rfl, by decide +kernel, by decide +kernel⟩
theorem ok_trStr {cS C f : Addr} {fd : FuncData} (S : Std mg) (cs : OwnCl K mg "Step" cS) (s1 : NoAttr K cS "name") (c : OwnCl K mg "Trait" C) (n1 : NoAttr K C "word") (n2 : NoAttr K C "steps") (F : Fun K "__str__" "Trait.__str__" sTraitStr f fd) :
    FnOk P w K mg base CX0 1 f fd ["self"] (spTrStr K cS C) := by
  refine F.ok scTrStr (fun vs H Q E h => ?_) (fun cdv A outer s H vs Q E hr h => ?_)
  · obtain ⟨a, x, zs, rfl, _⟩ := h
    rfl
  · obtain ⟨a, x, zs, rfl, ⟨dx, p, xs, ha, hp, he⟩, lx, l20, q⟩ := h
    refine ⟨_, pss_one (ps_ret (pe_join pe_str (pe_lst (pa_cons (pe_fld (pv 0) rfl) (StX.pa_star (pe_lc (own := [("step", 1)]) (g := gName 1) (tt := tYes) (te := tFld K (tVar 1) "name") rfl scTrStr.nd
        (pi_tup (pe_fld (pv 0) rfl)) (blkOk_by (N := nTrStr) (sc := defScope sTraitStr) (by decide +kernel)) (fun _ _ _ _ _ => pg_name (i := 1) scTrStr.nd rfl (Or.inl rfl)) (fun _ _ _ _ _ => pts_nil) (fun _ _ _ _ _ => pe_fld (pv 1) rfl)) pa_nil))))), ?_⟩
    have l1 : xs.length = zs.length := by have := he.1; rwa [List.length_map] at this
    refine ⟨⟨_, rfl⟩, _, rfl, _, _, _, _, _, rfl, ha, c.cl, n1, rfl, ?_⟩
    refine ⟨_, rfl, _, _, _, _, _, rfl, ha, c.cl, n2, rfl, p, rfl, ⟨_, SqT.of hp⟩, fun D hD => lc_tup (xs := xs) (fun i H4 => Keep D H H4 ∧ H4 D = some (.lst (((zs.take i).map (·.1)).map V.str))) ⟨Keep.new hD, upd_same⟩ (fun i H4 _ h => SqT.of (h.1 _ _ (ne_of_none hp hD) hp)) (fun i v H4 hv h => ?_) (fun H4 h => ?_)⟩
    · obtain ⟨k4, d4⟩ := h
      have sH : Same H H4 := fun b o e => k4 b o (ne_of_none e hD) e
      have i1 := (List.getElem?_eq_some_iff.mp hv).1
      have g1 : zs[i]? = some (zs[i]'(by omega)) := List.getElem?_eq_getElem _
      obtain ⟨b, rfl, ⟨db, hb⟩, _⟩ := (he.2 i v (some (zs[i]'(by omega))) hv (by rw [List.getElem?_map, g1]; rfl)).same sH
      refine ⟨rfl, _, rfl, b, cS, db, _, _, rfl, hb, cs.cl, s1, rfl, _, d4, ?_, fun b o n e => ?_, ?_⟩
      · rw [List.length_map, List.length_map, List.length_take]
        exact small1000 (by omega)
      · rw [upd_ne n]
        exact k4 b o n e
      · rw [upd_same, map_take g1, List.map_append]
        rfl
    · obtain ⟨k4, d4⟩ := h
      have sH : Same H H4 := fun b o e => k4 b o (ne_of_none e hD) e
      rw [l1, List.take_length] at d4
      refine ⟨D, _, rfl, .inr (SqL.of d4), ?_⟩
      refine ⟨?_, fun p5 hp5 => ⟨_, p5, x :: zs.map (fun zy : Str × Str => zy.1), rfl, rfl, .inl (SqL.of ?_), ?_, q _ (sH.trans (same_new hp5))⟩⟩
      · rw [List.length_cons, List.append_nil, List.length_map, List.length_map]
        exact Nat.le_of_lt (small1000 (by omega))
      · rw [upd_same, List.append_nil]
        rfl
      · have n4 : ∀ z, z ∈ zs.map (·.1) → z.length ≤ 4 := fun z hz => by
          obtain ⟨zy, hm, rfl⟩ := List.mem_map.mp hz
          obtain ⟨i, hi⟩ := List.mem_iff_getElem?.mp hm
          have lt := (List.getElem?_eq_some_iff.mp hi).1
          obtain ⟨b, _, _, hn, _⟩ := he.2 i (xs[i]'(by omega)) (some zy) (List.getElem?_eq_getElem _) (by rw [List.getElem?_map, hi]; rfl)
          exact hn.len
        have sm := sum_len4 n4
        have sp1 : (" " : Str).length = 1 := by decide +kernel
        rw [List.map_cons, List.sum_cons, List.length_cons, sp1]
        rw [List.length_map] at sm ⊢
        omega
end
end LK

namespace LK
open PySem PySem.Spec PyProof.Rows L2 LR
/-! ### a trait that is made: all that is asked of it -/
def spRight (K : PySem.W.Frag) (cS C : Addr) : Sp := fun vs H Q _ => ∃ (t : Addr) (x : Str) (l dx p : Addr) (xs : List V) (zs : List (Str × Str)), vs = [.ref t, .str x, .ref l] ∧ H t = some (.ins C dx [("word", .str x), ("steps", .ref p)]) ∧ H p = some (.tup xs) ∧ H l = some (.lst xs) ∧ Els K cS H xs (zs.map some) ∧
  trB (.str x) (zs.map some) = none ∧ ∀ H', Same H H' → Q (.bl true) H'
theorem trB_none {x : Str} {os : List (Option (Str × Str))} (h : trB (.str x) os = none) : x ∈ words7 ∧ areB (cntW x) os = true ∧ wayB x os = true := by
  have e : trB (.str x) os = (if x ∈ words7 then (if areB (cntW x) os = true then (if wayB x os = true then none else some ("ways" : Str)) else some ("steps" : Str)) else some ("word" : Str)) := rfl
  rw [e] at h
  by_cases h1 : x ∈ words7
  · rw [if_pos h1] at h
    by_cases h2 : areB (cntW x) os = true
    · rw [if_pos h2] at h
      by_cases h3 : wayB x os = true
      · exact ⟨h1, h2, h3⟩
      · rw [if_neg h3] at h
        cases h
    · rw [if_neg h2] at h
      cases h
  · rw [if_neg h1] at h
    cases h
theorem words7_len {x : Str} (h : x ∈ words7) : x.length ≤ 1000 := by
  rcases words7_cases h with rfl | rfl | rfl | rfl | rfl | rfl | rfl <;> decide +kernel
theorem trB_rev {x : Str} {a b : Str × Str} (h : trB (.str x) [some a, some b] = none) : trB (.str x) [some b, some a] = none := by
  obtain ⟨h1, h2, h3⟩ := trB_none h
  have e2 : areB (cntW x) [some b, some a] = true := by
    unfold areB at h2 ⊢
    simp only [List.length_cons, List.length_nil, List.all_cons, List.all_nil, Option.isSome_some, Bool.and_true, List.getElem?_cons_zero, List.getElem?_cons_succ] at h2 ⊢
    have c : (some (some a) == some (some b)) = (some (some b) == some (some a)) := by
      by_cases e : a = b
      · rw [e]
      · have e' : ¬ b = a := fun q => e q.symm
        rw [Bool.eq_iff_iff, beq_iff_eq, beq_iff_eq]
        exact eq_comm
    rw [← c]
    exact h2
  have e3 : wayB x [some b, some a] = true := by
    rw [fit_eq h1 h2] at h3
    rw [fit_eq h1 e2]
    obtain ⟨z, y⟩ := a
    obtain ⟨z', y'⟩ := b
    have hl : cntW x = 2 := by
      unfold areB at h2
      rw [Bool.and_eq_true] at h2
      have := h2.1
      simp at this
      omega
    rcases words7_cases h1 with rfl | rfl | rfl | rfl | rfl | rfl | rfl
    · exact absurd hl (by decide +kernel)
    · exact absurd hl (by decide +kernel)
    · exact absurd hl (by decide +kernel)
    · exact absurd hl (by decide +kernel)
    · exact absurd hl (by decide +kernel)
    · have e : ∀ u v : Str, lawFit "below" [u, v] = decide (u = v) := fun u v => by
        unfold lawFit
        rw [if_neg (by decide +kernel), if_neg (by decide +kernel), if_neg (by decide +kernel), if_pos rfl]
        rfl
      have h3' : lawFit "below" [y, y'] = true := h3
      rw [e] at h3'
      show lawFit "below" [y', y] = true
      rw [e]
      exact decide_eq_true (of_decide_eq_true h3').symm
    · have e : ∀ u v : Str, lawFit "back" [u, v] = decide ([u, v] = (["+", "+"] : List Str)) := fun u v => by
        unfold lawFit
        rw [if_neg (by decide +kernel), if_neg (by decide +kernel), if_neg (by decide +kernel), if_neg (by decide +kernel)]
      have h3' : lawFit "back" [y, y'] = true := h3
      rw [e] at h3'
      have h4 := of_decide_eq_true h3'
      injection h4 with a1 a2
      injection a2 with a2 _
      show lawFit "back" [y', y] = true
      rw [e, a1, a2]
      exact decide_eq_true rfl
  have e : trB (.str x) [some b, some a] = (if x ∈ words7 then (if areB (cntW x) [some b, some a] = true then (if wayB x [some b, some a] = true then none else some ("ways" : Str)) else some ("steps" : Str)) else some ("word" : Str)) := rfl
  rw [e, if_pos h1, if_pos e2, if_pos e3]
theorem passN0 {P : Program} {w : World} {X : Cx} : Passes (L2N.CX P w) X E0 := fun _ _ _ _ _ _ _ h => by
  obtain ⟨_, _, _, _, _, _, _, _, _, _, _, _, h⟩ := h
  exact h.elim
theorem leaf_of {K : PySem.W.Frag} {k : Kinds} {H : Hp} {v : V} {zy : Str × Str} (h : El K k.cS H v (some zy)) : Leaf K k H v := by
  obtain ⟨a, rfl, hs, hn, hw⟩ := h
  exact .step hs hn hw
section
variable {P : Program} {w : World} {K : PySem.W.Frag} {mg : Str → Option Value} {base : Heap}
def nRight : List Str := ["_law_trait_here", "_law_word_here", "_law_some", "_law_label", "_law_step", "_law_other"]
theorem scRight : FnScope nRight ["_law_trait_here", "_law_word_here", "_law_some"] (defScope sRight) := ⟨rfl, rfl, rfl, by decide +kernel, rfl, by decide +kernel, by decide +kernel⟩
/-- what the class of traits has besides -/
structure TrM (K : PySem.W.Frag) (C f : Addr) (fd : FuncData) : Prop where
  F : Fun K "__str__" "Trait.__str__" sTraitStr f fd
  b : Binds K fd ["self"] []
  at_ : PySem.W.findIn K (.ref C) "__str__" = some (some (.ref f))
  fn : PySem.W.isFn K (.ref f) = true
  ne : PySem.W.findIn K (.ref C) "__ne__" = some (some (.builtin "object.__ne__"))
  kS : PySem.W.kitOne K (.type "str") (.ref C) = some false
  kT : PySem.W.kitOne K (.type "tuple") (.ref C) = some false
theorem ok_right {k : Kinds} {eS eE eT eC : Addr} {dS dE dT dC' : FuncData} {iS iT fX fA f tT : Addr} {jS fdX fdA fd gT : FuncData} (S : Std mg) (k' : Kin K mg k eS eE eT eC dS dE dT dC') (T : TrM K k.cT tT gT)
    (MS : Mk K k.cS iS) (GS0 : FnOk P w K mg base CX0 2 iS jS ["self", "name", "ways"] (spStInit k.cS)) (bS : Binds K jS ["self", "name", "ways"] [])
    (MT : Mk K k.cT iT) (GT0 : FnR P w K mg base CX0 2 iT (fun vs H Q E => ∃ ws rest, vs = ws ++ rest ∧ ws.length = (["self", "word"] : List Str).length ∧ rest.length ≤ sizeLine ∧ ∀ p, H p = Option.none → spTrBody K k.cS k.cT (ws ++ [V.ref p]) (upd H p (.tup rest)) Q E))
    {C1 : Addr} (TR : Df K mg "_law_trait" sTrait fX fdX ["_law_word_here", "_law_some"]) (GX : FnOk P w K mg base (L2N.CX P w) 6 fX fdX ["_law_word_here", "_law_some"] (spTraitX K k.cS k.cT C1))
    (SA : Df K mg "_law_same" sSame fA fdA ["_law_found", "_law_due_here"]) (F : Fun K "_law_right" "_law_right" sRight f fd) : FnOk P w K mg base CX0 7 f fd ["_law_trait_here", "_law_word_here", "_law_some"] (spRight K k.cS k.cT) := by
  have GA : FnOk P w K mg base CX0 6 fA fdA ["_law_found", "_law_due_here"] (spSame K k 3) := ok_same S k' SA 3
  have GE : FnOk P w K mg base CX0 3 eT dT ["self", "other"] (spTrEqB K k.cS k.cT) := ok_trEqB S k'.S k'.s1 k'.s2 k'.qS k'.T k'.t1 k'.t2 k'.qT.F
  have GT : FnOk P w K mg base CX0 1 tT gT ["self"] (spTrStr K k.cS k.cT) := ok_trStr S k'.S k'.s1 k'.T k'.t1 k'.t2 T.F
  refine F.ok scRight (fun vs H Q E h => ?_) (fun cdv A outer s H vs Q E hr h => ?_)
  · obtain ⟨t, x, l, dx, p, xs, zs, rfl, _⟩ := h
    rfl
  · obtain ⟨t, x, l, dx, p, xs, zs, rfl, ht, hp, hl, he, tn, q⟩ := h
    have hr3 : Room 3 _ := hr.mono (by decide)
    have hr4 : Room 4 _ := hr.mono (by decide)
    refine ⟨_, pss_cons (ps_if (PW.pt (pw_or (pt_not (pt_val (pe_callB call_isi (by rfl) S.isi (by decide +kernel) (pa_cons (pv 0) (pa_cons (pe_glob (v := .ref k.cT) rfl k'.T.g rfl) pa_nil)))))
          (pw_or1 (pt_not (pt_val (pe_call GA hr rfl SA.g SA.F.kp SA.b .nil pass0 (pa_cons (pe_lst (pa_cons (pe_fld (pv 0) rfl) (pa_cons (pe_fld (pv 0) rfl) pa_nil))) (pa_cons (pe_lst (pa_cons (pv 1) (pa_cons (pe_callTy call_tuple_of (by rfl) S.tuple (by decide +kernel) (pa_cons (pv 2) pa_nil)) pa_nil))) pa_nil)))))))) (pss_one (ps_ret pe_bl)) pss_nil)
      (pss_cons (ps_set (i := 3) scRight.nd rfl (Or.inl rfl) (pe_join pe_str (pe_op op_cat (pe_lst (pa_cons (pv 1) pa_nil)) (pe_lc (own := [("_law_step", 4)]) (g := gName 4) (tt := tYes) (te := tFld K (tVar 4) "name") rfl scRight.nd
          (pi_list (pv 2)) (blkOk_by (N := nRight) (sc := defScope sRight) (by decide +kernel)) (fun _ _ _ _ _ => pg_name (i := 4) scRight.nd rfl (Or.inl rfl)) (fun _ _ _ _ _ => pts_nil) (fun _ _ _ _ _ => pe_fld (pv 4) rfl)))))
      (pss_cons (ps_if (PW.pt (pw_or (pt_cmpR op_ne (pe_callTy (call_strOwn GT T.at_ T.fn T.b pass0 hr3) (by rfl) S.str (by decide +kernel) (pa_cons (pv 0) pa_nil)) (pv 3) (nomark _))
          (pw_or (pt_cmpR (op_eqOwn GE k'.qT.at_ k'.qT.fn k'.qT.b pass0 hr3) (pv 0) (pv 3) (nomark _))
          (pw_or (pt_cmpR (op_eqOwn GE k'.qT.at_ k'.qT.fn k'.qT.b pass0 hr3) (pv 0) (pe_tup (pa_cons (pv 1) (pa_cons (pe_callTy call_tuple_of (by rfl) S.tuple (by decide +kernel) (pa_cons (pv 2) pa_nil)) pa_nil))) (nomark _))
          (pw_or1 (pt_cmpR (op_neOwn GE k'.qT.at_ k'.qT.fn T.ne k'.T.ob k'.qT.b pass0 hr4) (pv 0) (pe_call GX hr rfl TR.g TR.F.kp TR.b .nil passN0 (pa_cons (pv 1) (pa_cons (pe_callTy call_list_of (by rfl) S.list (by decide +kernel) (pa_cons (pv 2) pa_nil)) pa_nil))) (nomark _))))))) (pss_one (ps_ret pe_bl)) pss_nil)
      (pss_cons (ps_set (i := 5) scRight.nd rfl (Or.inl rfl) (StX.pe_makeR MT GT0 hr3 rfl k'.T.g pass0 (pa_cons pe_str (pa_cons (pe_make MS GS0 hr3 rfl k'.S.g bS .nil pass0 (pa_cons (pe_ifExp (pt_cmpR op_eq (pe_fld (pe_ix ix_list (pv 2) pe_int (fun _ _ => rfl)) rfl) pe_str (nomark _)) pe_str pe_str) (pa_cons pe_str pa_nil))) pa_nil))))
      (pss_cons (ps_if (PW.pt (pw_or (pt_cmpR (op_eqOwn GE k'.qT.at_ k'.qT.fn k'.qT.b pass0 hr3) (pv 0) (pv 5) (nomark _)) (pw_or1 (pt_not (pt_cmpR (op_neOwn GE k'.qT.at_ k'.qT.fn T.ne k'.T.ob k'.qT.b pass0 hr4) (pv 0) (pv 5) (nomark _)))))) (pss_one (ps_ret pe_bl)) pss_nil)
      (pss_one (ps_ret (pe_or (pe_cmpR op_eq (pe_callB call_len_seq (by rfl) S.len PySem.boot_len (pa_cons (pv 2) pa_nil)) pe_int (nomark _)) (pe_one (pe_cmpR (op_neOwn GE k'.qT.at_ k'.qT.fn T.ne k'.T.ob k'.qT.b pass0 hr4) (pv 0) (pe_call GX hr rfl TR.g TR.F.kp TR.b .nil passN0 (pa_cons (pv 1) (pa_cons (pe_revL (pv 2)) pa_nil))) (nomark _)))))))))), ?_⟩
    obtain ⟨h7, hA, hW⟩ := trB_none tn
    have lx := words7_len h7
    have hlen : zs.length = cntW x := by
      unfold areB at hA
      rw [Bool.and_eq_true] at hA
      have := hA.1
      simpa using this
    have l1 : xs.length = zs.length := by have := he.1; rwa [List.length_map] at this
    have l12 : zs.length = 1 ∨ zs.length = 2 := by
      rcases cntW_or x with e | e
      · exact .inl (by omega)
      · exact .inr (by omega)
    have st : ∀ (i : Nat) v, xs[i]? = some v → ∃ zy, zs[i]? = some zy ∧ El K k.cS H v (some zy) := fun i v hv => by
      have i1 := (List.getElem?_eq_some_iff.mp hv).1
      have g1 : zs[i]? = some (zs[i]'(by omega)) := List.getElem?_eq_getElem _
      exact ⟨_, g1, he.2 i v _ hv (by rw [List.getElem?_map, g1]; rfl)⟩
    refine ⟨_, rfl, _, _, _, _, true, rfl, .own k.cT, k'.T.ty ht, kit_self, true, rfl, iteF ?_⟩
    refine ⟨_, rfl, _, _, _, _, _, rfl, ht, k'.T.cl, k'.t1, rfl, _, rfl, _, _, _, _, _, rfl, ht, k'.T.cl, k'.t2, rfl, by show 2 ≤ sizeLine; decide, fun q1 h1 => ?_⟩
    have s1 := same_new (o := .lst [.str x, .ref p]) h1
    have w1 := upd_same (H := H) (a := q1) (o := .lst [.str x, .ref p])
    generalize upd H q1 (.lst [.str x, .ref p]) = H1 at s1 w1 ⊢
    refine ⟨_, rfl, _, rfl, l, xs, rfl, .inl ⟨SqL.of (s1 _ _ hl), fun q2 h2 => ⟨by show 2 ≤ sizeLine; decide, fun q3 h3 => ?_⟩⟩⟩
    have s2 := same_new (o := .tup xs) h2
    have w2 := upd_same (H := H1) (a := q2) (o := .tup xs)
    generalize upd H1 q2 (.tup xs) = H2 at s2 w2 h3 ⊢
    have s3 := same_new (o := .lst [.str x, .ref q2]) h3
    have w3 := upd_same (H := H2) (a := q3) (o := .lst [.str x, .ref q2])
    generalize upd H2 q3 (.lst [.str x, .ref q2]) = H3 at s3 w3 ⊢
    have s123 : Same H H3 := (s1.trans s2).trans s3
    have al : Alike K k 3 H3 (.ref q1) (.ref q3) := by
      refine .inr ⟨q1, q3, [.str x, .ref p], [.str x, .ref q2], rfl, rfl, rfl, by show 2 ≤ 20; decide, .inl ⟨s3 _ _ (s2 _ _ w1), w3⟩, fun i x' y' e1 e2 => ?_⟩
      match i, e1, e2 with
      | 0, e1, e2 =>
        cases e1
        cases e2
        exact .inl ⟨.str x lx, rfl⟩
      | 1, e1, e2 =>
        cases e1
        cases e2
        refine .inr ⟨p, q2, xs, xs, rfl, rfl, rfl, by omega, .inr ⟨s123 _ _ hp, s3 _ _ w2⟩, fun j u v g1 g2 => ?_⟩
        rw [g1] at g2
        obtain rfl := Option.some.inj g2
        obtain ⟨zy, _, el⟩ := st j u g1
        exact .inl ⟨leaf_of (el.same s123), rfl⟩
      | i + 2, e1, _ => cases e1
    refine ⟨.ref q1, .ref q3, rfl, al, fun H4 s4 => ⟨_, rfl, iteF ?_⟩⟩
    have t4 := s123.trans s4
    clear al w1 w2 w3 h1 h2 h3 s1 s2 s3 s123 s4
    have hl4 := t4 _ _ hl
    have he4 := he.same t4
    refine ⟨⟨_, rfl⟩, _, rfl, by show 1 ≤ sizeLine; decide, fun r1 h1 => ?_⟩
    have s5 := same_new (o := .lst [.str x]) h1
    have w5 := upd_same (H := H4) (a := r1) (o := .lst [.str x])
    generalize upd H4 r1 (.lst [.str x]) = H5 at s5 w5 ⊢
    have hl5 := s5 _ _ hl4
    have st5 : ∀ (i : Nat) v, xs[i]? = some v → ∃ zy, zs[i]? = some zy ∧ El K k.cS H5 v (some zy) := fun i v hv => by
      obtain ⟨zy, g, el⟩ := st i v hv
      exact ⟨zy, g, el.same (t4.trans s5)⟩
    refine ⟨_, rfl, l, rfl, ⟨_, SqL.of hl5⟩, fun D hD => lc_list (xs := xs) (fun i H6 => Keep D H5 H6 ∧ H6 D = some (.lst (((zs.take i).map fun zy : Str × Str => zy.1).map V.str))) ⟨Keep.new hD, upd_same⟩ (fun i H6 _ h => SqL.of (h.1 _ _ (ne_of_none hl5 hD) hl5)) (fun i v H6 hv h => ?_) (fun H6 h => ?_)⟩
    · obtain ⟨k6, d6⟩ := h
      have sH : Same H5 H6 := fun b o e => k6 b o (ne_of_none e hD) e
      obtain ⟨zy, g1, el⟩ := st5 i v hv
      obtain ⟨b, rfl, ⟨db, hb⟩, _⟩ := el.same sH
      have i1 := (List.getElem?_eq_some_iff.mp hv).1
      refine ⟨rfl, _, rfl, b, k.cS, db, _, _, rfl, hb, k'.S.cl, k'.s1, rfl, _, d6, ?_, fun b o n e => ?_, ?_⟩
      · rw [List.length_map, List.length_map, List.length_take]
        exact small1000 (by omega)
      · rw [upd_ne n]
        exact k6 b o n e
      · rw [upd_same, map_take g1, List.map_append]
        rfl
    obtain ⟨k6, d6⟩ := h
    have s6 : Same H5 H6 := fun b o e => k6 b o (ne_of_none e hD) e
    rw [l1, List.take_length] at d6
    have n4 : ∀ z, z ∈ zs.map (fun zy : Str × Str => zy.1) → z.length ≤ 4 := fun z hz => by
      obtain ⟨zy, hm, rfl⟩ := List.mem_map.mp hz
      obtain ⟨i, hi⟩ := List.mem_iff_getElem?.mp hm
      have lt := (List.getElem?_eq_some_iff.mp hi).1
      obtain ⟨b, _, _, hn, _⟩ := he.2 i (xs[i]'(by omega)) (some zy) (List.getElem?_eq_getElem _) (by rw [List.getElem?_map, hi]; rfl)
      exact hn.len
    refine ⟨r1, D, [.str x], _, rfl, rfl, s6 _ _ w5, d6, ?_, fun r2 h2 => ⟨_, r2, x :: zs.map (fun zy : Str × Str => zy.1), rfl, rfl, .inl (SqL.of upd_same), ?_, ?_⟩⟩
    · rw [List.length_map, List.length_map]
      show 1 + zs.length ≤ sizeLine
      exact Nat.le_of_lt (small1000 (by omega))
    · have sm := sum_len4 n4
      have sp1 : (" " : Str).length = 1 := by decide +kernel
      rw [List.map_cons, List.sum_cons, List.length_cons, sp1]
      rw [List.length_map] at sm ⊢
      omega
    have s7 := (s5.trans s6).trans (same_new (o := .lst ([.str x] ++ (zs.map fun zy : Str × Str => zy.1).map V.str)) h2)
    generalize upd H6 r2 (.lst ([.str x] ++ (zs.map fun zy : Str × Str => zy.1).map V.str)) = H7 at s7 ⊢
    have t7 := t4.trans s7
    clear s7 s6 s5 k6 d6 w5 h1 h2 hD st5 hl5 hl4 he4 t4
    show gName 3 (.str (trText x zs)) _ H7 _
    generalize hT : trText x zs = txt
    -- its text
    have trat : ∀ {H'}, Same H H' → TrAt K k.cS k.cT H' t x zs := fun s' => ⟨dx, p, xs, s' _ _ ht, s' _ _ hp, he.same s'⟩
    refine ⟨_, rfl, t, dx, _, rfl, t7 _ _ ht, t, x, zs, rfl, trat t7, lx, by omega, fun H8 s8 => ⟨trText x zs, rfl, ?_⟩⟩
    have t8 := t7.trans s8
    refine ⟨_, rfl, rfl, _, rfl, ?_⟩
    rw [hT, decide_eq_true (show V.str txt = V.str txt from rfl)]
    refine iteF ?_
    -- not a text
    refine ⟨_, rfl, _, rfl, t, dx, _, _, rfl, t8 _ _ ht, .base (.str txt), nf_str, t, _, x, zs, rfl, trat t8, .inr ⟨_, .base (.str txt), T.kS, _, rfl, _, rfl, iteF ?_⟩⟩
    -- not a tuple
    refine ⟨_, rfl, _, rfl, _, rfl, l, xs, rfl, .inl ⟨SqL.of (t8 _ _ hl), fun q2 h2 => ⟨by show 2 ≤ sizeLine; decide, fun q3 h3 => ?_⟩⟩⟩
    have s9 := (same_new (o := .tup xs) h2).trans (same_new (o := .tup [.str x, .ref q2]) h3)
    have w9 := upd_same (H := upd H8 q2 (.tup xs)) (a := q3) (o := .tup [.str x, .ref q2])
    generalize upd (upd H8 q2 (.tup xs)) q3 (.tup [.str x, .ref q2]) = H9 at s9 w9 ⊢
    have t9 := t8.trans s9
    refine ⟨t, dx, _, _, rfl, t9 _ _ ht, .base (.tup w9), nf_tup, t, _, x, zs, rfl, trat t9, .inr ⟨_, .base (.tup w9), T.kT, _, rfl, _, rfl, iteF ?_⟩⟩
    -- the same made anew
    refine ⟨_, rfl, _, rfl, _, rfl, l, xs, rfl, .inl (SqL.of (t9 _ _ hl)), fun q4 h4 => ?_⟩
    have s10 := same_new (o := .lst xs) h4
    have w10 := upd_same (H := H9) (a := q4) (o := .lst xs)
    generalize upd H9 q4 (.lst xs) = H10 at s10 w10 ⊢
    have t10 := t9.trans s10
    refine ⟨.str x, q4, xs, zs.map some, rfl, w10, .inl ⟨x, rfl, lx⟩, he.same t10, by omega, fun _ y dy p2 H11 s11 ny np hy hp2 => ?_, fun m hm => absurd (tn.symm.trans hm) (by simp)⟩
    have t11 := t10.trans s11
    refine ⟨t, dx, _, _, rfl, t11 _ _ ht, k'.T.ty hy, nf_own, t, _, x, zs, rfl, trat t11, .inl ⟨y, x, zs, rfl, ⟨dy, p2, xs, hy, hp2, he.same t11⟩, fun H12 s12 => ⟨_, rfl, _, rfl, ?_⟩⟩⟩
    have t12 := t11.trans s12
    rw [show (decide (x = x) && decide (zs = zs)) = true by simp]
    refine iteF ?_
    -- another trait
    obtain ⟨v0, hv0⟩ : ∃ v0, xs[0]? = some v0 := ⟨_, List.getElem?_eq_getElem (by omega)⟩
    obtain ⟨zy0, g0, el0⟩ := st 0 v0 hv0
    obtain ⟨a0, rfl, ⟨d0, h0⟩, _⟩ := el0.same t12
    clear t11 t10 t9 t8 t7 s12 s11 s10 s9 s8 w10 w9 h4 h2 h3 hy hp2 ny np
    refine ⟨_, rfl, l, xs, 0, .ref a0, rfl, rfl, SqL.of (t12 _ _ hl), at_of (j := 0) rfl hv0, a0, k.cS, d0, _, _, rfl, h0, k'.S.cl, k'.s1, rfl, rfl, _, rfl, ?_⟩
    have oth : ∃ z0 : Str, (if decide (V.str zy0.1 = V.str "a") = true then V.str "b" else V.str "a") = V.str z0 ∧ NameOk z0 ∧ zy0.1 ≠ z0 := by
      rw [dec_str]
      by_cases e : zy0.1 = "a"
      · exact ⟨"b", if_pos (decide_eq_true e), ⟨by decide +kernel, by decide +kernel, by decide +kernel, by decide +kernel, by decide +kernel, by decide +kernel⟩, by rw [e]; decide +kernel⟩
      · exact ⟨"a", if_neg (by rw [decide_eq_true_eq]; exact e), ⟨by decide +kernel, by decide +kernel, by decide +kernel, by decide +kernel, by decide +kernel, by decide +kernel⟩, e⟩
    obtain ⟨z0, e0, hz0, ne0⟩ := oth
    refine iteC e0 ?_
    refine fun x13 dx13 nx nd ne => ⟨x13, dx13, z0, "+", rfl, upd_same, hz0, plusOk, fun H13 hs kk => ⟨rfl, ?_⟩⟩
    have s13 : Same H12 H13 := same_of_keep (H1 := H12) nx nd kk
    have t13 := t12.trans s13
    refine fun x2 dx2 nx2 nd2 ne2 => ⟨[.ref x2, .str "up"], [.ref x13], rfl, rfl, by show 1 ≤ sizeLine; decide, fun p2 hp2 => ?_⟩
    have px : x2 ≠ p2 := fun e => by
      rw [← e, upd_same] at hp2
      cases hp2
    have np : H13 p2 = none := by
      by_cases hpd : p2 = dx2
      · rw [hpd]; exact nd2
      · rw [upd_ne px.symm, upd_ne hpd] at hp2
        exact hp2
    have sM : Same H13 (upd (upd (upd H13 dx2 (.own x2)) x2 (.ins k.cT dx2 [])) p2 (.tup [.ref x13])) := fun b o e => by
      rw [upd_ne (ne_of_none e np), upd_ne (ne_of_none e nx2), upd_ne (ne_of_none e nd2)]
      exact e
    refine ⟨x2, dx2, p2, x13, z0, rfl, by rw [upd_ne px]; exact upd_same, upd_same, hs.same sM, fun H14 ht2 kk2 => ⟨rfl, ?_⟩⟩
    have s14 : Same H13 H14 := fun b o e => kk2 b o (ne_of_none e nx2) (sM b o e)
    have hp14 := kk2 p2 _ px.symm upd_same
    have t14 := t13.trans s14
    have tr2 : ∀ {H'}, Same H14 H' → TrAt K k.cS k.cT H' x2 "up" [(z0, ("+" : Str))] := fun s' => ⟨dx2, p2, [.ref x13], s' _ _ ht2, s' _ _ hp14, rfl, fun i v o e1 e2 => by
      match i, e1, e2 with
      | 0, e1, e2 =>
        cases e1
        cases e2
        exact ⟨x13, rfl, (hs.same s14).same s', hz0, plusOk⟩
      | i + 1, e1, _ => cases e1⟩
    have no2 : (decide (x = "up") && decide (zs = [(z0, ("+" : Str))])) = false := by
      rw [Bool.and_eq_false_iff]
      right
      refine decide_eq_false fun e => ne0 ?_
      rw [e] at g0
      cases g0
      rfl
    refine ⟨_, rfl, _, rfl, t, dx, _, _, rfl, t14 _ _ ht, k'.T.ty ht2, nf_own, t, _, x, zs, rfl, trat t14, .inl ⟨x2, "up", [(z0, ("+" : Str))], rfl, tr2 Ext.rfl', fun H15 s15 => ⟨_, rfl, _, rfl, ?_⟩⟩⟩
    have t15 := t14.trans s15
    rw [no2]
    refine iteF ?_
    refine ⟨_, rfl, _, rfl, t, dx, _, _, rfl, t15 _ _ ht, k'.T.ty (s15 _ _ ht2), nf_own, t, _, x, zs, rfl, trat t15, .inl ⟨x2, "up", [(z0, ("+" : Str))], rfl, tr2 s15, fun H16 s16 => ⟨_, rfl, _, rfl, ?_⟩⟩⟩
    have t16 := t15.trans s16
    rw [no2]
    refine iteF ?_
    clear tr2 no2 hp14 ht2 s16 s15 t15 t14 s14 sM np px kk2 hp2 t13 s13 hs kk h0
    refine ⟨_, rfl, l, _, rfl, .inl (SqL.of (t16 _ _ hl)), rfl, _, rfl, ?_⟩
    rcases l12 with l12 | l12
    · rw [decide_eq_true (show V.int ((xs.length : Nat) : Int) = V.int 1 by rw [l1, l12]; rfl)]
      exact iteT (q _ t16)
    · rw [decide_eq_false (show ¬ V.int ((xs.length : Nat) : Int) = V.int 1 from fun e => by injection e with e; omega)]
      refine iteF ?_
      have tratE : ∀ H', Same H H' → TrAt K k.cS k.cT H' t x zs := fun H' s' => trat s'
      clear trat
      match zs, l12, xs, l1, he, st, hl, tn, tratE, hA with
      | [za, zb], _, [va, vb], _, he, st, hl, tn, tratE, hA =>
        have nab : za ≠ zb := fun e => by
          unfold areB at hA
          rw [Bool.and_eq_true, Bool.and_eq_true, Bool.or_eq_true] at hA
          have hc : cntW x = 2 := hlen.symm
          rw [hc, e] at hA
          simp at hA
        refine ⟨_, rfl, _, rfl, _, rfl, l, [va, vb], rfl, SqL.of (t16 _ _ hl), fun q5 h5 => ?_⟩
        have s17 := same_new (o := .lst [vb, va]) h5
        have w17 := upd_same (H := H16) (a := q5) (o := .lst [vb, va])
        rw [show ([va, vb] : List V).reverse = [vb, va] from rfl]
        generalize upd H16 q5 (.lst [vb, va]) = H17 at s17 w17 ⊢
        have t17 := t16.trans s17
        have her : Els K k.cS H17 [vb, va] [some zb, some za] := ⟨rfl, fun i v o e1 e2 => by
          match i, e1, e2 with
          | 0, e1, e2 =>
            cases e1
            cases e2
            exact (he.2 1 _ _ rfl rfl).same t17
          | 1, e1, e2 =>
            cases e1
            cases e2
            exact (he.2 0 _ _ rfl rfl).same t17
          | i + 2, e1, _ => cases e1⟩
        refine ⟨.str x, q5, [vb, va], [some zb, some za], rfl, w17, .inl ⟨x, rfl, lx⟩, her, by show 2 ≤ 3; decide, fun _ y dy p3 H18 s18 ny np hy hp3 => ?_, fun m hm => absurd ((trB_rev tn).symm.trans hm) (by simp)⟩
        have t18 := t17.trans s18
        refine ⟨t, dx, _, _, rfl, t18 _ _ ht, k'.T.ty hy, nf_own, t, _, x, [za, zb], rfl, tratE _ t18, .inl ⟨y, x, [zb, za], rfl, ⟨dy, p3, [vb, va], hy, hp3, her.same s18⟩, fun H19 s19 => ⟨_, rfl, ?_⟩⟩⟩
        have t19 := t18.trans s19
        rw [show (decide (x = x) && decide ([za, zb] = [zb, za])) = false by
          rw [Bool.and_eq_false_iff]
          right
          refine decide_eq_false fun e => nab ?_
          injection e]
        exact q _ t19
end
end LK

/-! list(x), x a text: a new list of its letters -/
namespace LR
open PySem PySem.Spec PyProof.Rows
section
variable {prog : Program} {w : World} {A : Around} {E : Value → Shared → Prop} {s : Shared}
theorem extend_str {R : Result → Shared → Prop} (hh : A.handled = none) (x : Str) (t : Tok) (S : Addr) (res : Value) (c₀ : Nat) (hS : s.heap.get? S = some { cls := .type "list", data := .seq #[] c₀ })
    (hR : ∀ h' tk acc' c', (∀ b o, b ≠ S → s.heap.get? b = some o → h'.get? b = some o) → h'.get? S = some { cls := .type "list", dict := none, data := .seq acc' c', slots := #[] } →
      ItemsOf (SignAt x) acc' x.cps.size → R (.ok (.ret res)) { s with heap := h', toks := tk }) (hn : x.cps.size ≤ sizeLine) :
    wpAny (model prog w) A.in1 (Builtin.List.listExtendWith (.ref S) (.str x t) res)
      (fun fin s' => match fin with | .done f => R (.ok f) s' | .again c' => c'.quiet = true ∧ codeAny (model prog w) A c' R s') (fun e s' => R (.error e) s') s := by
  have hSI : S ≠ s.heap.objs.size := Nat.ne_of_lt (Heap.lt_size hS)
  have hSf : S ∉ [s.heap.objs.size] := fun hm => hSI (List.mem_singleton.mp hm)
  unfold Builtin.List.listExtendWith
  refine wpAny_bind (wpAny_typeOf (T := "str") (v := .str x t) rfl ?_)
  have h1 : Builtin.List.listSameRef (.ref S) (.str x t) = false := rfl
  have h2 : (Value.type "str" == Value.type "list") = false := by decide
  have h3 : (Value.type "str" == Value.type "tuple") = false := by decide
  simp only [h1, h2, h3, Bool.or_false, Bool.false_eq_true, if_false]
  refine wpAny_bind (wpAny_pyIter_str fun o St W hst => ?_)
  refine wpAny_bind (wpAny_holding ?_)
  unfold Builtin.List.listLengthHint
  refine wpAny_bind (wpAny_specialOf (T := "str") (v := .str x t) rfl F.str_len ?_)
  wp_delta
  refine wpAny_bind (wpAny_isInstance (T := "str") (v := .str x t) (b := true) rfl (by rw [isSubtype_type]; kernel_rfl) ?_)
  show wpAny _ A.in1 (typeOf (Value.str x t) >>= _) _ _ _
  refine wpAny_bind (wpAny_typeOf (T := "str") (v := .str x t) rfl ?_)
  refine wpAny_pure ?_
  rw [if_neg (by decide)]
  refine wpAny_pure ⟨plainId_quiet F.plain_extend_loop _, codeAny_extend_loopS (W A.in1 hh).toS hn _ hSf _ x.cps.size 0 _ _ _ rfl (Nat.zero_le _) hst (Heap.get?_push_of_some _ hS) (ItemsOf.nil _) fun s' acc' c' hm hS' hacc => ?_⟩
  rw [Moved.eq_with hm]
  refine hR s'.heap s'.toks acc' c' (fun b ob hb e => hm.heap b ob (fun hmem => ?_) (Heap.get?_push_of_some _ e)) hS' hacc
  rcases List.mem_cons.mp hmem with e' | hmem
  · exact hb e'
  · exact absurd (Heap.lt_size e) (by rw [List.mem_singleton.mp hmem]; exact Nat.lt_irrefl _)
theorem list_init_str {R : Result → Shared → Prop} (hh : A.handled = none) (x : Str) (t : Tok) (S : Addr) (hS : s.heap.get? S = some { cls := .type "list", data := .seq #[] })
    (hR : ∀ h' tk acc' c', (∀ b o, b ≠ S → s.heap.get? b = some o → h'.get? b = some o) → h'.get? S = some { cls := .type "list", dict := none, data := .seq acc' c', slots := #[] } →
      ItemsOf (SignAt x) acc' x.cps.size → R (.ok (.ret .none)) { s with heap := h', toks := tk }) (hn : x.cps.size ≤ sizeLine) :
    wpAny (model prog w) A.in1 (Builtin.«list.__init__» ⟨[.ref S, .str x t], []⟩)
      (fun fin s' => match fin with | .done f => R (.ok f) s' | .again c' => c'.quiet = true ∧ codeAny (model prog w) A c' R s') (fun e s' => R (.error e) s') s := by
  show wpAny _ _ (do let old ← Builtin.List.listItems (.ref S); Builtin.List.listUpdate (.ref S) (fun _ => #[]); letGo old.toList.reverse; Builtin.List.listExtendWith (.ref S) (.str x t) .none) _ _ s
  refine wpAny_bind ?_
  unfold Builtin.List.listItems
  refine wpAny_bind (wpAny_seqItems hS rfl (wpAny_pure ?_))
  show wpAny _ _ (updateSeq S (fun _ => #[]) >>= fun _ => letGo (#[] : Array Value).toList.reverse >>= fun _ => Builtin.List.listExtendWith (.ref S) (.str x t) .none) _ _ s
  refine wpAny_bind (wpAny_updateSeq hS rfl ?_)
  have hS₂ := Heap.get?_update_self (Obj.mapSeq (fun _ => (#[] : Array Value))) hS rfl
  have oth : ∀ b o, b ≠ S → s.heap.get? b = some o → (s.heap.update S (Obj.mapSeq (fun _ => (#[] : Array Value)))).get? b = some o :=
    fun b o hb e => (Heap.get?_update_other _ _ (Ne.symm hb)).trans e
  refine wpAny_bind (wpAny_letGo ?_)
  refine extend_str hh x t S .none _ hS₂ (fun h' tk acc' c' hk hS' hacc => ?_) hn
  exact hR h' tk acc' c' (fun b o hb e => hk b o hb (oth b o hb e)) hS' hacc
theorem call_list_str {x : Str} {t : Tok} {Q : Value → Shared → Prop} (hh : A.handled = none) (hn : x.cps.size ≤ sizeLine)
    (hQ : ∀ h' tk acc' c', (∀ b o, s.heap.get? b = some o → h'.get? b = some o) →
      h'.get? s.heap.objs.size = some { cls := .type "list", dict := none, data := .seq acc' c', slots := #[] } → ItemsOf (SignAt x) acc' x.cps.size → Q (.ref s.heap.objs.size) { s with heap := h', toks := tk }) :
    wpAny (model prog w) A (call (.type "list") [.str x t]) Q E s := by
  refine callType_codes (Q₁ := fun obj s₁ => obj = .ref s.heap.objs.size ∧ s₁ = { s with heap := s.heap.push { cls := .type "list", data := .seq #[] } }) PySem.F.called_list (PySem.F.typeCall_list_1 _) PySem.F.entry_list_init
    (code_list_new _ ⟨rfl, rfl⟩) fun obj s₁ h₁ => ?_
  obtain ⟨rfl, rfl⟩ := h₁
  have hS : (s.heap.push { cls := .type "list", data := .seq #[] }).get? s.heap.objs.size = some { cls := .type "list", data := .seq #[] } := Heap.get?_push_size _ rfl
  refine ⟨⟨_, hS, rfl⟩, PySem.F.args_list_init_2 _ _, list_init_str (A := A.in1) hh x t _ hS (fun h' tk acc' c' hk hS' hacc => ?_) hn⟩
  exact ⟨rfl, hQ h' tk acc' c' (fun b o e => hk b o (Nat.ne_of_lt (Heap.lt_size e)) (Heap.get?_push_of_some _ e)) hS' hacc⟩
end
open L2
/-- list(z) -/
theorem cr_listStr {X : Cx} (hc : X.calm = true) : CallR X (.type "list") (fun xs H Q => ∃ z : Str, xs = [V.str z] ∧ z.length ≤ sizeLine ∧ ∀ p, H p = none → Q (.ref p) (upd H p (.lst (z.cps.toList.map fun c => V.str ⟨#[c]⟩)))) := by
  intro pins s σ H xs us Q I r h
  obtain ⟨z, rfl, hz, q⟩ := h
  obtain ⟨u, rfl, rx⟩ := vals1 r
  obtain ⟨t, rfl⟩ := rx
  refine call_list_str (I.ok.hd hc) hz fun h' tk acc' c' hkeep hS hacc => ?_
  refine ⟨.ref s.heap.objs.size, upd H s.heap.objs.size (.lst (z.cps.toList.map fun c => V.str ⟨#[c]⟩)), I.laid hkeep (Nat.le_refl _) (show ObjOk X.prog X.w _ _ _ (.lst (z.cps.toList.map fun c => V.str ⟨#[c]⟩)) from ⟨?_, acc'.toList, c', ?_, ?_⟩), rfl, q _ (I.hok.fresh (Nat.le_refl _))⟩
  · rw [List.length_map]; exact hz
  · refine vals_of_at (by rw [List.length_map]; simp [hacc.1]) fun j x w h1 h2 => ?_
    obtain ⟨c, u, e1, e2⟩ := hacc.2 j w (by rw [← Array.getElem?_toList]; exact h2)
    rw [List.getElem?_map, Array.getElem?_toList, e1] at h1
    cases h1
    subst e2
    exact ⟨u, rfl⟩
  · exact hS
end LR

namespace LK
open PySem PySem.Spec PyProof.Rows L2
/-! ### different names: one of the letters is always left -/
theorem len_sub : ∀ (ls zs : List Str), ls.Nodup → (∀ x, x ∈ ls → x ∈ zs) → ls.length ≤ zs.length
  | [], _, _, _ => Nat.zero_le _
  | a :: r, zs, nd, sub => by
    have ha := sub a List.mem_cons_self
    have nd' := List.nodup_cons.mp nd
    have h := len_sub r (zs.erase a) nd'.2 fun x hx => by
      have ne : x ≠ a := fun e => nd'.1 (e ▸ hx)
      exact (List.mem_erase_of_ne ne).mpr (sub x (List.mem_cons_of_mem _ hx))
    have := List.length_erase_of_mem ha
    have pos : 0 < zs.length := List.length_pos_of_mem ha
    simp only [List.length_cons]
    omega
theorem one_left {zs : List Str} (h : zs.length < 26) : ∃ c, c ∈ letters.cps.toList ∧ (⟨#[c]⟩ : Str) ∉ zs := by
  refine Classical.byContradiction fun no => ?_
  have all : ∀ x, x ∈ (letters.cps.toList.map fun c => (⟨#[c]⟩ : Str)) → x ∈ zs := fun x hx => by
    obtain ⟨c, hc, rfl⟩ := List.mem_map.mp hx
    exact Classical.byContradiction fun n => no ⟨c, hc, n⟩
  have nd : (letters.cps.toList.map fun c => (⟨#[c]⟩ : Str)).Nodup := by decide +kernel
  have := len_sub _ _ nd all
  rw [List.length_map] at this
  have l26 : letters.cps.toList.length = 26 := by decide +kernel
  omega
theorem letter_ok : ∀ c, c ∈ letters.cps.toList → NameOk ⟨#[c]⟩ := fun c hc => by
  have h := letters_low c hc
  refine ⟨(show 0 < 1 by decide), (show 1 ≤ 4 by decide), fun c' hc' => ?_, fun e => ?_, fun e => ?_, fun e => ?_⟩
  · have e : c' = c := by simpa [TL.tl] using hc'
    rw [e]
    exact h
  all_goals
    have e' := congrArg Str.length e
    revert e'
    show 1 = _ → False
    decide +kernel
theorem not_inV {y : Str} {zs : List Str} (no : y ∉ zs) : inV (.str y) (zs.map V.str) = false := by
  cases e : inV (.str y) (zs.map V.str) with
  | false => rfl
  | true =>
    exfalso
    unfold inV at e
    rw [List.any_eq_true] at e
    obtain ⟨v, hv, e⟩ := e
    obtain ⟨z, hz, rfl⟩ := List.mem_map.mp hv
    have e2 : (V.str z = V.str y) := by
      first | exact of_decide_eq_true e | simpa using e | (unfold eqV at e; simpa using e)
    injection e2 with e2
    exact no (e2 ▸ hz)
def spWords : Sp := fun vs H Q _ => ∃ (l : Addr) (n : Nat), vs = [.ref l, .int n] ∧ n ≤ 20 ∧ Feed H l ∧ ∀ (D : Addr) (zs : List Str) (H' : Hp), zs.length = n → (∀ z, z ∈ zs → NameOk z) → zs.Nodup → H D = none → D ≠ l → H' D = some (.lst (zs.map V.str)) → Feed H' l → Keep l H H' → Q (.ref D) H'
section
variable {P : Program} {w : World} {K : PySem.W.Frag} {mg : Str → Option Value} {base : Heap}
def nWords : List Str := ["_law_feed_here", "_law_many", "_law_found", "_law_k", "_law_some", "_law_word_here"]
theorem scWords : FnScope nWords ["_law_feed_here", "_law_many"] (defScope sWords) := ⟨rfl, rfl, rfl, by decide +kernel, rfl, by decide +kernel, by decide +kernel⟩
theorem ok_words {f fW : Addr} {fd fdW : FuncData} (S : Std mg) (F : Fun K "_law_words" "_law_words" sWords f fd) (W : Df K mg "_law_word" sWord fW fdW ["_law_feed_here"]) (GW : FnOk P w K mg base CX0 3 fW fdW ["_law_feed_here"] spWord) :
    FnOk P w K mg base CX0 4 f fd ["_law_feed_here", "_law_many"] spWords := by
  refine F.ok scWords (fun vs H Q E h => ?_) (fun cdv A outer s H vs Q E hr h => ?_)
  · obtain ⟨l, n, rfl, _⟩ := h
    rfl
  · obtain ⟨l, n, rfl, hn, hf, q⟩ := h
    refine ⟨_, pss_cons (ps_set (i := 2) scWords.nd rfl (Or.inr rfl) (pe_lst pa_nil))
      (pss_cons (ps_for PassesOwn.never rfl (pi_range1 (by rfl) S.range (pa_cons (pv 1) pa_nil)) (pg_name (i := 3) scWords.nd rfl (Or.inl rfl))
        (pss_cons (ps_set (i := 4) scWords.nd rfl (Or.inl rfl) (pe_op op_cat (pe_lst (pa_cons (pe_call GW hr rfl W.g W.F.kp W.b .nil pass0 (pa_cons (pv 0) pa_nil)) pa_nil)) (pe_callTy (LR.cr_listStr rfl) (by rfl) S.list (by decide +kernel) (pa_cons pe_str pa_nil))))
        (pss_one (ps_expr (pe_bm PySem.F.plainAttrs_list PySem.F.slot_list_append PySem.F.type_list_append mt_append (pv 2) (pa_cons (pe_ix ix_list (pe_lc (own := [("_law_word_here", 5)]) (g := gName 5) rfl scWords.nd (pi_list (pv 4)) (blkOk_by (N := nWords) (sc := defScope sWords) (by decide +kernel)) (fun _ _ _ _ _ => pg_name (i := 5) scWords.nd rfl (Or.inl rfl))
            (fun _ _ _ _ _ => pts_one (pt_cmpR (show OpR _ _ (rIn K true) from op_notIn_seq) (pv 5) (pv 2) (by rfl))) (fun _ _ _ _ _ => pv 5)) pe_int (fun _ _ => rfl)) pa_nil))))))
      (pss_one (ps_ret (pv 2)))), ?_⟩
    refine ⟨by show 0 ≤ sizeLine; decide, fun D hD => ?_⟩
    have hlD : l ≠ D := hf.ne hD
    refine ⟨_, rfl, n, rfl, by omega, by omega, for_range (lo := 0) (n := (n : Int).toNat) (fun i σ H' => (∃ v3 v4 v5, σ = [some (.ref l), some (.int n), some (.ref D), v3, v4, v5]) ∧ Feed H' l ∧ Keep l H H' ∧ ∃ zs : List Str, zs.length = i ∧ (∀ z, z ∈ zs → NameOk z) ∧ zs.Nodup ∧ H' D = some (.lst (zs.map V.str))) ⟨⟨_, _, _, rfl⟩, hf.same (same_new hD), Keep.new hD, [], rfl, fun z hz => by simp at hz, List.nodup_nil, upd_same⟩ ?_ ?_⟩
    · rintro i σ H1 hi ⟨⟨v3, v4, v5, rfl⟩, hf1, k1, zs, el, hz, nd, h1⟩
      have fl : (zs.map V.str).all flatV = true := by
        rw [List.all_eq_true]
        intro v hv
        obtain ⟨z, _, rfl⟩ := List.mem_map.mp hv
        rfl
      refine ⟨_, rfl, l, rfl, hf1, fun z H2 hz0 hf2 k2 => ⟨by show 1 ≤ sizeLine; decide, fun p1 hp1 => ⟨letters, rfl, by decide +kernel, fun p2 hp2 => ⟨p1, p2, [.str z], _, rfl, rfl, same_new hp2 _ _ upd_same, upd_same, by rw [List.length_map]; show 1 + letters.cps.toList.length ≤ sizeLine; decide +kernel, fun p3 hp3 => ?_⟩⟩⟩⟩
      have s3 := ((same_new (o := .lst [.str z]) hp1).trans (same_new (o := .lst (letters.cps.toList.map fun c => V.str ⟨#[c]⟩)) hp2)).trans (same_new (o := .lst ([.str z] ++ letters.cps.toList.map fun c => V.str ⟨#[c]⟩)) hp3)
      have h3 := s3 _ _ (k2 _ _ hlD.symm h1)
      refine ⟨_, rfl, .inl ⟨rfl, _, SqL.of h3⟩, _, rfl, p3, rfl, ⟨_, SqL.of upd_same⟩, fun D2 hD2 => ?_⟩
      have hp3' : (upd (upd (upd H2 p1 (.lst [.str z])) p2 (.lst (letters.cps.toList.map fun c => V.str ⟨#[c]⟩))) p3 (.lst ([.str z] ++ letters.cps.toList.map fun c => V.str ⟨#[c]⟩))) p3 = some (.lst ([.str z] ++ letters.cps.toList.map fun c => V.str ⟨#[c]⟩)) := upd_same
      have hf3 := hf2.same s3
      have k3 : Keep l H _ := (k1.trans k2).trans (Keep.same s3)
      generalize upd (upd (upd H2 p1 (.lst [.str z])) p2 (.lst (letters.cps.toList.map fun c => V.str ⟨#[c]⟩))) p3 (.lst ([.str z] ++ letters.cps.toList.map fun c => V.str ⟨#[c]⟩)) = H3 at h3 hp3' hf3 k3 hD2 ⊢
      have len27 : ([V.str z] ++ letters.cps.toList.map fun c => V.str ⟨#[c]⟩).length = 27 := by
        rw [List.length_append, List.length_map]
        show 1 + letters.cps.toList.length = 27
        decide +kernel
      have itm : ∀ v, v ∈ ([V.str z] ++ letters.cps.toList.map fun c => V.str ⟨#[c]⟩) → ∃ y, v = V.str y ∧ NameOk y := fun v hv => by
        rcases List.mem_append.mp hv with h | h
        · exact ⟨z, by simpa using h, hz0⟩
        · obtain ⟨c, hc, rfl⟩ := List.mem_map.mp h
          exact ⟨_, rfl, letter_ok c hc⟩
      have lft : ∃ v, v ∈ ([V.str z] ++ letters.cps.toList.map fun c => V.str ⟨#[c]⟩) ∧ inV v (zs.map V.str) = false := by
        obtain ⟨c, hc, no⟩ := one_left (zs := zs) (by omega)
        exact ⟨_, List.mem_append_right _ (List.mem_map_of_mem hc), not_inV no⟩
      generalize ([V.str z] ++ letters.cps.toList.map fun c => V.str ⟨#[c]⟩) = xs at hp3' len27 itm lft ⊢
      refine lc_list (xs := xs) (fun j H' => Keep D2 H3 H' ∧ H' D2 = some (.lst ((xs.take j).filter fun v => !inV v (zs.map V.str)))) ⟨Keep.new hD2, upd_same⟩ (fun j H' _ h => SqL.of (h.1 _ _ (ne_of_none hp3' hD2) hp3')) (fun j x H' hx ⟨k4, d4⟩ => ?_) (fun H' ⟨k4, d4⟩ => ?_)
      · obtain ⟨y, rfl, hy⟩ := itm x (List.mem_of_getElem? hx)
        have h4 := k4 _ _ (ne_of_none h3 hD2) h3
        have tk : xs.take (j + 1) = xs.take j ++ [V.str y] := by rw [List.take_add_one, hx]; rfl
        refine ⟨rfl, _, rfl, _, rfl, D, zs.map V.str, rfl, .inl (SqL.of h4), rfl, fl, ?_⟩
        rw [if_pos rfl]
        refine ⟨_, rfl, ite2 (fun h => ?_) (fun h => ?_)⟩
        · refine ⟨_, rfl, _, d4, ?_, fun b o n e => ?_, ?_⟩
          · have := List.length_filter_le (fun v => !inV v (zs.map V.str)) (xs.take j)
            rw [List.length_take] at this
            exact small1000 (by omega)
          · rw [upd_ne n]
            exact k4 b o n e
          · rw [upd_same, tk, List.filter_append, List.filter_cons, if_pos h]
            rfl
        · refine ⟨k4, ?_⟩
          rw [tk, List.filter_append, List.filter_cons, if_neg h, List.filter_nil, List.append_nil]
          exact d4
      · have full : xs.take xs.length = xs := List.take_length
        rw [full] at d4
        have h4 := k4 _ _ (ne_of_none h3 hD2) h3
        obtain ⟨v, hv, hne⟩ := lft
        have mem : v ∈ xs.filter (fun v => !inV v (zs.map V.str)) := List.mem_filter.mpr ⟨hv, by rw [hne]; rfl⟩
        have all : ∀ u, u ∈ xs.filter (fun v => !inV v (zs.map V.str)) → u ∈ xs ∧ inV u (zs.map V.str) = false := fun u hu => by
          obtain ⟨a, b⟩ := List.mem_filter.mp hu
          exact ⟨a, by simpa using b⟩
        generalize xs.filter (fun v => !inV v (zs.map V.str)) = ys at d4 mem all
        cases ys with
        | nil => cases mem
        | cons u r =>
          obtain ⟨ux, un⟩ := all u List.mem_cons_self
          obtain ⟨y, rfl, hy⟩ := itm u ux
          have ynot : y ∉ zs := fun m => by
            have e : inV (.str y) (zs.map V.str) = true := by
              unfold inV
              rw [List.any_eq_true]
              exact ⟨_, List.mem_map_of_mem m, by show (y == y) = true; simp⟩
            rw [e] at un
            cases un
          refine ⟨D2, _, 0, .str y, rfl, rfl, SqL.of d4, at_of (j := 0) rfl rfl, D, _, _, rfl, rfl, h4, by rw [List.length_map]; exact small1000 (by omega), ?_⟩
          have k5 : Keep l H H' := fun b o n e => k4 b o (ne_of_none (k3 b o n e) hD2) (k3 b o n e)
          have lD2 : l ≠ D2 := hf3.ne hD2
          refine ⟨⟨_, _, _, rfl⟩, (hf3.keep k4 lD2).keep (m := D) Keep.put hlD, fun b o n e => ?_, zs ++ [y], by simp [el], fun u hu => ?_, ?_, ?_⟩
          · rw [upd_ne (ne_of_none e hD)]
            exact k5 b o n e
          · rcases List.mem_append.mp hu with m | m
            · exact hz u m
            · obtain rfl : u = y := by simpa using m
              exact hy
          · refine List.nodup_append.mpr ⟨nd, by simp, fun a ha b hb => ?_⟩
            obtain rfl : b = y := by simpa using hb
            exact fun e => ynot (e ▸ ha)
          · rw [upd_same, List.map_append]
            rfl
    · rintro σ H1 ⟨⟨v3, v4, v5, rfl⟩, hf1, k1, zs, el, hz, nd, h1⟩
      exact ⟨_, rfl, q D zs H1 (by omega) hz nd hD hlD.symm h1 hf1 k1⟩
end
end LK

namespace LK
open PySem PySem.Spec PyProof.Rows L2 LR
/-! ### steps drawn -/
theorem Keep.del {l : Addr} {H H' : Hp} (k : Keep l H H') : Same (L2.del H l) (L2.del H' l) := fun b o e => by
  have hb : b ≠ l := fun z => by
    rw [z, del_same] at e
    cases e
  rw [del_ne hb] at e ⊢
  exact k b o hb e
theorem del_sub {l : Addr} {H : Hp} : Same (L2.del H l) H := fun b o e => by
  have hb : b ≠ l := fun z => by
    rw [z, del_same] at e
    cases e
  rw [del_ne hb] at e
  exact e
theorem same_del {l : Addr} {H H' : Hp} (s : Same H H') : Same (L2.del H l) (L2.del H' l) := (Keep.same s).del
/-- put at the left-out place -/
theorem del_put {l : Addr} {H : Hp} {o : HO} : Same (L2.del H l) (L2.del (upd H l o) l) := (Keep.put (l := l) (H := H) (o := o)).del
def spPoolS (K : PySem.W.Frag) (cS : Addr) : Sp := fun vs H Q _ => ∃ (l : Addr) (n : Nat), vs = [.ref l, .int n] ∧ n ≤ 20 ∧ Feed H l ∧ ∀ (D : Addr) (xs : List V) (zs : List (Str × Str)) (H' : Hp), Els K cS (L2.del H' l) xs (zs.map some) → xs.length = n → H D = none → D ≠ l → H' D = some (.lst xs) → Feed H' l → Keep l H H' → Q (.ref D) H'
def menuW : List Str := ["+", "+", "+", "++", "++", "--", "??", "-", "?", "+-", "+++", "-+?"]
theorem menuW_ok : ∀ y, y ∈ menuW → WaysOk y := by
  intro y hy
  have : y = "+" ∨ y = "++" ∨ y = "--" ∨ y = "??" ∨ y = "-" ∨ y = "?" ∨ y = "+-" ∨ y = "+++" ∨ y = "-+?" := by
    unfold menuW at hy
    simp only [List.mem_cons, List.not_mem_nil, or_false] at hy
    rcases hy with h | h | h | h | h | h | h | h | h | h | h | h <;> simp [h]
  rcases this with rfl | rfl | rfl | rfl | rfl | rfl | rfl | rfl | rfl <;> exact ⟨by decide +kernel, by decide +kernel, by decide +kernel⟩
theorem els_add {K : PySem.W.Frag} {cS : Addr} {H : Hp} {xs : List V} {zs : List (Str × Str)} {v : V} {zy : Str × Str} (h : Els K cS H xs (zs.map some)) (e : El K cS H v (some zy)) : Els K cS H (xs ++ [v]) ((zs ++ [zy]).map some) := by
  have l1 := h.1
  rw [List.length_map] at l1
  refine ⟨by simp [l1], fun i u o e1 e2 => ?_⟩
  rw [List.map_append] at e2
  by_cases hi : i < xs.length
  · rw [List.getElem?_append_left hi] at e1
    rw [List.getElem?_append_left (by rw [List.length_map]; omega)] at e2
    exact h.2 i u o e1 e2
  · rw [List.getElem?_append_right (by omega)] at e1
    rw [List.getElem?_append_right (by rw [List.length_map]; omega)] at e2
    rw [List.length_map, ← l1] at e2
    cases hj : i - xs.length with
    | zero =>
      rw [hj] at e1 e2
      cases e1
      cases e2
      exact e
    | succ j =>
      rw [hj] at e1
      cases e1
section
variable {P : Program} {w : World} {K : PySem.W.Frag} {mg : Str → Option Value} {base : Heap}
def nPoolS : List Str := ["_law_feed_here", "_law_many", "_law_some", "_law_word_here"]
theorem scPoolS : FnScope nPoolS ["_law_feed_here", "_law_many"] (defScope sPoolSteps) := ⟨rfl, rfl, rfl, by decide +kernel, rfl, by decide +kernel, by decide +kernel⟩
theorem ok_poolS {cS iS fW fP f : Addr} {jS fdW fdP fd : FuncData} (S : Std mg) (c : OwnCl K mg "Step" cS) (MS : Mk K cS iS) (GS0 : FnOk P w K mg base CX0 2 iS jS ["self", "name", "ways"] (spStInit cS)) (bS : Binds K jS ["self", "name", "ways"] [])
    (WD : Df K mg "_law_words" sWords fW fdW ["_law_feed_here", "_law_many"]) (GW : FnOk P w K mg base CX0 4 fW fdW ["_law_feed_here", "_law_many"] spWords)
    (PK : Df K mg "_law_pick" sPick fP fdP ["_law_feed_here", "_law_items"]) (GP : FnOk P w K mg base CX0 2 fP fdP ["_law_feed_here", "_law_items"] (spPick K))
    (F : Fun K "_law_pool_steps" "_law_pool_steps" sPoolSteps f fd) : FnOk P w K mg base CX0 5 f fd ["_law_feed_here", "_law_many"] (spPoolS K cS) := by
  refine F.ok scPoolS (fun vs H Q E h => ?_) (fun cdv A outer s H vs Q E hr h => ?_)
  · obtain ⟨l, n, rfl, _⟩ := h
    rfl
  · obtain ⟨l, n, rfl, hn, hf, q⟩ := h
    have hr2 : Room 2 _ := hr.mono (by decide)
    have hr3 : Room 3 _ := hr.mono (by decide)
    refine ⟨_, pss_cons (ps_set (i := 2) scPoolS.nd rfl (Or.inr rfl) (pe_lst (pa_cons pe_str (pa_cons pe_str (pa_cons pe_str (pa_cons pe_str (pa_cons pe_str (pa_cons pe_str (pa_cons pe_str (pa_cons pe_str (pa_cons pe_str (pa_cons pe_str (pa_cons pe_str (pa_cons pe_str pa_nil))))))))))))))
      (pss_one (ps_ret (pe_lc (own := [("_law_word_here", 3)]) (g := gName 3) (tt := tYes) rfl scPoolS.nd (pi_list (pe_call GW hr rfl WD.g WD.F.kp WD.b .nil pass0 (pa_cons (pv 0) (pa_cons (pv 1) pa_nil))))
          (blkOk_by (N := nPoolS) (sc := defScope sPoolSteps) (by decide +kernel)) (fun _ _ _ _ _ => pg_name (i := 3) scPoolS.nd rfl (Or.inl rfl)) (fun _ _ _ _ _ => pts_nil)
          (fun _ _ _ _ _ => pe_make MS GS0 hr3 rfl c.g bS .nil pass0 (pa_cons (pv 3) (pa_cons (pe_call GP hr2 rfl PK.g PK.F.kp PK.b .nil pass0 (pa_cons (pv 0) (pa_cons (pv 2) pa_nil))) pa_nil)))))), ?_⟩
    refine ⟨by show 12 ≤ sizeLine; decide, fun p hp => ?_⟩
    have s1 := same_new (o := .lst (menuW.map V.str)) hp
    have w1 := upd_same (H := H) (a := p) (o := .lst (menuW.map V.str))
    rw [show (HO.lst [V.str "+", V.str "+", V.str "+", V.str "++", V.str "++", V.str "--", V.str "??", V.str "-", V.str "?", V.str "+-", V.str "+++", V.str "-+?"]) = .lst (menuW.map V.str) from rfl]
    have pl : p ≠ l := (hf.ne hp).symm
    generalize upd H p (.lst (menuW.map V.str)) = H1 at s1 w1 ⊢
    refine ⟨_, rfl, _, rfl, l, n, rfl, hn, hf.same s1, fun W zs0 H2 ln ok _ hW nW hW2 hf2 k2 => ⟨W, rfl, ⟨_, SqL.of hW2⟩, fun D hD => ?_⟩⟩
    have k12 : Keep l H H2 := (Keep.same s1).trans k2
    have w2 := k2 _ _ pl w1
    have nD : D ≠ l := (hf2.ne hD).symm
    have hDn : H D = none := by
      cases e : H D with
      | none => rfl
      | some o =>
        rw [k12 _ _ nD e] at hD
        cases hD
    refine lc_list (xs := zs0.map V.str) (fun i H4 => Feed H4 l ∧ Keep l H2 H4 ∧ ∃ xs zs, xs.length = i ∧ H4 D = some (.lst xs) ∧ Els K cS (L2.del (L2.del H4 l) D) xs (zs.map some))
      ⟨hf2.same (same_new hD), Keep.new hD, [], [], rfl, upd_same, rfl, fun i v o e => by cases e⟩ (fun i H4 _ h => SqL.of (h.2.1 _ _ nW hW2)) (fun i v H4 hv h => ?_) (fun H4 h => ?_)
    · obtain ⟨hf4, k4, xs, zs, lx, d4, el⟩ := h
      rw [List.getElem?_map] at hv
      obtain ⟨z, hz, rfl⟩ := Option.map_eq_some_iff.mp hv
      have li := (List.getElem?_eq_some_iff.mp hz).1
      refine ⟨rfl, _, rfl, _, rfl, _, rfl, l, .ref p, (fun v => ∃ y, v = .str y ∧ WaysOk y), rfl, hf4, .inr ⟨p, _, rfl, pl, SqL.of (k4 _ _ pl w2), by decide +kernel, by decide +kernel, fun v hv => ?_⟩, ?_⟩
      · obtain ⟨y, hy, rfl⟩ := List.mem_map.mp hv
        exact ⟨y, rfl, menuW_ok y hy⟩
      · rintro v H5 ⟨y, rfl, hy⟩ hf5 k5
        refine fun x dx nx nd ne => ⟨x, dx, z, y, rfl, upd_same, ok z (List.mem_of_getElem? hz), hy, fun H6 hs kk => ⟨rfl, ?_⟩⟩
        have s6 : Same H5 H6 := same_of_keep (H1 := H5) nx nd kk
        have k46 : Keep l H4 H6 := k5.trans (Keep.same s6)
        have d6 := k46 _ _ nD d4
        have xD : x ≠ D := (ne_of_none (k5 _ _ nD d4) nx).symm
        have xl : x ≠ l := (hf5.ne nx).symm
        have sub : Same (L2.del (L2.del H4 l) D) (L2.del (L2.del (upd H6 D (.lst (xs ++ [.ref x]))) l) D) := fun b o e => by
          have hb : b ≠ D := fun z => by
            rw [z, del_same] at e
            cases e
          rw [del_ne hb] at e ⊢
          have hb2 : b ≠ l := fun z => by
            rw [z, del_same] at e
            cases e
          rw [del_ne hb2] at e ⊢
          rw [upd_ne hb]
          exact k46 _ _ hb2 e
        refine ⟨xs, d6, small1000 (by omega), (hf5.same s6).keep (m := D) Keep.put nD.symm, fun b o n e => ?_, xs ++ [.ref x], zs ++ [(z, y)], by simp [lx], upd_same, els_add (el.same sub) ?_⟩
        · have hb : b ≠ D := ne_of_none e hD
          rw [upd_ne hb]
          exact k46 _ _ n (k4 _ _ n e)
        · obtain ⟨ds, hs'⟩ := hs
          exact ⟨x, rfl, ⟨ds, by rw [del_ne xD, del_ne xl, upd_ne xD]; exact hs'⟩, ok z (List.mem_of_getElem? hz), hy⟩
    · obtain ⟨hf4, k4, xs, zs, lx, d4, el⟩ := h
      exact q D xs zs H4 (el.same del_sub) (by rw [lx, List.length_map, ln]) hDn nD d4 hf4 (k12.trans k4)
end
end LK

namespace LK
open PySem PySem.Spec PyProof.Rows L2 LR
/-! ### traits drawn -/
def TrS (K : PySem.W.Frag) (cS C : Addr) (H : Hp) (v : V) : Prop := ∃ a x zs, v = .ref a ∧ TrAt K cS C H a x zs ∧ zs.length ≤ 3
theorem TrS.same {K : PySem.W.Frag} {cS C : Addr} {H H' : Hp} {v : V} (s : Same H H') (h : TrS K cS C H v) : TrS K cS C H' v := by
  obtain ⟨a, x, zs, e, t, l⟩ := h
  exact ⟨a, x, zs, e, t.same s, l⟩
def spPoolT (K : PySem.W.Frag) (cS C : Addr) : Sp := fun vs H Q _ => ∃ (l S : Addr) (xs : List V) (zs : List (Str × Str)), vs = [.ref l, .ref S] ∧ Feed H l ∧ S ≠ l ∧ H S = some (.lst xs) ∧ Els K cS (L2.del H l) xs (zs.map some) ∧ xs.length ≤ 3 ∧
  ∀ (D : Addr) (ts : List V) (H' : Hp), (∀ t, t ∈ ts → TrS K cS C (L2.del H' l) t) → ts.length ≤ 100 → H D = none → D ≠ l → H' D = some (.lst ts) → Feed H' l → Keep l H H' → Q (.ref D) H'
theorem passAtN0 {P : Program} {w : World} {X : Cx} : ∀ σ : L2.St, PassesAt (L2N.CX P w) X σ ((fun _ => E0) σ) := fun _ _ _ _ _ _ _ h => by
  obtain ⟨_, _, _, _, _, _, _, _, _, _, _, _, h⟩ := h
  exact h.elim
/-- while they are gathered in L, F beside it still empty, or while they go from L to F -/
structure Gath (K : PySem.W.Frag) (cS C l L F : Addr) (H H' : Hp) (ts fs : List V) : Prop where
  feed : Feed H' l
  keep : Keep l H H'
  hL : H' L = some (.lst ts)
  hF : H' F = some (.lst fs)
  all : ∀ t, t ∈ ts ++ fs → TrS K cS C (L2.del (L2.del (L2.del H' l) L) F) t
theorem del3_same {l L F : Addr} {H1 H2 : Hp} (h : ∀ b o, b ≠ l → b ≠ L → b ≠ F → H1 b = some o → H2 b = some o) : Same (L2.del (L2.del (L2.del H1 l) L) F) (L2.del (L2.del (L2.del H2 l) L) F) := fun b o e => by
  have hF : b ≠ F := fun z => by
    rw [z, del_same] at e
    cases e
  rw [del_ne hF] at e ⊢
  have hL : b ≠ L := fun z => by
    rw [z, del_same] at e
    cases e
  rw [del_ne hL] at e ⊢
  have hl : b ≠ l := fun z => by
    rw [z, del_same] at e
    cases e
  rw [del_ne hl] at e ⊢
  exact h b o hl hL hF e
theorem Gath.step {K : PySem.W.Frag} {cS C l L F : Addr} {H H1 H2 : Hp} {ts fs : List V} (g : Gath K cS C l L F H H1 ts fs) (s : Same H1 H2) : Gath K cS C l L F H H2 ts fs :=
  ⟨g.feed.same s, g.keep.trans (Keep.same s), s _ _ g.hL, s _ _ g.hF, fun t ht => (g.all t ht).same (del3_same fun b o _ _ _ e => s b o e)⟩
theorem Gath.bare {K : PySem.W.Frag} {cS C l L F : Addr} {H H1 : Hp} {ts fs : List V} (g : Gath K cS C l L F H H1 ts fs) (nL : H L = none) (nF : H F = none) : Same (L2.del H l) (L2.del (L2.del (L2.del H1 l) L) F) := fun b o e => by
  have hl : b ≠ l := fun z => by
    rw [z, del_same] at e
    cases e
  rw [del_ne hl] at e
  rw [del_ne (ne_of_none e nF), del_ne (ne_of_none e nL), del_ne hl]
  exact g.keep b o hl e
theorem trB_word {w : Str} {os : List (Option (Str × Str))} (h7 : w ∈ words7) (hA : areB (cntW w) os = true) (hl : lawFit w (os.map waysOf) = true) : trB (.str w) os = none := by
  have e : trB (.str w) os = (if w ∈ words7 then (if areB (cntW w) os = true then (if wayB w os = true then none else some ("ways" : Str)) else some ("steps" : Str)) else some ("word" : Str)) := rfl
  rw [e, if_pos h7, if_pos hA, if_pos (by rw [fit_eq h7 hA]; exact hl)]
theorem areB_one {zy : Str × Str} : areB 1 [some zy] = true := rfl
theorem areB_two {a b : Str × Str} (h : a ≠ b) : areB 2 [some a, some b] = true := by
  unfold areB
  simp [h]
def words5 : List Str := ["up", "down", "settled", "mean", "alike"]
theorem tr_tail2 {K : PySem.W.Frag} {cS C C1 : Addr} {wv : V} {xs : List V} {os : List (Option (Str × Str))} {H : Hp} {R : Hp → Prop} (sw : Seen K H wv) (he : Els K cS H xs os) (h3 : xs.length ≤ 3) (tn : trB wv os = none)
    {x dx : Addr} (qy : ∀ dx p H', Same H H' → H p = none → H' x = some (.ins C dx [("word", wv), ("steps", .ref p)]) → H' p = some (.tup xs) → R H')
    (nx : H x = none) (nd : H dx = none) (ne : dx ≠ x) {p : Addr} (hp : (upd (upd H dx (.own x)) x (.ins C dx [])) p = none) :
    spTrX K cS C C1 ([.ref x, wv] ++ [.ref p]) (upd (upd (upd H dx (.own x)) x (.ins C dx [])) p (.tup xs)) (fun v H2 => v = .non ∧ R H2) E0 := by
  have px : x ≠ p := fun e => by
    rw [← e, upd_same] at hp
    cases hp
  have np : H p = none := by
    by_cases hpd : p = dx
    · rw [hpd]; exact nd
    · rw [upd_ne px.symm, upd_ne hpd] at hp
      exact hp
  have s : Same H (upd (upd (upd H dx (.own x)) x (.ins C dx [])) p (.tup xs)) := fun b o e => by
    rw [upd_ne (ne_of_none e np), upd_ne (ne_of_none e nx), upd_ne (ne_of_none e nd)]
    exact e
  exact ⟨x, dx, p, wv, xs, os, rfl, by rw [upd_ne px]; exact upd_same, upd_same, seen_same s sw, he.same s, by omega, fun _ H' hx kk => ⟨rfl, qy dx p H' (fun b o e => kk b o (ne_of_none e nx) (s b o e)) np hx (kk p _ px.symm upd_same)⟩, fun m hm => absurd (tn.symm.trans hm) (by simp)⟩
theorem Gath.app {K : PySem.W.Frag} {cS C l L F : Addr} {H H1 H2 : Hp} {ts fs : List V} {y dy p : Addr} {w : Str} {xs : List V} {zs : List (Str × Str)} (g : Gath K cS C l L F H H1 ts fs) (LF : L ≠ F) (nL : H L = none) (Ll : L ≠ l) (s2 : Same H1 H2) (ny : H1 y = none) (np : H1 p = none)
    (hy : H2 y = some (.ins C dy [("word", .str w), ("steps", .ref p)])) (hp : H2 p = some (.tup xs)) (he : Els K cS (L2.del (L2.del (L2.del H1 l) L) F) xs (zs.map some)) (h3 : zs.length ≤ 3) : Gath K cS C l L F H (upd H2 L (.lst (ts ++ [.ref y]))) (ts ++ [.ref y]) fs := by
  have sD : Same (L2.del (L2.del (L2.del H1 l) L) F) (L2.del (L2.del (L2.del (upd H2 L (.lst (ts ++ [.ref y]))) l) L) F) := del3_same fun b o _ hL _ e => by
    rw [upd_ne hL]
    exact s2 _ _ e
  have yL : y ≠ L := (ne_of_none g.hL ny).symm
  have yF : y ≠ F := (ne_of_none g.hF ny).symm
  have yl : y ≠ l := (g.feed.ne ny).symm
  have pL : p ≠ L := (ne_of_none g.hL np).symm
  have pF : p ≠ F := (ne_of_none g.hF np).symm
  have pl : p ≠ l := (g.feed.ne np).symm
  refine ⟨(g.feed.same s2).keep (m := L) Keep.put Ll.symm, fun b o n e => ?_, upd_same, ?_, fun t ht => ?_⟩
  · rw [upd_ne (ne_of_none e nL)]
    exact s2 _ _ (g.keep b o n e)
  · rw [upd_ne LF.symm]
    exact s2 _ _ g.hF
  · have old : t ∈ ts ++ fs ∨ t = .ref y := by
      rcases List.mem_append.mp ht with h | h
      · rcases List.mem_append.mp h with h | h
        · exact .inl (List.mem_append_left _ h)
        · exact .inr (by simpa using h)
      · exact .inl (List.mem_append_right _ h)
    rcases old with h | rfl
    · exact (g.all t h).same sD
    · refine ⟨y, w, zs, rfl, ⟨dy, p, xs, ?_, ?_, he.same sD⟩, h3⟩
      · rw [del_ne yF, del_ne yL, del_ne yl, upd_ne yL]
        exact hy
      · rw [del_ne pF, del_ne pL, del_ne pl, upd_ne pL]
        exact hp
theorem del3_sub {l L F : Addr} {H : Hp} : Same (L2.del (L2.del (L2.del H l) L) F) H := fun b o e => del_sub _ _ (del_sub _ _ (del_sub _ _ e))
theorem els_of1 {K : PySem.W.Frag} {cS : Addr} {H : Hp} {v : V} {zy : Str × Str} (h : El K cS H v (some zy)) : Els K cS H [v] ([zy].map some) := ⟨rfl, fun i u o e1 e2 => by
  match i, e1, e2 with
  | 0, e1, e2 =>
    cases e1
    cases e2
    exact h
  | i + 1, e1, _ => cases e1⟩
theorem els_of2 {K : PySem.W.Frag} {cS : Addr} {H : Hp} {v u : V} {zy zy' : Str × Str} (h : El K cS H v (some zy)) (h' : El K cS H u (some zy')) : Els K cS H [v, u] ([zy, zy'].map some) := ⟨rfl, fun i a o e1 e2 => by
  match i, e1, e2 with
  | 0, e1, e2 =>
    cases e1
    cases e2
    exact h
  | 1, e1, e2 =>
    cases e1
    cases e2
    exact h'
  | i + 2, e1, _ => cases e1⟩
theorem words5_7 {x : Str} (h : x ∈ words5) : x ∈ words7 ∧ cntW x = 1 := by
  have : x = "up" ∨ x = "down" ∨ x = "settled" ∨ x = "mean" ∨ x = "alike" := by simpa [words5] using h
  rcases this with rfl | rfl | rfl | rfl | rfl <;> exact ⟨by decide +kernel, by decide +kernel⟩
section
variable {P : Program} {w : World} {K : PySem.W.Frag} {mg : Str → Option Value} {base : Heap}
def nPoolT : List Str := ["_law_feed_here", "_law_steps", "_law_left", "_law_found", "_law_one", "_law_word_here", "_law_other"]
theorem scPoolT : FnScope nPoolT ["_law_feed_here", "_law_steps"] (defScope sPoolTraits) := ⟨rfl, rfl, rfl, by decide +kernel, rfl, by decide +kernel, by decide +kernel⟩
theorem ok_poolT {cS cT C1 iT eS fD fF f : Addr} {dS fdD fdF fd : FuncData} (S : Std mg) (c : OwnCl K mg "Step" cS) (n1 : NoAttr K cS "name") (n2 : NoAttr K cS "ways") (qS : EqM K cS sStepEq "Step.__eq__" eS dS) (ne : PySem.W.findIn K (.ref cS) "__ne__" = some (some (.builtin "object.__ne__")))
    (gT : mg "Trait" = some (.ref cT)) (M : Mk K cT iT)
    (GT : FnR P w K mg base (L2N.CX P w) 4 iT (fun vs H Q E => ∃ ws rest, vs = ws ++ rest ∧ ws.length = (["self", "word"] : List Str).length ∧ rest.length ≤ sizeLine ∧ ∀ p, H p = Option.none → spTrX K cS cT C1 (ws ++ [V.ref p]) (upd H p (.tup rest)) Q E))
    (D : Df K mg "_law_draw" sDraw fD fdD ["_law_feed_here", "_law_many"]) (FI : Df K mg "_law_fits" sFits fF fdF ["_law_word_here", "_law_steps"])
    (F : Fun K "_law_pool_traits" "_law_pool_traits" sPoolTraits f fd) : FnOk P w K mg base CX0 6 f fd ["_law_feed_here", "_law_steps"] (spPoolT K cS cT) := by
  have GE : FnOk P w K mg base CX0 1 eS dS ["self", "other"] (spEqB K cS) := ok_stepEqB S c n1 n2 qS.F
  have GD : FnOk P w K mg base CX0 1 fD fdD ["_law_feed_here", "_law_many"] spDraw := ok_draw S D.F
  have GF : FnOk P w K mg base CX0 3 fF fdF ["_law_word_here", "_law_steps"] (spFits K cS) := ok_fits S c n2 FI.F
  refine F.ok scPoolT (fun vs H Q E h => ?_) (fun cdv A outer s H vs Q E hr h => ?_)
  · obtain ⟨l, S', xs, zs, rfl, _⟩ := h
    rfl
  · obtain ⟨l, S', xs, zs, rfl, hf, nS, hS, el, h3, q⟩ := h
    have hr1 : Room 1 _ := hr.mono (by decide)
    have hr2 : Room 2 _ := hr.mono (by decide)
    have hr3 : Room 3 _ := hr.mono (by decide)
    refine ⟨_, pss_cons (ps_par (i := 2) (j := 3) rfl scPoolT.nd rfl rfl (by decide) rfl rfl (pa_cons (pe_lst pa_nil) (pa_cons (pe_lst pa_nil) pa_nil)) rfl)
      (pss_cons (ps_for PassesOwn.never rfl (pi_list (pv 1)) (pg_name (i := 4) scPoolT.nd rfl (Or.inl rfl))
        (pss_cons (ps_for PassesOwn.never rfl (pi_tup (pe_tup (pa_cons pe_str (pa_cons pe_str (pa_cons pe_str (pa_cons pe_str (pa_cons pe_str pa_nil))))))) (pg_name (i := 5) scPoolT.nd rfl (Or.inl rfl))
          (pss_one (ps_if (pt_val (pe_call GF hr3 rfl FI.g FI.F.kp FI.b .nil pass0 (pa_cons (pv 5) (pa_cons (pe_lst (pa_cons (pv 4) pa_nil)) pa_nil)))) (pss_one (ps_expr (pe_bm PySem.F.plainAttrs_list PySem.F.slot_list_append PySem.F.type_list_append mt_append (pv 2)
            (pa_cons (pe_makeRS M GT hr rfl gT passAtN0 (pa_cons (pv 5) (pa_cons (pv 4) pa_nil))) pa_nil)))) pss_nil)))
        (pss_one (ps_for PassesOwn.never rfl (pi_list (pv 1)) (pg_name (i := 6) scPoolT.nd rfl (Or.inl rfl))
          (pss_cons (ps_if (PW.pt (pw_and (pt_cmpR (op_neOwn GE qS.at_ qS.fn ne c.ob qS.b pass0 hr2) (pv 4) (pv 6) (nomark _)) (pw_and1 (pt_cmpR op_eq (pe_fld (pv 4) rfl) (pe_fld (pv 6) rfl) (nomark _))))) (pss_one (ps_expr (pe_bm PySem.F.plainAttrs_list PySem.F.slot_list_append PySem.F.type_list_append mt_append (pv 2)
            (pa_cons (pe_makeRS M GT hr rfl gT passAtN0 (pa_cons pe_str (pa_cons (pv 4) (pa_cons (pv 6) pa_nil)))) pa_nil)))) pss_nil)
          (pss_one (ps_if (PW.pt (pw_and (pt_cmpR (op_neOwn GE qS.at_ qS.fn ne c.ob qS.b pass0 hr2) (pv 4) (pv 6) (nomark _)) (pw_and (pt_cmpR op_eq (pe_fld (pv 4) rfl) pe_str (nomark _)) (pw_and1 (pt_cmpR op_eq (pe_fld (pv 6) rfl) pe_str (nomark _)))))) (pss_one (ps_expr (pe_bm PySem.F.plainAttrs_list PySem.F.slot_list_append PySem.F.type_list_append mt_append (pv 2)
            (pa_cons (pe_makeRS M GT hr rfl gT passAtN0 (pa_cons pe_str (pa_cons (pv 4) (pa_cons (pv 6) pa_nil)))) pa_nil)))) pss_nil)))))))
      (pss_cons (ps_while PassesOwn.never (pt_cmpR (op_neEnd hr1.units0) (pv 2) (pe_lst pa_nil) (nomark _)) (pss_one (ps_expr (pe_bm PySem.F.plainAttrs_list PySem.F.slot_list_append PySem.F.type_list_append mt_append (pv 3)
          (pa_cons (pe_bm PySem.F.plainAttrs_list PySem.F.slot_list_pop PySem.F.type_list_pop mt_popAt (pv 2) (pa_cons (pe_call GD hr1 rfl D.g D.F.kp D.b .nil pass0 (pa_cons (pv 0) (pa_cons (pe_callB call_len_seq (by rfl) S.len PySem.boot_len (pa_cons (pv 2) pa_nil)) pa_nil))) pa_nil)) pa_nil)))))
      (pss_one (ps_ret (pv 3))))), ?_⟩
    have l1 : xs.length = zs.length := by have := el.1; rwa [List.length_map] at this
    have st : ∀ (i : Nat) v, xs[i]? = some v → ∃ zy, zs[i]? = some zy ∧ El K cS (L2.del H l) v (some zy) := fun i v hv => by
      have i1 := (List.getElem?_eq_some_iff.mp hv).1
      have g1 : zs[i]? = some (zs[i]'(by omega)) := List.getElem?_eq_getElem _
      exact ⟨_, g1, el.2 i v _ hv (by rw [List.getElem?_map, g1]; rfl)⟩
    refine ⟨by show 0 ≤ sizeLine; decide, fun L hL => ⟨by show 0 ≤ sizeLine; decide, fun F' hF' => ?_⟩⟩
    have sL := same_new (o := .lst []) hL
    have sF := same_new (o := .lst []) hF'
    have Ll : L ≠ l := (hf.ne hL).symm
    have Fl : F' ≠ l := ((hf.same sL).ne hF').symm
    have LF : L ≠ F' := ne_of_none upd_same hF'
    have nF : H F' = none := by
      rw [upd_ne LF.symm] at hF'
      exact hF'
    have g0 : Gath K cS cT l L F' H (upd (upd H L (.lst [])) F' (.lst [])) [] [] :=
      ⟨(hf.same sL).same sF, Keep.same (sL.trans sF), sF _ _ upd_same, upd_same, fun t ht => by cases ht⟩
    have w8 : (8 : Nat) = 8 := rfl
    refine ⟨_, _, rfl, _, rfl, S', rfl, ⟨_, SqL.of (g0.keep _ _ nS hS)⟩, for_list (xs := xs) (fun i σ H' => (∃ v4 v5 v6, σ = [some (.ref l), some (.ref S'), some (.ref L), some (.ref F'), v4, v5, v6]) ∧ ∃ ts, Gath K cS cT l L F' H H' ts [] ∧ ts.length ≤ 11 * i)
      ⟨⟨_, _, _, rfl⟩, [], g0, Nat.zero_le _⟩ (fun i σ H' _ h => ?_) (fun i v σ H1 hv h => ?_) (fun σ H1 h => ?_)⟩
    · obtain ⟨_, ts, g, _⟩ := h
      exact SqL.of (g.keep _ _ nS hS)
    · obtain ⟨⟨v4, v5, v6, rfl⟩, ts, g, lt⟩ := h
      clear g0 sL sF
      have hi := (List.getElem?_eq_some_iff.mp hv).1
      obtain ⟨zy, gz, el4⟩ := st i v hv
      have el4g : ∀ {H'} {ts' fs'}, Gath K cS cT l L F' H H' ts' fs' → El K cS (L2.del (L2.del (L2.del H' l) L) F') v (some zy) := fun g => el4.same (g.bare hL nF)
      refine ⟨by show 5 ≤ sizeLine; decide, fun p5 hp5 => ?_⟩
      rw [show (HO.tup [V.str "up", V.str "down", V.str "settled", V.str "mean", V.str "alike"]) = .tup (words5.map V.str) from rfl]
      have g5 := g.step (same_new (o := .tup (words5.map V.str)) hp5)
      have w5 := upd_same (H := H1) (a := p5) (o := .tup (words5.map V.str))
      have p5L : p5 ≠ L := (ne_of_none g.hL hp5).symm
      generalize upd H1 p5 (.tup (words5.map V.str)) = H5 at g5 w5 ⊢
      refine ⟨p5, rfl, ⟨_, SqT.of w5⟩, for_tup (xs := words5.map V.str) (fun j σ H' => (∃ v5 v6, σ = [some (.ref l), some (.ref S'), some (.ref L), some (.ref F'), some v, v5, v6]) ∧ H' p5 = some (.tup (words5.map V.str)) ∧ ∃ ts, Gath K cS cT l L F' H H' ts [] ∧ ts.length ≤ 11 * i + j)
        ⟨⟨_, _, rfl⟩, w5, ts, g5, by omega⟩ (fun j σ H' _ h => SqT.of h.2.1) (fun j u σ H6 hu h => ?_) (fun σ H6 h => ?_)⟩
      · obtain ⟨⟨v5, v6, rfl⟩, w6, ts, g6, lt⟩ := h
        rw [List.getElem?_map] at hu
        obtain ⟨x, hx, rfl⟩ := Option.map_eq_some_iff.mp hu
        obtain ⟨h7, c1⟩ := words5_7 (List.mem_of_getElem? hx)
        have hj : j < 5 := (List.getElem?_eq_some_iff.mp hx).1
        refine ⟨_, rfl, _, rfl, by show 1 ≤ sizeLine; decide, fun q5 hq => ?_⟩
        have sq := same_new (o := .lst [v]) hq
        have g7 := g6.step sq
        have w7 := sq _ _ w6
        have wq := upd_same (H := H6) (a := q5) (o := .lst [v])
        generalize upd H6 q5 (.lst [v]) = H7 at g7 w7 wq ⊢
        refine ⟨x, q5, [v], [some zy], rfl, h7, wq, els_of1 ((el4g g7).same del3_sub), by show 1 ≤ 3; decide, rfl, fun H8 s8 => ⟨_, rfl, ?_⟩⟩
        have g8 := g7.step s8
        have w8 := s8 _ _ w7
        cases hb : lawFit x ([some zy].map waysOf) with
        | false => exact iteF ⟨⟨_, _, rfl⟩, w8, ts, g8, by omega⟩
        | true =>
          refine iteT ⟨_, rfl, .inl ⟨rfl, _, SqL.of g8.hL⟩, _, rfl, _, rfl, fun y dy ny nd ne' => ⟨[.ref y, .str x], [v], rfl, rfl, by show 1 ≤ sizeLine; decide, fun p hp => ?_⟩⟩
          have tn := trB_word (os := [some zy]) h7 (by rw [c1]; exact areB_one) hb
          refine tr_tail2 (.inl ⟨x, rfl, words7_len h7⟩) (els_of1 ((el4g g8).same del3_sub)) (by show 1 ≤ 3; decide) tn (fun dy p2 H9 s9 np hy hp2 => ⟨L, ts, _, rfl, rfl, s9 _ _ g8.hL, small1000 (by omega), ?_⟩) ny nd ne' hp
          exact ⟨⟨_, _, rfl⟩, by rw [upd_ne p5L]; exact s9 _ _ w8, _, g8.app LF hL Ll s9 ny np hy hp2 (els_of1 (el4g g8)) (by show 1 ≤ 3; decide), by rw [List.length_append]; show ts.length + 1 ≤ _; omega⟩
      · obtain ⟨⟨v5, v6, rfl⟩, _, ts, g6, lt⟩ := h
        clear g5 w5 p5L g hp5
        have lt5 : ts.length ≤ 11 * i + 5 := lt
        refine ⟨_, rfl, S', rfl, ⟨_, SqL.of (g6.keep _ _ nS hS)⟩, for_list (xs := xs) (fun j σ H' => (∃ v5 v6, σ = [some (.ref l), some (.ref S'), some (.ref L), some (.ref F'), some v, v5, v6]) ∧ ∃ ts, Gath K cS cT l L F' H H' ts [] ∧ ts.length ≤ 11 * i + 5 + 2 * j)
          ⟨⟨_, _, rfl⟩, ts, g6, by omega⟩ (fun j σ H' _ h => ?_) (fun j u σ H7 hu h => ?_) (fun σ H7 h => ?_)⟩
        · obtain ⟨_, ts, g, _⟩ := h
          exact SqL.of (g.keep _ _ nS hS)
        · clear g6 lt lt5
          obtain ⟨⟨v5, v6, rfl⟩, ts, g7, lt⟩ := h
          have hj := (List.getElem?_eq_some_iff.mp hu).1
          obtain ⟨zy6, gz6, el6⟩ := st j u hu
          have el6g : ∀ {H'} {ts' fs'}, Gath K cS cT l L F' H H' ts' fs' → El K cS (L2.del (L2.del (L2.del H' l) L) F') u (some zy6) := fun g => el6.same (g.bare hL nF)
          obtain ⟨a4, rfl, _⟩ := id el4
          obtain ⟨a6, rfl, _⟩ := id el6
          obtain ⟨_, e4, ⟨d4, h4⟩, _⟩ := (el4g g7).same del3_sub
          cases e4
          obtain ⟨_, e6, ⟨d6, h6⟩, _⟩ := (el6g g7).same del3_sub
          cases e6
          refine ⟨_, rfl, _, rfl, a4, d4, _, .ref cS, rfl, h4, c.ty h6, nf_own, a4, .ref a6, zy.1, zy.2, rfl, ⟨d4, h4⟩, .inl ⟨a6, zy6.1, zy6.2, rfl, ⟨d6, h6⟩, _, rfl, _, rfl, ?_⟩⟩
          cases hq : (decide (zy.1 = zy6.1) && decide (zy.2 = zy6.2)) with
          | true =>
            refine iteF ?_
            refine ⟨_, rfl, _, rfl, a4, d4, _, .ref cS, rfl, h4, c.ty h6, nf_own, a4, .ref a6, zy.1, zy.2, rfl, ⟨d4, h4⟩, .inl ⟨a6, zy6.1, zy6.2, rfl, ⟨d6, h6⟩, _, rfl, _, rfl, ?_⟩⟩
            rw [hq]
            exact iteF ⟨⟨_, _, rfl⟩, ts, g7, by omega⟩
          | false =>
            have nz : zy ≠ zy6 := fun e => by
              rw [zy_dec, decide_eq_false_iff_not] at hq
              exact hq e
            refine iteT ?_
            refine ⟨_, rfl, a4, cS, d4, _, _, rfl, h4, c.cl, n2, rfl, _, rfl, a6, cS, d6, _, _, rfl, h6, c.cl, n2, rfl, rfl, _, rfl, ?_⟩
            rw [dec_str]
            by_cases hy : zy.2 = zy6.2
            · rw [decide_eq_true hy]
              refine iteT ⟨_, rfl, .inl ⟨rfl, _, SqL.of g7.hL⟩, _, rfl, _, rfl, fun y dy ny nd ne' => ⟨[.ref y, .str "below"], [.ref a4, .ref a6], rfl, rfl, by show 2 ≤ sizeLine; decide, fun p hp => ?_⟩⟩
              have tn : trB (.str "below") [some zy, some zy6] = none := trB_word (by decide +kernel) (by rw [show cntW "below" = 2 by decide +kernel]; exact areB_two nz) (by
                unfold lawFit
                rw [if_neg (by decide +kernel), if_neg (by decide +kernel), if_neg (by decide +kernel), if_pos rfl]
                exact decide_eq_true hy)
              refine tr_tail2 (.inl ⟨"below", rfl, by decide +kernel⟩) (els_of2 ((el4g g7).same del3_sub) ((el6g g7).same del3_sub)) (by show 2 ≤ 3; decide) tn (fun dy p2 H9 s9 np hy9 hp2 => ⟨L, ts, _, rfl, rfl, s9 _ _ g7.hL, small1000 (by omega), ?_⟩) ny nd ne' hp
              have g9 := g7.app LF hL Ll s9 ny np hy9 hp2 (els_of2 (el4g g7) (el6g g7)) (by show 2 ≤ 3; decide)
              have lt9 : (ts ++ [V.ref y]).length ≤ 11 * i + 5 + 2 * j + 1 := by rw [List.length_append]; show ts.length + 1 ≤ _; omega
              generalize upd H9 L (.lst (ts ++ [.ref y])) = HX at g9 ⊢
              generalize ts ++ [V.ref y] = tsX at g9 lt9
              clear h4 h6 d4 d6
              obtain ⟨_, e4, ⟨d4, h4⟩, _⟩ := (el4g g9).same del3_sub
              cases e4
              obtain ⟨_, e6, ⟨d6, h6⟩, _⟩ := (el6g g9).same del3_sub
              cases e6
              refine ⟨_, rfl, _, rfl, a4, d4, _, .ref cS, rfl, h4, c.ty h6, nf_own, a4, .ref a6, zy.1, zy.2, rfl, ⟨d4, h4⟩, .inl ⟨a6, zy6.1, zy6.2, rfl, ⟨d6, h6⟩, _, rfl, _, rfl, ?_⟩⟩
              rw [hq]
              refine iteT ⟨_, rfl, a4, cS, d4, _, _, rfl, h4, c.cl, n2, rfl, rfl, _, rfl, ?_⟩
              rw [dec_str]
              by_cases y4 : zy.2 = "+"
              · rw [decide_eq_true y4]
                refine iteT ⟨_, rfl, a6, cS, d6, _, _, rfl, h6, c.cl, n2, rfl, rfl, _, rfl, ?_⟩
                rw [dec_str]
                by_cases y6 : zy6.2 = "+"
                · rw [decide_eq_true y6]
                  refine iteT ⟨_, rfl, .inl ⟨rfl, _, SqL.of g9.hL⟩, _, rfl, _, rfl, fun y dy ny nd ne' => ⟨[.ref y, .str "back"], [.ref a4, .ref a6], rfl, rfl, by show 2 ≤ sizeLine; decide, fun p hp => ?_⟩⟩
                  have tn : trB (.str "back") [some zy, some zy6] = none := trB_word (by decide +kernel) (by rw [show cntW "back" = 2 by decide +kernel]; exact areB_two nz) (by
                    unfold lawFit
                    rw [if_neg (by decide +kernel), if_neg (by decide +kernel), if_neg (by decide +kernel), if_neg (by decide +kernel)]
                    show decide ([zy.2, zy6.2] = (["+", "+"] : List Str)) = true
                    rw [y4, y6]
                    exact decide_eq_true rfl)
                  refine tr_tail2 (.inl ⟨"back", rfl, by decide +kernel⟩) (els_of2 ((el4g g9).same del3_sub) ((el6g g9).same del3_sub)) (by show 2 ≤ 3; decide) tn (fun dy p2 H10 s10 np hy10 hp2 => ⟨L, tsX, _, rfl, rfl, s10 _ _ g9.hL, small1000 (by omega), ?_⟩) ny nd ne' hp
                  exact ⟨⟨_, _, rfl⟩, _, g9.app LF hL Ll s10 ny np hy10 hp2 (els_of2 (el4g g9) (el6g g9)) (by show 2 ≤ 3; decide), by rw [List.length_append]; show tsX.length + 1 ≤ _; omega⟩
                · rw [decide_eq_false y6]
                  exact iteF ⟨⟨_, _, rfl⟩, tsX, g9, by omega⟩
              · rw [decide_eq_false y4]
                exact iteF ⟨⟨_, _, rfl⟩, tsX, g9, by omega⟩
            · rw [decide_eq_false hy]
              refine iteF ?_
              have g9 := g7
              have lt9 : ts.length ≤ 11 * i + 5 + 2 * j + 1 := by omega
              generalize H7 = HX at g9 ⊢
              generalize ts = tsX at g9 lt9
              clear h4 h6 d4 d6
              obtain ⟨_, e4, ⟨d4, h4⟩, _⟩ := (el4g g9).same del3_sub
              cases e4
              obtain ⟨_, e6, ⟨d6, h6⟩, _⟩ := (el6g g9).same del3_sub
              cases e6
              refine ⟨_, rfl, _, rfl, a4, d4, _, .ref cS, rfl, h4, c.ty h6, nf_own, a4, .ref a6, zy.1, zy.2, rfl, ⟨d4, h4⟩, .inl ⟨a6, zy6.1, zy6.2, rfl, ⟨d6, h6⟩, _, rfl, _, rfl, ?_⟩⟩
              rw [hq]
              refine iteT ⟨_, rfl, a4, cS, d4, _, _, rfl, h4, c.cl, n2, rfl, rfl, _, rfl, ?_⟩
              rw [dec_str]
              by_cases y4 : zy.2 = "+"
              · rw [decide_eq_true y4]
                refine iteT ⟨_, rfl, a6, cS, d6, _, _, rfl, h6, c.cl, n2, rfl, rfl, _, rfl, ?_⟩
                rw [dec_str]
                by_cases y6 : zy6.2 = "+"
                · rw [decide_eq_true y6]
                  refine iteT ⟨_, rfl, .inl ⟨rfl, _, SqL.of g9.hL⟩, _, rfl, _, rfl, fun y dy ny nd ne' => ⟨[.ref y, .str "back"], [.ref a4, .ref a6], rfl, rfl, by show 2 ≤ sizeLine; decide, fun p hp => ?_⟩⟩
                  have tn : trB (.str "back") [some zy, some zy6] = none := trB_word (by decide +kernel) (by rw [show cntW "back" = 2 by decide +kernel]; exact areB_two nz) (by
                    unfold lawFit
                    rw [if_neg (by decide +kernel), if_neg (by decide +kernel), if_neg (by decide +kernel), if_neg (by decide +kernel)]
                    show decide ([zy.2, zy6.2] = (["+", "+"] : List Str)) = true
                    rw [y4, y6]
                    exact decide_eq_true rfl)
                  refine tr_tail2 (.inl ⟨"back", rfl, by decide +kernel⟩) (els_of2 ((el4g g9).same del3_sub) ((el6g g9).same del3_sub)) (by show 2 ≤ 3; decide) tn (fun dy p2 H10 s10 np hy10 hp2 => ⟨L, tsX, _, rfl, rfl, s10 _ _ g9.hL, small1000 (by omega), ?_⟩) ny nd ne' hp
                  exact ⟨⟨_, _, rfl⟩, _, g9.app LF hL Ll s10 ny np hy10 hp2 (els_of2 (el4g g9) (el6g g9)) (by show 2 ≤ 3; decide), by rw [List.length_append]; show tsX.length + 1 ≤ _; omega⟩
                · rw [decide_eq_false y6]
                  exact iteF ⟨⟨_, _, rfl⟩, tsX, g9, by omega⟩
              · rw [decide_eq_false y4]
                exact iteF ⟨⟨_, _, rfl⟩, tsX, g9, by omega⟩
        · obtain ⟨⟨v5, v6, rfl⟩, ts, g7, lt⟩ := h
          exact ⟨⟨_, _, _, rfl⟩, ts, g7, by omega⟩
    · obtain ⟨⟨v4, v5, v6, rfl⟩, ts, g, lt⟩ := h
      refine ⟨fun m σ H' => (∃ v4 v5 v6, σ = [some (.ref l), some (.ref S'), some (.ref L), some (.ref F'), v4, v5, v6]) ∧ ∃ ts fs, Gath K cS cT l L F' H H' ts fs ∧ ts.length = m ∧ ts.length + fs.length ≤ 40, ⟨ts.length, ⟨_, _, _, rfl⟩, ts, [], g, rfl, by show ts.length + 0 ≤ 40; omega⟩, ?_⟩
      clear g lt g0 sL sF
      rintro m σ H2 ⟨⟨v4, v5, v6, rfl⟩, ts, fs, g, rfl, lt⟩
      refine ⟨_, rfl, by show 0 ≤ sizeLine; decide, fun e he => ⟨L, e, ts, rfl, rfl, same_new he _ _ g.hL, upd_same, _, rfl, ?_⟩⟩
      have g3 := g.step (same_new (o := .lst []) he)
      generalize upd H2 e (.lst []) = H3 at g3 ⊢
      clear g he
      by_cases hz : ts = []
      · rw [show ts.isEmpty = true by rw [hz]; rfl]
        refine iteF ⟨_, rfl, ?_⟩
        refine q F' fs H3 (fun t ht => (g3.all t (List.mem_append_right _ ht)).same fun b o e => del_sub _ _ (del_sub _ _ e)) (by omega) nF Fl g3.hF g3.feed g3.keep
      · have pos : 0 < ts.length := List.length_pos_iff.mpr hz
        rw [show ts.isEmpty = false by cases ts with | nil => exact absurd rfl hz | cons _ _ => rfl]
        refine iteT ⟨fun σ' H' => (∃ v4 v5 v6, σ' = [some (.ref l), some (.ref S'), some (.ref L), some (.ref F'), v4, v5, v6]) ∧ ∃ ts' fs', Gath K cS cT l L F' H H' ts' fs' ∧ ts'.length = ts.length - 1 ∧ ts'.length + fs'.length ≤ 40, fun σ' H' h => ⟨ts.length - 1, by omega, h⟩, ?_⟩
        refine ⟨_, rfl, .inl ⟨rfl, _, SqL.of g3.hF⟩, _, rfl, .inl ⟨rfl, _, SqL.of g3.hL⟩, _, rfl, _, rfl, L, _, rfl, .inl (SqL.of g3.hL), l, _, rfl, g3.feed, by show (1 : Int) ≤ (ts.length : Nat); omega, by show ((ts.length : Nat) : Int) < 1073741824; omega, fun d H4 d0 d1 hf4 k4 => ?_⟩
        obtain ⟨k, hk⟩ : ∃ k : Nat, d = (k : Int) := ⟨d.toNat, by omega⟩
        subst hk
        have klt : k < ts.length := by omega
        have nLF : F' ≠ L := LF.symm
        have hL4 := k4 _ _ Ll g3.hL
        have hF4 := k4 _ _ Fl g3.hF
        refine ⟨L, ts, k, k, ts[k], rfl, rfl, hL4, by omega, by omega, ?_, List.getElem?_eq_getElem klt, F', fs, ts[k], rfl, rfl, by rw [upd_ne nLF]; exact hF4, small1000 (by omega), ?_⟩
        · unfold seqIndex?
          have : ¬ ((k : Int) < 0) := by omega
          simp only [this, if_false]
          rw [if_pos (by simp; omega)]
          simp
        · have el : (ts.eraseIdx k).length = ts.length - 1 := List.length_eraseIdx_of_lt klt
          refine ⟨⟨_, _, _, rfl⟩, ts.eraseIdx k, fs ++ [ts[k]], ⟨?_, fun b o n e => ?_, ?_, upd_same, fun t ht => ?_⟩, el, by rw [List.length_append, el]; show ts.length - 1 + (fs.length + 1) ≤ 40; omega⟩
          · exact (hf4.keep (m := L) Keep.put Ll.symm).keep (m := F') Keep.put Fl.symm
          · rw [upd_ne (ne_of_none e nF), upd_ne (ne_of_none e hL)]
            exact k4 b o n (g3.keep b o n e)
          · rw [upd_ne LF]
            exact upd_same
          · have mem : t ∈ ts ++ fs := by
              rcases List.mem_append.mp ht with h | h
              · exact List.mem_append_left _ (List.mem_of_mem_eraseIdx h)
              · rcases List.mem_append.mp h with h | h
                · exact List.mem_append_right _ h
                · exact List.mem_append_left _ (by rw [List.mem_singleton.mp h]; exact List.getElem_mem klt)
            refine (g3.all t mem).same (del3_same fun b o n1 n2 n3 e => ?_)
            rw [upd_ne n3, upd_ne n2]
            exact k4 b o n1 e
end
end LK

/-! a text == an object with an own __eq__: the object is asked -/
namespace LR
open PySem PySem.SeqAt
open AutoSeq1 (wpAny_loadPart')
open MeetsSeq MeetsSeq2 MeetsSeq3 SeqRoads2
theorem str_declines_obj (z : Str) (t : Tok) (b : Addr) (c : Value) (dd : Option Addr) (sl : Array (Option Value)) :
    Meets (Builtin.«str.__eq__» ⟨[.str z t, .ref b], []⟩) (fun _ R s => s.heap.get? b = some { cls := c, dict := dd, data := .plain, slots := sl } ∧ R (.ok (.ret .notImplemented)) s) :=
  .of_wp fun prog w A R s h => by obtain ⟨hp, g, d, tk, os⟩ := s; obtain ⟨hl, h⟩ := h; wp_walk using wpAny_loadPart' hl, wpAny_load hl; exact ⟨_, rfl, h⟩
section
variable {prog : Program} {w : World} {A : Around} {E : Value → Shared → Prop} {s : Shared} {K : PySem.W.Frag} {b C f : Addr} {ox : Obj} {od : Option Obj} {z : Str} {tk : Tok}
theorem rc_str_own {Q : Value → Shared → Prop} (hu : A.units < cLine) (X : K.In s.heap) (I : PySem.W.InstAt s.heap b ox C od) (hd : ox.data = .plain) (ns : PySem.W.kitOne K (.ref C) (.type "str") = some false)
    (hs : PySem.W.findIn K (.ref C) "__eq__" = some (some (.ref f))) (hf : PySem.W.isFn K (.ref f) = true)
    (h : wpAny (model prog w) A (call (.ref f) [.ref b, .str z tk]) (fun v s' => ∃ r, v = .bool r ∧ Q (.bool r) s') E s) : wpAny (model prog w) A (richCompare .Eq (.str z tk) (.ref b)) Q E s := by
  have ha : s.TypeIs (.str z tk) "str" := typeIs_str s z tk
  have hsub : PySem.W.Looks (model prog w) s.heap (isSubtype (.ref C) (.type "str")) false := by
    unfold PySem.W.kitOne at ns
    rw [if_neg (show ¬ (Value.ref C == Value.type "str") = true from Bool.false_ne_true)] at ns
    exact (PySem.W.kit_cls X ns).2.2
  obtain ⟨cls, dd, data, sl⟩ := ox
  simp only at hd
  subst hd
  rcases hi : cmpInfo CmpOp.Eq with ⟨sym, f1, r1⟩
  have e1 : f1 = "__eq__" := by cases hi; rfl
  have e2 : r1 = "__eq__" := by cases hi; rfl
  subst e1 e2
  simp only [richCompare, hi, ha.oneThing_none]
  try with_reducible refine wpAny_holding ?_
  refine wpAny_bind (wpAny_cRoomFor_or (.inr hu) ?_)
  refine wpAny_bind (wpAny_typeOf ha (wpAny_bind (I.type.here ?_)))
  have hne : (Value.type "str" != Value.ref C) = true := rfl
  simp only [hne, if_true]
  refine wpAny_bind (hsub.here ?_)
  simp only [Bool.false_eq_true, if_false, Bool.not_false, if_true]
  refine wpAny_bind (m := tryCompare (.str z tk) _ (.ref b)) (wpAny_tryCompare_declines ha F.slot_str_eq (call_meets F.slot_str_eq ha F.entry_str_eq (F.args_str_eq_2 _ _) (str_declines_obj z tk b cls dd sl) ⟨I.at_, rfl, ?_⟩))
  have one : wpAny (model prog w) A (tryCompare (.ref b) "__eq__" (.str z tk)) (fun r s' => ∃ v, r = some v ∧ Q v s') E s := by
    unfold tryCompare
    refine wpAny_bind (PySem.W.ifBound_K X I hs hf (wpAny_mono h (fun v s' hv => ?_) fun _ _ e => e))
    obtain ⟨r, rfl, q⟩ := hv
    exact wpAny_pure ⟨_, rfl, q⟩
  refine wpAny_bind (wpAny_mono one (fun r s' hv => ?_) fun _ _ e => e)
  obtain ⟨v, rfl, q⟩ := hv
  exact wpAny_pure q
end
end LR
namespace LR
open PySem PySem.Spec PyProof.Rows L2
/-- not an instance of its own class: the own __eq__ says no -/
def spEqNo (K : PySem.W.Frag) (C : Addr) : Sp := fun vs H Q _ => ∃ a dx fs y t, vs = [.ref a, y] ∧ H a = some (.ins C dx fs) ∧ TyX K H y t ∧ PySem.W.kitOne K t (.ref C) = some false ∧ Q (.bl false) H
/-- a text beside an object of class C -/
def DStrOwn (C : Addr) : EqvB := fun x y r H => ∃ z b dx fs, x = .str z ∧ y = .ref b ∧ H b = some (.ins C dx fs) ∧ r = false
section
variable {X : Cx} {n : Nat} {C f : Addr} {fd : FuncData} {ps : List Str}
theorem eqGB_strOwn (F : FnOk X.prog X.w X.K X.mg X.base CX0 n f fd ps (spEqNo X.K C)) (hs : PySem.W.findIn X.K (.ref C) "__eq__" = some (some (.ref f))) (hf : PySem.W.isFn X.K (.ref f) = true) (hb : Binds X.K fd ps [])
    (ns : PySem.W.kitOne X.K (.ref C) (.type "str") = some false) (kS : PySem.W.kitOne X.K (.type "str") (.ref C) = some false) : EqGB X n (DStrOwn C) := by
  intro A pins s σ H x y r u v sb I rx ry d
  obtain ⟨z, b, dx, fs, rfl, rfl, hb', rfl⟩ := d
  obtain ⟨t, rfl⟩ := rx
  cases ry
  obtain ⟨mA, J, _⟩ := ins_get I.hok hb'
  obtain ⟨od, J, _⟩ := J.look
  unfold eqBool
  refine wpAny_holding ?_
  refine wpAny_ite_split (fun hab => absurd (eq_of_beq hab) nofun) (fun _ => ?_)
  refine wpAny_bind (rc_str_own sb.room.units0 I.kIn J rfl ns hs hf ?_)
  have hsp : spEqNo X.K C [.ref b, .str z] H (fun v H' => v = .bl false ∧ Ext H H') E0 := ⟨b, dx, fs, .str z, _, rfl, hb', .base (.str z), kS, rfl, Ext.rfl'⟩
  refine wpAny_mono (call_run (A := A) sb F hb pass0 I (.cons (show RelV (V.ref b) (Value.ref b) from rfl) (.cons (show RelV (V.str z) (Value.str z t) from ⟨t, rfl⟩) .nil)) hsp) (fun v s' q => ?_) fun _ _ z => z
  obtain ⟨y, H', I', ry, rfl, e⟩ := q
  cases ry
  exact ⟨false, rfl, wpAny_truthy_bool ⟨rfl, H', I', e⟩⟩
/-- a text beside a list or a tuple -/
def DStrSeq (K : PySem.W.Frag) : EqvB := fun x y r H => ∃ z b xs, x = .str z ∧ y = .ref b ∧ (SqL K H b xs ∨ SqT K H b xs) ∧ r = false
theorem eqGB_strSeq : EqGB X 0 (DStrSeq X.K) := by
  intro A pins s σ H x y r u v sb I rx ry d
  obtain ⟨z, b, xs, rfl, rfl, hq, rfl⟩ := d
  obtain ⟨t, rfl⟩ := rx
  cases ry
  rcases hq with hq | hq
  · obtain ⟨its, r, pl, hz⟩ := I.list hq
    exact SeqAt.EqAt.str_list (A := A) (s := s) z t pl.isList sb.room.units0 X.prog X.w X.xe _ ⟨rfl, H, I, Ext.rfl'⟩
  · obtain ⟨its, r, pl, hz⟩ := I.tuple hq
    exact SeqAt.EqAt.str_tuple (A := A) (s := s) z t pl sb.room.units0 X.prog X.w X.xe _ ⟨rfl, H, I, Ext.rfl'⟩
theorem mon_strOwn {C : Addr} : MonB (DStrOwn C) := fun x y r H H' e d => by
  obtain ⟨z, b, dx, fs, hx, hy, hb, hr⟩ := d
  exact ⟨z, b, dx, fs, hx, hy, e _ _ hb, hr⟩
theorem mon_strSeq {K : PySem.W.Frag} : MonB (DStrSeq K) := fun x y r H H' e d => by
  obtain ⟨z, b, xs, hx, hy, hq, hr⟩ := d
  exact ⟨z, b, xs, hx, hy, hq.elim (fun h => .inl (h.ext e)) (fun h => .inr (h.ext e)), hr⟩
theorem MonB.or {D D' : EqvB} (h : MonB D) (h' : MonB D') : MonB (fun x y b H => D x y b H ∨ D' x y b H) := fun x y b H H' e d => d.elim (fun d => .inl (h x y b H H' e d)) fun d => .inr (h' x y b H H' e d)
end
end LR

namespace LK
open PySem PySem.Spec PyProof.Rows L2 LR
/-! ### the law -/
/-- that a text is none of the classes, and what else is none of the steps -/
structure Kno (K : PySem.W.Frag) (k : Kinds) : Prop where
  sS : PySem.W.kitOne K (.type "str") (.ref k.cS) = some false
  sE : PySem.W.kitOne K (.type "str") (.ref k.cE) = some false
  sT : PySem.W.kitOne K (.type "str") (.ref k.cT) = some false
  sC : PySem.W.kitOne K (.type "str") (.ref k.cC) = some false
  n : PySem.W.kitOne K (.type "NoneType") (.ref k.cS) = some false
  b : PySem.W.kitOne K (.type "bool") (.ref k.cS) = some false
  i : PySem.W.kitOne K (.type "int") (.ref k.cS) = some false
  l : PySem.W.kitOne K (.type "list") (.ref k.cS) = some false
  t : PySem.W.kitOne K (.type "tuple") (.ref k.cS) = some false
  oE : PySem.W.kitOne K (.ref k.cE) (.ref k.cS) = some false
  oT : PySem.W.kitOne K (.ref k.cT) (.ref k.cS) = some false
  oC : PySem.W.kitOne K (.ref k.cC) (.ref k.cS) = some false
theorem el_of_leaf {K : PySem.W.Frag} {mg : Str → Option Value} {k : Kinds} {eS eE eT eC : Addr} {dS dE dT dC : FuncData} {H : Hp} {v : V} (k' : Kin K mg k eS eE eT eC dS dE dT dC) (N : Kno K k) (h : Leaf K k H v) : ∃ o, El K k.cS H v o := by
  cases h with
  | non => exact ⟨none, _, .base .non, N.n⟩
  | bl b => exact ⟨none, _, .base (.bl b), N.b⟩
  | int i => exact ⟨none, _, .base (.int i), N.i⟩
  | str z h => exact ⟨none, _, .base (.str z), N.sS⟩
  | @step a z y h hz hy => exact ⟨some (z, y), a, rfl, h, hz, hy⟩
  | expr h =>
    obtain ⟨dx, z, p, x1, x2, x3, x4, e, hp⟩ := h
    exact ⟨none, _, k'.E.ty e, N.oE⟩
  | trait h =>
    obtain ⟨dx, z, p, b, e, hp⟩ := h
    exact ⟨none, _, k'.T.ty e, N.oT⟩
  | chain h =>
    obtain ⟨dx, p, b, e, hp⟩ := h
    exact ⟨none, _, k'.C.ty e, N.oC⟩
theorem el_of_alike {K : PySem.W.Frag} {mg : Str → Option Value} {k : Kinds} {eS eE eT eC : Addr} {dS dE dT dC : FuncData} {H : Hp} {x y : V} (k' : Kin K mg k eS eE eT eC dS dE dT dC) (N : Kno K k) : ∀ {n : Nat}, Alike K k n H x y → ∃ o, El K k.cS H x o
  | 0, h => h.elim
  | n + 1, h => by
    rcases h with ⟨h, _⟩ | ⟨a, b, xs, ys, rfl, _, _, _, hq, _⟩
    · exact el_of_leaf k' N h
    · rcases hq with ⟨h, _⟩ | ⟨h, _⟩
      · exact ⟨none, _, .base (.lst h), N.l⟩
      · exact ⟨none, _, .base (.tup h), N.t⟩
/-- a written text beside a drawn value -/
def DWord (K : PySem.W.Frag) (k : Kinds) : EqvB := fun x y b H => DFlatB x y b H ∨ (DStrOwn k.cS x y b H ∨ (DStrOwn k.cE x y b H ∨ (DStrOwn k.cT x y b H ∨ (DStrOwn k.cC x y b H ∨ DStrSeq K x y b H))))
theorem mon_word {K : PySem.W.Frag} {k : Kinds} : MonB (DWord K k) := MonB.or mon_flatB (MonB.or mon_strOwn (MonB.or mon_strOwn (MonB.or mon_strOwn (MonB.or mon_strOwn mon_strSeq))))
theorem word_leaf {K : PySem.W.Frag} {k : Kinds} {H : Hp} {v : V} {z : Str} (h : Leaf K k H v) : ∃ b, DWord K k (.str z) v b H := by
  cases h with
  | non => exact ⟨_, .inl ⟨rfl, rfl, rfl⟩⟩
  | bl b => exact ⟨_, .inl ⟨rfl, rfl, rfl⟩⟩
  | int i => exact ⟨_, .inl ⟨rfl, rfl, rfl⟩⟩
  | str z h => exact ⟨_, .inl ⟨rfl, rfl, rfl⟩⟩
  | @step a z y h hz hy =>
    obtain ⟨dx, e⟩ := h
    exact ⟨_, .inr (.inl ⟨_, a, dx, _, rfl, rfl, e, rfl⟩)⟩
  | @expr a h =>
    obtain ⟨dx, z, p, x1, x2, x3, x4, e, hp⟩ := h
    exact ⟨_, .inr (.inr (.inl ⟨_, a, dx, _, rfl, rfl, e, rfl⟩))⟩
  | @trait a h =>
    obtain ⟨dx, z, p, b, e, hp⟩ := h
    exact ⟨_, .inr (.inr (.inr (.inl ⟨_, a, dx, _, rfl, rfl, e, rfl⟩)))⟩
  | @chain a h =>
    obtain ⟨dx, p, b, e, hp⟩ := h
    exact ⟨_, .inr (.inr (.inr (.inr (.inl ⟨_, a, dx, _, rfl, rfl, e, rfl⟩))))⟩
theorem word_alike {K : PySem.W.Frag} {k : Kinds} {H : Hp} {x y : V} {z : Str} : ∀ {n : Nat}, Alike K k n H x y → ∃ b, DWord K k (.str z) x b H
  | 0, h => h.elim
  | n + 1, h => by
    rcases h with ⟨h, _⟩ | ⟨a, b, xs, ys, rfl, _, _, _, hq, _⟩
    · exact word_leaf h
    · rcases hq with ⟨h, _⟩ | ⟨h, _⟩
      · exact ⟨_, .inr (.inr (.inr (.inr (.inr ⟨_, a, xs, rfl, rfl, .inl (SqL.of h), rfl⟩))))⟩
      · exact ⟨_, .inr (.inr (.inr (.inr (.inr ⟨_, a, xs, rfl, rfl, .inr (SqT.of h), rfl⟩))))⟩
theorem ite_te {c : Prop} [Decidable c] {t1 t2 : TE} {σ : L2.St} {H : Hp} {G : VK} (P : V → Hp → Prop) (h1 : (∀ y H', P y H' → G y H') → c → t1 σ H G) (h2 : (∀ y H', P y H' → G y H') → ¬ c → t2 σ H G) (key : ∀ y H', P y H' → G y H') : if c then t1 σ H G else t2 σ H G := by
  by_cases h : c
  · rw [if_pos h]; exact h1 key h
  · rw [if_neg h]; exact h2 key h
theorem ite_ts {c : Prop} [Decidable c] {s1 : TS} {D : Ends} {σ : L2.St} {H : Hp} (P : L2.St → Hp → Prop) (h1 : (∀ σ' H', P σ' H' → D.nx σ' H') → c → s1 D σ H) (h2 : P σ H) (key : ∀ σ' H', P σ' H' → D.nx σ' H') : if c then s1 D σ H else tNext D σ H := by
  by_cases h : c
  · rw [if_pos h]; exact h1 key h
  · rw [if_neg h]; exact key _ _ h2
theorem nw_del {l : Addr} {H H' : Hp} (hf : Feed H l) : Same (nw H H') (L2.del H' l) := fun b o e => by
  obtain ⟨e1, e2⟩ := nw_some e
  have hb : b ≠ l := fun z => by
    obtain ⟨_, _, q, _⟩ := hf
    rw [z, q] at e1
    cases e1
  rw [del_ne hb]
  exact e2
def words13 : List Str := ["up", "down", "settled", "mean", "alike", "below", "back", "Up", "ups", "", "above", "step", "below "]
def spLaw (K : PySem.W.Frag) : Sp := fun vs H Q _ => ∃ (a : Addr) (ns : List Int), vs = [.ref a] ∧ SqL K H a (ns.map V.int) ∧ ns.length ≤ 63 ∧ ∀ H', Q (.bl true) H'
theorem cut3 (xs : List V) : (cutV xs none (some 3)).length ≤ 3 := by
  unfold cutV HT.sIx
  rw [List.length_take]
  simp
  omega
section
variable {P : Program} {w : World} {K : PySem.W.Frag} {mg : Str → Option Value} {base : Heap}
theorem ok_stepNo {C f : Addr} {fd : FuncData} (S : Std mg) (c : OwnCl K mg "Step" C) (F : Fun K "__eq__" "Step.__eq__" sStepEq f fd) : FnOk P w K mg base CX0 2 f fd ["self", "other"] (spEqNo K C) := by
  refine F.ok scStepEq (fun vs H Q E h => ?_) (fun cdv A outer s H vs Q E hr h => ?_)
  · obtain ⟨a, dx, fs, y, t, rfl, _⟩ := h
    rfl
  · obtain ⟨a, dx, fs, y, t, rfl, ha, ty, kt, q⟩ := h
    refine ⟨_, pss_one (ps_ret (pe_and (pe_callB call_isi (by rfl) S.isi (by decide +kernel) (pa_cons (pv 1) (pa_cons (pe_glob (v := .ref C) rfl c.g rfl) pa_nil)))
      (pe_and (pe_cmpR op_eq (pe_fld (pv 0) rfl) (pe_fld (pv 1) rfl) (nomark _)) (pe_one (pe_cmpR op_eq (pe_fld (pv 0) rfl) (pe_fld (pv 1) rfl) (nomark _)))))), ?_⟩
    exact ⟨_, rfl, _, _, _, _, false, rfl, .own C, ty, kt, false, rfl, iteF q⟩
theorem ok_exprNo {C f : Addr} {fd : FuncData} (S : Std mg) (c : OwnCl K mg "Expr" C) (F : Fun K "__eq__" "Expr.__eq__" sExprEq f fd) : FnOk P w K mg base CX0 2 f fd ["self", "other"] (spEqNo K C) := by
  refine F.ok scExprEq (fun vs H Q E h => ?_) (fun cdv A outer s H vs Q E hr h => ?_)
  · obtain ⟨a, dx, fs, y, t, rfl, _⟩ := h
    rfl
  · obtain ⟨a, dx, fs, y, t, rfl, ha, ty, kt, q⟩ := h
    refine ⟨_, pss_one (ps_ret (pe_and (pe_callB call_isi (by rfl) S.isi (by decide +kernel) (pa_cons (pv 1) (pa_cons (pe_glob (v := .ref C) rfl c.g rfl) pa_nil)))
      (pe_and (pe_cmpR op_eq (pe_fld (pv 0) rfl) (pe_fld (pv 1) rfl) (nomark _)) (pe_and (pe_cmpR op_eq (pe_fld (pv 0) rfl) (pe_fld (pv 1) rfl) (nomark _)) (pe_and (pe_cmpR op_eq (pe_fld (pv 0) rfl) (pe_fld (pv 1) rfl) (nomark _))
        (pe_one (pe_cmpR (op_eqG (rcG_tup mon_same eqG_same) hr) (pe_fld (pv 0) rfl) (pe_fld (pv 1) rfl) (nomark _)))))))), ?_⟩
    exact ⟨_, rfl, _, _, _, _, false, rfl, .own C, ty, kt, false, rfl, iteF q⟩
theorem ok_traitNo {C f : Addr} {fd : FuncData} (S : Std mg) (c : OwnCl K mg "Trait" C) (F : Fun K "__eq__" "Trait.__eq__" sTraitEq f fd) : FnOk P w K mg base CX0 2 f fd ["self", "other"] (spEqNo K C) := by
  refine F.ok scTraitEq (fun vs H Q E h => ?_) (fun cdv A outer s H vs Q E hr h => ?_)
  · obtain ⟨a, dx, fs, y, t, rfl, _⟩ := h
    rfl
  · obtain ⟨a, dx, fs, y, t, rfl, ha, ty, kt, q⟩ := h
    refine ⟨_, pss_one (ps_ret (pe_and (pe_callB call_isi (by rfl) S.isi (by decide +kernel) (pa_cons (pv 1) (pa_cons (pe_glob (v := .ref C) rfl c.g rfl) pa_nil)))
      (pe_and (pe_cmpR op_eq (pe_fld (pv 0) rfl) (pe_fld (pv 1) rfl) (nomark _)) (pe_one (pe_cmpR (op_eqG (rcG_tup mon_same eqG_same) hr) (pe_fld (pv 0) rfl) (pe_fld (pv 1) rfl) (nomark _)))))), ?_⟩
    exact ⟨_, rfl, _, _, _, _, false, rfl, .own C, ty, kt, false, rfl, iteF q⟩
theorem ok_chainNo {C f : Addr} {fd : FuncData} (S : Std mg) (c : OwnCl K mg "Chain" C) (F : Fun K "__eq__" "Chain.__eq__" sChainEq f fd) : FnOk P w K mg base CX0 2 f fd ["self", "other"] (spEqNo K C) := by
  refine F.ok scChainEq (fun vs H Q E h => ?_) (fun cdv A outer s H vs Q E hr h => ?_)
  · obtain ⟨a, dx, fs, y, t, rfl, _⟩ := h
    rfl
  · obtain ⟨a, dx, fs, y, t, rfl, ha, ty, kt, q⟩ := h
    refine ⟨_, pss_one (ps_ret (pe_and (pe_callB call_isi (by rfl) S.isi (by decide +kernel) (pa_cons (pv 1) (pa_cons (pe_glob (v := .ref C) rfl c.g rfl) pa_nil)))
      (pe_one (pe_cmpR (op_eqG (rcG_tup mon_same eqG_same) hr) (pe_fld (pv 0) rfl) (pe_fld (pv 1) rfl) (nomark _))))), ?_⟩
    exact ⟨_, rfl, _, _, _, _, false, rfl, .own C, ty, kt, false, rfl, iteF q⟩
end
theorem eqGB_word {X : Cx} {k : Kinds} {eS eE eT eC : Addr} {dS dE dT dC : FuncData} (S : Std X.mg) (k' : Kin X.K X.mg k eS eE eT eC dS dE dT dC) (N : Kno X.K k) : EqGB X 2 (DWord X.K k) :=
  EqGB.or (eqGB_flat.mono (by decide)) (EqGB.or (eqGB_strOwn (ok_stepNo S k'.S k'.qS.F) k'.qS.at_ k'.qS.fn k'.qS.b k'.S.ns N.sS) (EqGB.or (eqGB_strOwn (ok_exprNo S k'.E k'.qE.F) k'.qE.at_ k'.qE.fn k'.qE.b k'.E.ns N.sE)
    (EqGB.or (eqGB_strOwn (ok_traitNo S k'.T k'.qT.F) k'.qT.at_ k'.qT.fn k'.qT.b k'.T.ns N.sT) (EqGB.or (eqGB_strOwn (ok_chainNo S k'.C k'.qC.F) k'.qC.at_ k'.qC.fn k'.qC.b k'.C.ns N.sC) (eqGB_strSeq.mono (by decide))))))
end LK

namespace LK
open PySem PySem.Spec PyProof.Rows L2 LR
theorem seq_key {s rest : TS} {D : Ends} {σ : L2.St} {H : Hp} (P : L2.St → Hp → Prop) (h : (∀ σ' H', P σ' H' → rest D σ' H') → tSeq s rest D σ H) (key : ∀ σ' H', P σ' H' → rest D σ' H') : tSeq s rest D σ H := h key
/-- a turn's state: the word, the steps picked -/
def T1 (K : PySem.W.Frag) (k : Kinds) (a W l Sx : Addr) (i : Int) (H6 : Hp) : L2.St → Hp → Prop := fun σ H' => ∃ y v5 v7 v8 v9 v10, σ = [some (.ref a), some (.ref W), some (.int i), some (.ref l), some (.ref Sx), v5, some y, v7, v8, v9, v10] ∧ Alike K k 3 (L2.del H' l) y y ∧ Feed H' l ∧ Keep l H6 H'
def T3 (K : PySem.W.Frag) (k : Kinds) (a W l Sx : Addr) (i : Int) (H6 : Hp) : L2.St → Hp → Prop := fun σ H' => ∃ (y : V) (v5 v8 v9 v10 : Option V) (Dm : Addr) (ys : List V) (os : List (Option (Str × Str))), σ = [some (.ref a), some (.ref W), some (.int i), some (.ref l), some (.ref Sx), v5, some y, some (.ref Dm), v8, v9, v10] ∧
  Alike K k 3 (L2.del (L2.del H' l) Dm) y y ∧ Feed H' l ∧ Keep l H6 H' ∧ H6 Dm = none ∧ Dm ≠ l ∧ H' Dm = some (.lst ys) ∧ Els K k.cS (L2.del (L2.del H' l) Dm) ys os ∧ ys.length ≤ 3
theorem keep_del2 {l D : Addr} {H H' : Hp} (k : Keep l H H') : Same (L2.del (L2.del H l) D) (L2.del (L2.del H' l) D) := (Keep.same k.del).del
theorem new_del2 {l D : Addr} {H H' : Hp} (k : Keep l H H') (n : H D = none) : Same (L2.del H l) (L2.del (L2.del H' l) D) := fun b o e => by
  have e' := del_sub _ _ e
  rw [del_ne (ne_of_none e' n)]
  exact k.del b o e
theorem del2_put {l D : Addr} {H : Hp} {o : HO} : Same (L2.del (L2.del H l) D) (L2.del (L2.del (upd H D o) l) D) := fun b u e => by
  have hb : b ≠ D := fun z => by
    rw [z, del_same] at e
    cases e
  rw [del_ne hb] at e ⊢
  have hl : b ≠ l := fun z => by
    rw [z, del_same] at e
    cases e
  rw [del_ne hl] at e ⊢
  rw [upd_ne hb]
  exact e
theorem del2_sub {l D : Addr} {H : Hp} : Same (L2.del (L2.del H l) D) H := fun b o e => del_sub _ _ (del_sub _ _ e)
theorem nw_del2 {l D : Addr} {H H' : Hp} {o : HO} (hf : Feed H l) (hD : H D = some o) : Same (nw H H') (L2.del (L2.del H' l) D) := fun b u e => by
  obtain ⟨e1, e2⟩ := nw_some e
  have hb : b ≠ D := fun z => by
    rw [z, hD] at e1
    cases e1
  rw [del_ne hb]
  exact nw_del hf b u e
theorem none_back {l D : Addr} {H H' : Hp} (k : Keep l H H') (n : D ≠ l) (h : H' D = none) : H D = none := by
  cases e : H D with
  | none => rfl
  | some o =>
    rw [k _ _ n e] at h
    cases h
theorem els_set {K : PySem.W.Frag} {cS : Addr} {H : Hp} {xs : List V} {os : List (Option (Str × Str))} {j : Nat} {v : V} {o : Option (Str × Str)} (h : Els K cS H xs os) (e : El K cS H v o) : Els K cS H (xs.set j v) (os.set j o) := by
  refine ⟨by simp [h.1], fun i u o' e1 e2 => ?_⟩
  by_cases hij : j = i
  · subst hij
    have l1 := (List.getElem?_eq_some_iff.mp e1).1
    rw [List.length_set] at l1
    have l2 : j < os.length := by have := h.1; omega
    rw [List.getElem?_set_self l1] at e1
    rw [List.getElem?_set_self l2] at e2
    cases e1
    cases e2
    exact e
  · rw [List.getElem?_set_ne hij] at e1
    rw [List.getElem?_set_ne hij] at e2
    exact h.2 i u o' e1 e2
theorem trB_str {v : V} {os : List (Option (Str × Str))} (h : trB v os = none) : ∃ z, v = .str z := by
  cases v with
  | str z => exact ⟨z, rfl⟩
  | _ => cases h
theorem trB_words {v : V} {os : List (Option (Str × Str))} {m : Str} (h : trB v os = some m) : m.length ≤ 1000 := by
  have w3 : ∀ {a : Str}, some a = some m → a.length ≤ 1000 → m.length ≤ 1000 := fun e l => by injection e with e; rwa [← e]
  by_cases hs : ∃ z, v = .str z
  · obtain ⟨x, rfl⟩ := hs
    have e : trB (.str x) os = (if x ∈ words7 then (if areB (cntW x) os = true then (if wayB x os = true then none else some ("ways" : Str)) else some ("steps" : Str)) else some ("word" : Str)) := rfl
    rw [e] at h
    by_cases h1 : x ∈ words7
    · rw [if_pos h1] at h
      by_cases h2 : areB (cntW x) os = true
      · rw [if_pos h2] at h
        by_cases h3 : wayB x os = true
        · rw [if_pos h3] at h
          cases h
        · rw [if_neg h3] at h
          exact w3 h (by decide +kernel)
      · rw [if_neg h2] at h
        exact w3 h (by decide +kernel)
    · rw [if_neg h1] at h
      exact w3 h (by decide +kernel)
  · rw [trB_not fun z e => hs ⟨z, e⟩] at h
    exact w3 h (by decide +kernel)
theorem all_some : ∀ {os : List (Option (Str × Str))}, os.all Option.isSome = true → ∃ zs : List (Str × Str), os = zs.map some
  | [], _ => ⟨[], rfl⟩
  | none :: _, h => by cases h
  | some zy :: os, h => by
    rw [List.all_cons] at h
    obtain ⟨zs, e⟩ := all_some (os := os) (by simpa using h)
    exact ⟨zy :: zs, by rw [e]; rfl⟩
section
variable {P : Program} {w : World} {K : PySem.W.Frag} {mg : Str → Option Value} {base : Heap}
def nLawK : List Str := ["_law_script", "_law_words_here", "_law_k", "_law_feed_here", "_law_steps", "_law_turn", "_law_word_here", "_law_some", "_law_at", "_law_due_here", "_law_found"]
theorem scLawK : FnScope nLawK ["_law_script"] (defScope sLaw) := ⟨rfl, rfl, rfl, by decide +kernel, rfl, by decide +kernel, by decide +kernel⟩
theorem ok_law {k : Kinds} {eS eE eT eC : Addr} {dS dE dT dC' : FuncData} {iS iT f fF fD fP fA fO fG fU fT fS fR : Addr} {jS fd fdF fdD fdP fdA fdO fdG fdU fdT fdS fdR : FuncData} (S : Std mg) (k' : Kin K mg k eS eE eT eC dS dE dT dC') (N : Kno K k) (F : Fun K "law" "law" sLaw f fd)
    (MS : Mk K k.cS iS) (GS0 : FnOk P w K mg base CX0 2 iS jS ["self", "name", "ways"] (spStInit k.cS)) (bS : Binds K jS ["self", "name", "ways"] [])
    (MT : Mk K k.cT iT) (GT0 : FnR P w K mg base CX0 2 iT (fun vs H Q E => ∃ ws rest, vs = ws ++ rest ∧ ws.length = (["self", "word"] : List Str).length ∧ rest.length ≤ sizeLine ∧ ∀ p, H p = Option.none → spTrBody K k.cS k.cT (ws ++ [V.ref p]) (upd H p (.tup rest)) Q E))
    (FE : Df K mg "_law_feed" sFeed fF fdF ["_law_script", "_law_k"]) (GF : FnOk P w K mg base CX0 1 fF fdF ["_law_script", "_law_k"] (spFeed K))
    (D : Df K mg "_law_draw" sDraw fD fdD ["_law_feed_here", "_law_many"])
    (PK : Df K mg "_law_pick" sPick fP fdP ["_law_feed_here", "_law_items"]) (GP : FnOk P w K mg base CX0 2 fP fdP ["_law_feed_here", "_law_items"] (spPick K))
    (AN : Df K mg "_law_any" sAny fA fdA ["_law_feed_here", "_law_deep"]) (GA : FnOk P w K mg base CX0 9 fA fdA ["_law_feed_here", "_law_deep"] (spAny K k 3))
    (PS : Df K mg "_law_pool_steps" sPoolSteps fO fdO ["_law_feed_here", "_law_many"]) (GPS : FnOk P w K mg base CX0 5 fO fdO ["_law_feed_here", "_law_many"] (spPoolS K k.cS))
    (PT : Df K mg "_law_pool_traits" sPoolTraits fG fdG ["_law_feed_here", "_law_steps"]) (GPT : FnOk P w K mg base CX0 6 fG fdG ["_law_feed_here", "_law_steps"] (spPoolT K k.cS k.cT))
    (DU : Df K mg "_law_due" sDue fU fdU ["_law_word_here", "_law_some"]) (GU : FnOk P w K mg base CX0 4 fU fdU ["_law_word_here", "_law_some"] (spDue K k.cS))
    (TO : Df K mg "_law_told" sTold fT fdT ["_law_word_here", "_law_some"]) (GT : FnOk P w K mg base CX0 7 fT fdT ["_law_word_here", "_law_some"] (spTold K k.cS k.cT))
    (SA : Df K mg "_law_same" sSame fS fdS ["_law_found", "_law_due_here"]) (RI : Df K mg "_law_right" sRight fR fdR ["_law_trait_here", "_law_word_here", "_law_some"]) (GR : FnOk P w K mg base CX0 7 fR fdR ["_law_trait_here", "_law_word_here", "_law_some"] (spRight K k.cS k.cT)) : FnOk P w K mg base CX0 10 f fd ["_law_script"] (spLaw K) := by
  have GD : FnOk P w K mg base CX0 1 fD fdD ["_law_feed_here", "_law_many"] spDraw := ok_draw S D.F
  have GS : FnOk P w K mg base CX0 5 fS fdS ["_law_found", "_law_due_here"] (spSame K k 2) := ok_same S k' SA 2
  refine F.ok scLawK (fun vs H Q E h => ?_) (fun cdv A outer s H vs Q E hr h => ?_)
  · obtain ⟨a, ns, rfl, _⟩ := h
    rfl
  · obtain ⟨a, ns, rfl, hS, hlen, q⟩ := h
    have hr1 : Room 1 _ := hr.mono (by decide)
    have hr2 : Room 2 _ := hr.mono (by decide)
    have hr3 : Room 3 _ := hr.mono (by decide)
    have hr4 : Room 4 _ := hr.mono (by decide)
    have hr5 : Room 5 _ := hr.mono (by decide)
    have hr6 : Room 6 _ := hr.mono (by decide)
    have hr7 : Room 7 _ := hr.mono (by decide)
    refine ⟨_, pss_cons (ps_set (i := 1) scLawK.nd rfl (Or.inl rfl) (pe_lst (pa_cons pe_str (pa_cons pe_str (pa_cons pe_str (pa_cons pe_str (pa_cons pe_str (pa_cons pe_str (pa_cons pe_str (pa_cons pe_str (pa_cons pe_str (pa_cons pe_str (pa_cons pe_str (pa_cons pe_str (pa_cons pe_str pa_nil)))))))))))))))
      (pss_cons (ps_for PassesOwn.never rfl (pi_range1 (by rfl) S.range (pa_cons (pe_op op_add pe_int (pe_callB call_len_seq (by rfl) S.len PySem.boot_len (pa_cons (pe_slice sl_list (pv 0) po_none (po_some pe_int)) pa_nil))) pa_nil)) (pg_name (i := 2) scLawK.nd rfl (Or.inl rfl))
        (pss_cons (ps_set (i := 3) scLawK.nd rfl (Or.inr rfl) (pe_call GF hr1 rfl FE.g FE.F.kp FE.b .nil pass0 (pa_cons (pv 0) (pa_cons (pv 2) pa_nil))))
        (pss_cons (ps_set (i := 4) scLawK.nd rfl (Or.inr rfl) (pe_call GPS hr5 rfl PS.g PS.F.kp PS.b .nil pass0 (pa_cons (pv 3) (pa_cons pe_int pa_nil))))
        (pss_one (ps_for PassesOwn.never rfl (pi_range1 (by rfl) S.range (pa_cons pe_int pa_nil)) (pg_name (i := 5) scLawK.nd rfl (Or.inl rfl))
          (pss_cons (ps_set (i := 6) scLawK.nd rfl (Or.inl rfl) (pe_ifExp (pt_cmpR op_eq (pe_call GD hr1 rfl D.g D.F.kp D.b .nil pass0 (pa_cons (pv 3) (pa_cons pe_int pa_nil))) pe_int (nomark _))
              (pe_call GA hr rfl AN.g AN.F.kp AN.b .nil pass0 (pa_cons (pv 3) (pa_cons pe_int pa_nil))) (pe_call GP hr2 rfl PK.g PK.F.kp PK.b .nil pass0 (pa_cons (pv 3) (pa_cons (pv 1) pa_nil)))))
          (pss_cons (ps_if (pt_cmpR op_eq (pe_call GD hr1 rfl D.g D.F.kp D.b .nil pass0 (pa_cons (pv 3) (pa_cons pe_int pa_nil))) pe_int (nomark _)) (pss_one (ps_set (i := 6) scLawK.nd rfl (Or.inl rfl) (pe_ix ix_list (pv 1) (pe_call GD hr1 rfl D.g D.F.kp D.b .nil pass0 (pa_cons (pv 3) (pa_cons pe_int pa_nil))) (fun _ _ => rfl)))) pss_nil)
          (pss_cons (ps_setLc (i := 7) (own := [("_law_at", 8)]) (g := gName 8) (tt := tYes) rfl scLawK.nd rfl rfl (sw_true rfl rfl rfl (by decide +kernel)) (pi_range1 (by rfl) S.range (pa_cons (pe_call GD hr1 rfl D.g D.F.kp D.b .nil pass0 (pa_cons (pv 3) (pa_cons pe_int pa_nil))) pa_nil))
              (blkOk_by (N := nLawK) (sc := defScope sLaw) (by decide +kernel)) (fun _ _ _ _ _ => pg_name (i := 8) scLawK.nd rfl (Or.inl rfl)) (fun _ _ _ _ _ => pts_nil)
              (fun _ _ _ _ _ => pe_call GP hr2 rfl PK.g PK.F.kp PK.b .nil pass0 (pa_cons (pv 3) (pa_cons (pv 4) pa_nil))))
          (pss_cons (ps_if (PW.pt (pw_and (pt_cmpR op_eq (pe_call GD hr1 rfl D.g D.F.kp D.b .nil pass0 (pa_cons (pv 3) (pa_cons pe_int pa_nil))) pe_int (nomark _)) (pw_and1 (pt_cmpR (op_inGB mon_word (eqGB_word (X := (cxOf CX0 P w K mg base nLawK "law" (defScope sLaw) f cdv A outer s H E).nox) S k' N) hr3) (pv 6) (pv 1) (by rfl)))))
              (pss_cons (ps_set (i := 7) scLawK.nd rfl (Or.inl rfl) (pe_fld (pe_call GP hr2 rfl PK.g PK.F.kp PK.b .nil pass0 (pa_cons (pv 3) (pa_cons (pe_op op_cat (pe_call GPT hr6 rfl PT.g PT.F.kp PT.b .nil pass0 (pa_cons (pv 3) (pa_cons (pv 4) pa_nil)))
                  (pe_lst (pa_cons (StX.pe_makeR MT GT0 hr3 rfl k'.T.g pass0 (pa_cons pe_str (pa_cons (pe_make MS GS0 hr3 rfl k'.S.g bS .nil pass0 (pa_cons pe_str (pa_cons pe_str pa_nil))) pa_nil))) pa_nil))) pa_nil))) rfl))
              (pss_one (ps_set (i := 7) scLawK.nd rfl (Or.inl rfl) (pe_callTy call_list_of (by rfl) S.list (by decide +kernel) (pa_cons (pv 7) pa_nil))))) pss_nil)
          (pss_cons (ps_if (PW.pt (pw_and (pt_cmpR op_eq (pe_call GD hr1 rfl D.g D.F.kp D.b .nil pass0 (pa_cons (pv 3) (pa_cons pe_int pa_nil))) pe_int (nomark _)) (pw_and1 (pt_cmpR (op_neEnd hr1.units0) (pv 7) (pe_lst pa_nil) (nomark _)))))
              (pss_one (ps_asg (pe_call GA hr rfl AN.g AN.F.kp AN.b .nil pass0 (pa_cons (pv 3) (pa_cons pe_int pa_nil))) (pg_sub (pv 7) (pe_call GD hr1 rfl D.g D.F.kp D.b .nil pass0 (pa_cons (pv 3) (pa_cons (pe_callB call_len_seq (by rfl) S.len PySem.boot_len (pa_cons (pv 7) pa_nil)) pa_nil))) set_list))) pss_nil)
          (pss_cons (ps_par (i := 9) (j := 10) rfl scLawK.nd rfl rfl (by decide) rfl rfl (pa_cons (pe_call GU hr4 rfl DU.g DU.F.kp DU.b .nil pass0 (pa_cons (pv 6) (pa_cons (pv 7) pa_nil))) (pa_cons (pe_call GT hr7 rfl TO.g TO.F.kp TO.b .nil pass0 (pa_cons (pv 6) (pa_cons (pv 7) pa_nil))) pa_nil)) rfl)
          (pss_cons (ps_if (PW.pt (pw_and (pt_cmpR op_notN (pv 9) pe_non (nomark _)) (pw_and1 (pt_not (pt_val (pe_call GS hr5 rfl SA.g SA.F.kp SA.b .nil pass0 (pa_cons (pv 10) (pa_cons (pe_tup (pa_cons pe_str (pa_cons (pv 9) pa_nil))) pa_nil)))))))) (pss_one (ps_ret pe_bl)) pss_nil)
          (pss_one (ps_if (PW.pt (pw_and (pt_cmpR op_isN (pv 9) pe_non (nomark _)) (pw_and1 (pt_not (pt_val (pe_call GR hr7 rfl RI.g RI.F.kp RI.b .nil pass0 (pa_cons (pv 10) (pa_cons (pv 6) (pa_cons (pv 7) pa_nil))))))))) (pss_one (ps_ret pe_bl)) pss_nil))))))))))))))
      (pss_one (ps_ret pe_bl))), ?_⟩
    refine ⟨by show 13 ≤ sizeLine; decide, fun W hW => ?_⟩
    rw [show (HO.lst [V.str "up", V.str "down", V.str "settled", V.str "mean", V.str "alike", V.str "below", V.str "back", V.str "Up", V.str "ups", V.str "", V.str "above", V.str "step", V.str "below "]) = .lst (words13.map V.str) from rfl]
    have sW := same_new (o := .lst (words13.map V.str)) hW
    have wW := upd_same (H := H) (a := W) (o := .lst (words13.map V.str))
    generalize upd H W (.lst (words13.map V.str)) = H1 at sW wW ⊢
    refine ⟨_, rfl, _, rfl, a, _, rfl, sW.seq hS, fun c hc => ⟨c, _, rfl, .inl (SqL.of upd_same), ?_⟩⟩
    have hcut := cut3 (ns.map V.int)
    generalize (cutV (ns.map V.int) none (some 3)) = cut at hcut ⊢
    have s3 := same_new (o := .lst cut) hc
    have w3 := s3 _ _ wW
    have s4 : Same H _ := sW.trans s3
    generalize upd H1 c (.lst cut) = H3 at s4 w3 ⊢
    refine ⟨_, _, rfl, rfl, 1 + (cut.length : Int), rfl, by omega, by omega, for_range (lo := 0) (n := (1 + (cut.length : Int)).toNat) (fun i σ H' => (∃ v2 v3 v4 v5 v6 v7 v8 v9 v10, σ = [some (.ref a), some (.ref W), v2, v3, v4, v5, v6, v7, v8, v9, v10]) ∧ Same H3 H') ⟨⟨_, _, _, _, _, _, _, _, _, rfl⟩, fun _ _ e => e⟩ ?_ ?_⟩
    · rintro i σ H4 hi ⟨⟨v2, v3, v4, v5, v6, v7, v8, v9, v10, rfl⟩, s34⟩
      refine ⟨_, rfl, _, rfl, a, ns, i, by show [V.ref a, V.int (0 + (i : Int))] = _; rw [Int.zero_add], (s4.trans s34).seq hS, fun l H5 hl hf5 s5 => ?_⟩
      have w5 := s5 _ _ (s34 _ _ w3)
      have Wl : W ≠ l := ne_of_none (s34 _ _ w3) hl
      have hlH : ∀ {b o}, H3 b = some o → b ≠ l := fun {b o} e => ne_of_none (s34 _ _ e) hl
      refine ⟨_, rfl, l, 3, rfl, by decide, hf5, fun Sx xs zs H6 el lx hSx Sl hS6 hf6 k6 => ?_⟩
      have w6 := k6 _ _ Wl w5
      have k36 : ∀ b o, H3 b = some o → H6 b = some o := fun b o e => k6 b o (hlH e) (s5 _ _ (s34 _ _ e))
      refine ⟨6, rfl, by decide, by decide, for_range (lo := 0) (n := 6) (fun j σ H' => (∃ v5 v6 v7 v8 v9 v10, σ = [some (.ref a), some (.ref W), some (.int (0 + (i : Int))), some (.ref l), some (.ref Sx), v5, v6, v7, v8, v9, v10]) ∧ Feed H' l ∧ Keep l H6 H') ⟨⟨_, _, _, _, _, _, rfl⟩, hf6, Keep.refl⟩ ?_ ?_⟩
      · rintro j σ H7 hj ⟨⟨v5, v6, v7, v8, v9, v10, rfl⟩, hf7, k7⟩
        -- the word
        refine seq_key (T1 K k a W l Sx (0 + (i : Int)) H6) (fun key => ?_) ?_
        · refine ⟨_, rfl, l, 8, rfl, hf7, by decide, by decide, fun d Ha d0 d1 hfa ka => ⟨rfl, _, rfl, ite2 (fun _ => ?_) (fun _ => ?_)⟩⟩
          · refine ⟨_, rfl, l, 2, rfl, by decide, by decide, hfa, fun v Hb av hfb kb => key _ _ ⟨_, _, _, _, _, _, rfl, av.same (nw_del hfa), hfb, (k7.trans ka).trans kb⟩⟩
          · refine ⟨_, rfl, _, rfl, l, .ref W, (fun v => ∃ z : Str, v = .str z ∧ z.length ≤ 1000), rfl, hfa, .inr ⟨W, _, rfl, Wl, SqL.of ((k7.trans ka) _ _ Wl w6), by decide +kernel, by decide +kernel, fun v hv => ?_⟩, ?_⟩
            · obtain ⟨z, hz, rfl⟩ := List.mem_map.mp hv
              exact ⟨z, rfl, by revert z; unfold words13; decide +kernel⟩
            · rintro v Hb ⟨z, rfl, hz⟩ hfb kb
              exact key _ _ ⟨_, _, _, _, _, _, rfl, .inl ⟨.str z hz, rfl⟩, hfb, (k7.trans ka).trans kb⟩
        rintro σ H8 ⟨y, v5, v7, v8, v9, v10, rfl, al, hf8, k8⟩
        -- now and then one that fits
        refine seq_key (T1 K k a W l Sx (0 + (i : Int)) H6) (fun key => ?_) ?_
        · refine ⟨_, rfl, l, 2, rfl, hf8, by decide, by decide, fun d Ha d0 d1 hfa ka => ⟨rfl, _, rfl, ite2 (fun _ => ?_) (fun _ => ?_)⟩⟩
          · refine ⟨_, rfl, _, rfl, l, 7, rfl, hfa, by decide, by decide, fun d3 Hb e0 e1 hfb kb => ?_⟩
            obtain ⟨m, rfl⟩ : ∃ m : Nat, d3 = (m : Int) := ⟨d3.toNat, by omega⟩
            have hm : m < words13.length := by
              have : words13.length = 13 := rfl
              omega
            have kk := (k8.trans ka).trans kb
            refine ⟨W, _, _, .str words13[m], rfl, rfl, SqL.of (kk _ _ Wl w6), at_of (j := m) rfl (by rw [List.getElem?_map, List.getElem?_eq_getElem hm]; rfl), key _ _ ⟨_, _, _, _, _, _, rfl, .inl ⟨.str _ ?_, rfl⟩, hfb, kk⟩⟩
            have : words13[m] ∈ words13 := List.getElem_mem hm
            revert this
            generalize words13[m] = z
            revert z
            unfold words13
            decide +kernel
          · exact key _ _ ⟨_, _, _, _, _, _, rfl, al.same ka.del, hfa, k8.trans ka⟩
        clear al hf8 k8 hf7 k7
        rintro σ H8 ⟨y, v5, v7, v8, v9, v10, rfl, al, hf8, k8⟩
        -- steps picked
        refine seq_key (T3 K k a W l Sx (0 + (i : Int)) H6) (fun key => ?_) ?_
        · refine ⟨_, rfl, l, 4, rfl, hf8, by decide, by decide, fun c Ha c0 c1 hfa ka => ⟨c, rfl, by omega, by omega, fun Dm hDm => ?_⟩⟩
          have kka := k8.trans ka
          have Dml : Dm ≠ l := (hfa.ne hDm).symm
          have nD := none_back kka Dml hDm
          have nD8 := none_back ka Dml hDm
          refine lc_range (lo := 0) (n := c.toNat) (fun i H2 => Feed H2 l ∧ Keep l Ha H2 ∧ ∃ ys, ∃ os : List (Str × Str), ys.length = i ∧ H2 Dm = some (.lst ys) ∧ Els K k.cS (L2.del (L2.del H2 l) Dm) ys (os.map some)) ⟨hfa.same (same_new hDm), Keep.new hDm, [], [], rfl, upd_same, rfl, fun i v o e => by cases e⟩ ?_ ?_
          · rintro i' H2 hi' ⟨hf2, k2, ys, os, ly, dy, el2⟩
            have kk2 := kka.trans k2
            refine ⟨rfl, _, rfl, _, rfl, l, .ref Sx, (fun v => ∃ zy, El K k.cS (L2.del (L2.del H2 l) Dm) v (some zy)), rfl, hf2, .inr ⟨Sx, xs, rfl, Sl, SqL.of (kk2 _ _ Sl hS6), by omega, by omega, fun v hv => ?_⟩, ?_⟩
            · obtain ⟨m, hm⟩ := List.mem_iff_getElem?.mp hv
              have lm := (List.getElem?_eq_some_iff.mp hm).1
              have lz : xs.length = zs.length := by have := el.1; rwa [List.length_map] at this
              exact ⟨zs[m]'(by omega), (el.2 m v _ hm (by rw [List.getElem?_map, List.getElem?_eq_getElem (show m < zs.length by omega)]; rfl)).same (new_del2 kk2 nD)⟩
            · rintro v H3' ⟨zy, ev⟩ hf3 k3
              have sub : Same (L2.del (L2.del H2 l) Dm) (L2.del (L2.del (upd H3' Dm (.lst (ys ++ [v]))) l) Dm) := (keep_del2 k3).trans del2_put
              refine ⟨ys, k3 _ _ Dml dy, small1000 (by omega), hf3.keep (m := Dm) Keep.put Dml.symm, fun b o n e => ?_, ys ++ [v], os ++ [zy], by simp [ly], upd_same, els_add (el2.same sub) (ev.same sub)⟩
              rw [upd_ne (ne_of_none e hDm)]
              exact k3 b o n (k2 b o n e)
          · rintro H2 ⟨hf2, k2, ys, os, ly, dy, el2⟩
            exact key _ _ ⟨y, _, _, _, _, Dm, ys, _, rfl, al.same (new_del2 (ka.trans k2) nD8), hf2, kka.trans k2, nD, Dml, dy, el2, by omega⟩
        clear al hf8 k8
        rintro σ H8 ⟨y, v5, v8, v9, v10, Dm, ys, os, rfl, al, hf8, k8, nD, Dl, hD8, he8, ly⟩
        refine seq_key (T3 K k a W l Sx (0 + (i : Int)) H6) (fun key => ?_) ?_
        · refine ⟨_, rfl, l, 2, rfl, hf8, by decide, by decide, fun d Ha d0 d1 hfa ka => ⟨rfl, _, rfl, ?_⟩⟩
          have ala := al.same (keep_del2 ka)
          have kka := k8.trans ka
          have hDa := ka _ _ Dl hD8
          have hea := he8.same (keep_del2 ka)
          refine ite2 (fun _ => ?_) (fun _ => ?_)
          · have alH := ala.same del2_sub
            refine ⟨_, rfl, _, rfl, W, words13.map V.str, (fun i => match words13[i]? with | some z => Classical.choose (word_alike (z := z) alH) | none => false), rfl, .inr (kka _ _ Wl w6), fun i v hv => ?_, fun Hb eb => ⟨_, rfl, ite2 (fun _ => ?_) (fun _ => ?_)⟩⟩
            · rw [List.getElem?_map] at hv
              obtain ⟨z, hz, rfl⟩ := Option.map_eq_some_iff.mp hv
              simp only [hz]
              exact Classical.choose_spec (word_alike (z := z) alH)
            · have kb : Keep l H6 Hb := kka.trans (Keep.same eb)
              have hfb := hfa.same eb
              have alb := ala.same (keep_del2 (Keep.same eb))
              have hDb := eb _ _ hDa
              refine ⟨_, rfl, _, rfl, _, rfl, l, Sx, xs, zs, rfl, hfb, Sl, kb _ _ Sl hS6, el.same kb.del, by omega, fun Dt ts Hc tall tlen nDt Dtl hDt hfc kc => ?_⟩
              refine fun x dx nx nd ne => ⟨x, dx, "u", "+", rfl, upd_same, ⟨by decide +kernel, by decide +kernel, by decide +kernel, by decide +kernel, by decide +kernel, by decide +kernel⟩, plusOk, fun Hd hs kk => ⟨rfl, ?_⟩⟩
              have sd : Same Hc Hd := same_of_keep (H1 := Hc) nx nd kk
              refine fun x2 dx2 nx2 nd2 ne2 => ⟨[.ref x2, .str "up"], [.ref x], rfl, rfl, by show 1 ≤ sizeLine; decide, fun p2 hp2 => ?_⟩
              have px : x2 ≠ p2 := fun e => by
                rw [← e, upd_same] at hp2
                cases hp2
              have np : Hd p2 = none := by
                by_cases hpd : p2 = dx2
                · rw [hpd]; exact nd2
                · rw [upd_ne px.symm, upd_ne hpd] at hp2
                  exact hp2
              have sM : Same Hd (upd (upd (upd Hd dx2 (.own x2)) x2 (.ins k.cT dx2 [])) p2 (.tup [.ref x])) := fun b o e => by
                rw [upd_ne (ne_of_none e np), upd_ne (ne_of_none e nx2), upd_ne (ne_of_none e nd2)]
                exact e
              refine ⟨x2, dx2, p2, x, "u", rfl, by rw [upd_ne px]; exact upd_same, upd_same, hs.same sM, fun He ht2 kk2 => ⟨rfl, by show 1 ≤ sizeLine; decide, fun q1 hq1 => ?_⟩⟩
              have se : Same Hd He := fun b o e => kk2 b o (ne_of_none e nx2) (sM b o e)
              have hpe := kk2 p2 _ px.symm upd_same
              have hfd := hfc.same sd
              have sq1 := same_new (o := .lst [.ref x2]) hq1
              have wq1 := upd_same (H := He) (a := q1) (o := .lst [.ref x2])
              have ht3 := sq1 _ _ ht2
              have hp3 := sq1 _ _ hpe
              have scf := (sd.trans se).trans sq1
              have hsf := (hs.same se).same sq1
              have hxl : x ≠ l := (hfc.ne nx).symm
              have hx2l : x2 ≠ l := (hfd.ne nx2).symm
              have hp2l : p2 ≠ l := (hfd.ne np).symm
              have hff := hfc.same scf
              generalize upd He q1 (.lst [.ref x2]) = Hf at wq1 ht3 hp3 scf hsf hff ⊢
              have hDtf := scf _ _ hDt
              refine ⟨Dt, q1, ts, [.ref x2], rfl, rfl, hDtf, wq1, Nat.le_of_lt (small1000 (by show ts.length + 1 ≤ 1000; omega)), fun r hr => ?_⟩
              have sr := same_new (o := .lst (ts ++ [.ref x2])) hr
              have wr := upd_same (H := Hf) (a := r) (o := .lst (ts ++ [.ref x2]))
              have rl : r ≠ l := (hff.ne hr).symm
              have hfg := hff.same sr
              have scg := scf.trans sr
              have ht4 := sr _ _ ht3
              have hp4 := sr _ _ hp3
              have hsg := hsf.same sr
              generalize upd Hf r (.lst (ts ++ [.ref x2])) = Hg at wr hfg scg ht4 hp4 hsg ⊢
              have kg : Keep l H6 Hg := (kb.trans kc).trans (Keep.same scg)
              refine ⟨l, .ref r, (fun v => TrS K k.cS k.cT (L2.del Hg l) v), rfl, hfg, .inr ⟨r, _, rfl, rl, SqL.of wr, by simp, by rw [List.length_append]; show ts.length + 1 ≤ 1000; omega, fun v hv => ?_⟩, ?_⟩
              · rcases List.mem_append.mp hv with h | h
                · exact (tall v h).same (same_del scg)
                · obtain rfl := List.mem_singleton.mp h
                  obtain ⟨ds, hsd⟩ := hsg
                  refine ⟨x2, "up", [("u", ("+" : Str))], rfl, ⟨dx2, p2, [.ref x], by rw [del_ne hx2l]; exact ht4, by rw [del_ne hp2l]; exact hp4, els_of1 ⟨x, rfl, ⟨ds, by rw [del_ne hxl]; exact hsd⟩, ⟨by decide +kernel, by decide +kernel, by decide +kernel, by decide +kernel, by decide +kernel, by decide +kernel⟩, plusOk⟩⟩, by show 1 ≤ 3; decide⟩
              · rintro v Hh ⟨tt, tw, tz, rfl, ⟨dt, tp, txs, htt, htp, hte⟩, tl3⟩ hfh kh
                have htt' := del_sub _ _ (kh.del _ _ htt)
                have htp' := del_sub _ _ (kh.del _ _ htp)
                refine ⟨tt, k.cT, dt, _, _, rfl, htt', k'.T.cl, k'.t2, rfl, _, rfl, tp, txs, rfl, .inr (SqT.of htp'), fun Dn hDn => ?_⟩
                have kn : Keep l H6 Hh := kg.trans kh
                have Dnl : Dn ≠ l := (hfh.ne hDn).symm
                have ltx : txs.length ≤ 3 := by have := hte.1; rw [List.length_map] at this; omega
                have k8n : Keep l H8 Hh := ((((ka.trans (Keep.same eb)).trans kc).trans (Keep.same scg)).trans kh)
                have aln : Alike K k 3 (L2.del H8 l) y y := al.same fun b o e => del_sub _ _ e
                exact key _ _ ⟨y, _, _, _, _, Dn, txs, tz.map some, rfl, aln.same (new_del2 (k8n.trans (Keep.new hDn)) (none_back k8n Dnl hDn)), hfh.same (same_new hDn), kn.trans (Keep.new hDn), none_back kn Dnl hDn, Dnl, upd_same, hte.same ((kh.del).trans (new_del2 (Keep.new hDn) hDn)), ltx⟩
            · exact key _ _ ⟨y, _, _, _, _, Dm, ys, os, rfl, ala.same (keep_del2 (Keep.same eb)), hfa.same eb, kka.trans (Keep.same eb), nD, Dl, eb _ _ hDa, hea.same (keep_del2 (Keep.same eb)), ly⟩
          · exact iteF (key _ _ ⟨y, _, _, _, _, Dm, ys, os, rfl, ala, hfa, kka, nD, Dl, hDa, hea, ly⟩)
        clear al hf8 k8 nD Dl hD8 he8 ly
        rintro σ H8 ⟨y, v5, v8, v9, v10, Dm, ys, os, rfl, al, hf8, k8, nD, Dl, hD8, he8, ly⟩
        refine seq_key (T3 K k a W l Sx (0 + (i : Int)) H6) (fun key => ?_) ?_
        · refine ⟨_, rfl, l, 6, rfl, hf8, by decide, by decide, fun d Ha d0 d1 hfa ka => ⟨rfl, _, rfl, ?_⟩⟩
          have ala := al.same (keep_del2 ka)
          have kka := k8.trans ka
          have hDa := ka _ _ Dl hD8
          have hea := he8.same (keep_del2 ka)
          refine ite2 (fun _ => ?_) (fun _ => ?_)
          · refine ⟨_, rfl, by show 0 ≤ sizeLine; decide, fun e he => ⟨Dm, e, ys, rfl, rfl, same_new he _ _ hDa, upd_same, _, rfl, ?_⟩⟩
            have se := same_new (o := .lst []) he
            generalize upd Ha e (.lst []) = Hb at se ⊢
            have hfb := hfa.same se
            have kkb := kka.trans (Keep.same se)
            have hDb := se _ _ hDa
            have alb := ala.same (keep_del2 (Keep.same se))
            have heb := hea.same (keep_del2 (Keep.same se))
            by_cases hz : ys = []
            · rw [show ys.isEmpty = true by rw [hz]; rfl]
              exact iteF (key _ _ ⟨y, _, _, _, _, Dm, ys, os, rfl, alb, hfb, kkb, nD, Dl, hDb, heb, ly⟩)
            · have pos : 0 < ys.length := List.length_pos_iff.mpr hz
              rw [show ys.isEmpty = false by cases ys with | nil => exact absurd rfl hz | cons _ _ => rfl]
              refine iteT ⟨_, rfl, l, 2, rfl, by decide, by decide, hfb, fun v Hc av hfc kc => ?_⟩
              have hDc := kc _ _ Dl hDb
              obtain ⟨o, eo⟩ := el_of_alike k' N (av.same (nw_del2 hfb hDb))
              refine ⟨_, rfl, _, rfl, _, rfl, Dm, _, rfl, .inl (SqL.of hDc), l, _, rfl, hfc, by show (1 : Int) ≤ (ys.length : Nat); omega, by show ((ys.length : Nat) : Int) < 1073741824; omega, fun d2 Hd e0 e1 hfd kd => ?_⟩
              have hDd := kd _ _ Dl hDc
              refine ⟨Dm, ys, d2, d2.toNat, rfl, rfl, hDd, ?_, ?_⟩
              · unfold ixN
                rw [if_pos e0, if_pos e1]
              · have sub : Same (L2.del (L2.del Hb l) Dm) (L2.del (L2.del (upd Hd Dm (.lst (ys.set d2.toNat v))) l) Dm) := (keep_del2 (kc.trans kd)).trans del2_put
                have sub2 : Same (L2.del (L2.del Hc l) Dm) (L2.del (L2.del (upd Hd Dm (.lst (ys.set d2.toNat v))) l) Dm) := (keep_del2 kd).trans del2_put
                refine key _ _ ⟨y, _, _, _, _, Dm, ys.set d2.toNat v, os.set d2.toNat o, rfl, alb.same sub, hfd.keep (m := Dm) Keep.put Dl.symm, fun b u n q => ?_, nD, Dl, upd_same, els_set (heb.same sub) (eo.same sub2), by rw [List.length_set]; exact ly⟩
                rw [upd_ne (ne_of_none q nD)]
                exact ((kkb.trans kc).trans kd) b u n q
          · exact iteF (key _ _ ⟨y, _, _, _, _, Dm, ys, os, rfl, ala, hfa, kka, nD, Dl, hDa, hea, ly⟩)
        clear al hf8 k8 nD Dl hD8 he8 ly
        rintro σ H8 ⟨y, v5, v8, v9, v10, Dm, ys, os, rfl, al, hf8, k8, nD, Dl, hD8, he8, ly⟩
        have seen := seen_of_alike k' (al.same del2_sub)
        have heH := he8.same del2_sub
        cases htr : trB y os with
        | none =>
          obtain ⟨z, rfl⟩ := trB_str htr
          obtain ⟨h7, hA, _⟩ := trB_none htr
          obtain ⟨zs', rfl⟩ : ∃ zs' : List (Str × Str), os = zs'.map some := all_some (by
            unfold areB at hA
            rw [Bool.and_eq_true, Bool.and_eq_true] at hA
            exact hA.2.1)
          refine ⟨_, rfl, _, rfl, .str z, Dm, ys, _, rfl, hD8, seen, heH, ly, fun Ha sa => ?_⟩
          rw [htr]
          refine ⟨_, rfl, _, rfl, .str z, Dm, ys, _, rfl, sa _ _ hD8, seen_same sa seen, heH.same sa, ly, fun _ x dx p Hb sb nx np hx hp => ?_, fun m tm => absurd (htr.symm.trans tm) (by simp)⟩
          have sab := sa.trans sb
          refine ⟨_, _, rfl, _, rfl, rfl, _, rfl, ?_⟩
          rw [decide_eq_true (show dueV none = V.non from rfl)]
          refine iteF ⟨_, rfl, rfl, _, rfl, ?_⟩
          rw [decide_eq_true (show dueV none = V.non from rfl)]
          refine iteT ⟨_, rfl, _, rfl, _, rfl, x, z, Dm, dx, p, ys, zs', rfl, hx, hp, sab _ _ hD8, heH.same sab, htr, fun Hc sc => ⟨_, rfl, iteF ?_⟩⟩
          exact ⟨⟨_, _, _, _, _, _, rfl⟩, hf8.same (sab.trans sc), k8.trans (Keep.same (sab.trans sc))⟩
        | some m =>
          refine ⟨_, rfl, _, rfl, y, Dm, ys, os, rfl, hD8, seen, heH, ly, fun Ha sa => ?_⟩
          rw [htr]
          refine ⟨_, rfl, _, rfl, y, Dm, ys, os, rfl, sa _ _ hD8, seen_same sa seen, heH.same sa, ly, fun tn => absurd (htr.symm.trans tn) (by simp), fun m' tm p Hb sb hp => ?_⟩
          have em : m' = m := by
            have := tm.symm.trans htr
            injection this
          subst em
          have sab := sa.trans sb
          have lm : m'.length ≤ 1000 := trB_words htr
          refine ⟨_, _, rfl, _, rfl, rfl, _, rfl, ?_⟩
          rw [decide_eq_false (show ¬ dueV (some m') = V.non from fun e => by cases e)]
          refine iteT ⟨_, rfl, _, rfl, by show 2 ≤ sizeLine; decide, fun p2 hp2 => ?_⟩
          have s2 := same_new (o := .tup [.str "refused", .str m']) hp2
          refine ⟨.ref p, .ref p2, rfl, .inr ⟨p, p2, [.str "refused", .str m'], [.str "refused", .str m'], rfl, rfl, rfl, by show 2 ≤ 20; decide, .inr ⟨s2 _ _ hp, upd_same⟩, fun i' x' y' e1 e2 => ?_⟩, fun Hc sc => ⟨_, rfl, iteF ?_⟩⟩
          · match i', e1, e2 with
            | 0, e1, e2 =>
              cases e1
              cases e2
              exact .inl ⟨.str _ (by decide +kernel), rfl⟩
            | 1, e1, e2 =>
              cases e1
              cases e2
              exact .inl ⟨.str _ lm, rfl⟩
            | i + 2, e1, _ => cases e1
          · have sx := (sab.trans s2).trans sc
            refine ⟨_, rfl, rfl, _, rfl, ?_⟩
            rw [decide_eq_false (show ¬ dueV (some m') = V.non from fun e => by cases e)]
            exact iteF ⟨⟨_, _, _, _, _, _, rfl⟩, hf8.same sx, k8.trans (Keep.same sx)⟩
      · rintro σ H7 ⟨⟨v5, v6, v7, v8, v9, v10, rfl⟩, hf7, k7⟩
        exact ⟨⟨_, _, _, _, _, _, _, _, _, rfl⟩, fun b o e => k7 b o (hlH e) (k36 b o e)⟩
    · rintro σ H4 ⟨_, s5⟩
      exact q H4
end
end LK

namespace LK
open PySem PySem.Spec PyProof.Rows L2 LR
/-! ### the end -/
theorem rows12 {p : Nat → Prop} (h0 : p 0) (h1 : p 1) (h2 : p 2) (h3 : p 3) (h4 : p 4) (h5 : p 5) (h6 : p 6) (h7 : p 7) (h8 : p 8) (h9 : p 9) (h10 : p 10) (h11 : p 11) : ∀ i, i < 12 → p i
  | 0, _ => h0
  | 1, _ => h1
  | 2, _ => h2
  | 3, _ => h3
  | 4, _ => h4
  | 5, _ => h5
  | 6, _ => h6
  | 7, _ => h7
  | 8, _ => h8
  | 9, _ => h9
  | 10, _ => h10
  | 11, _ => h11
  | n + 12, h => absurd h (by omega)
theorem rows11 {p : Nat → Prop} (h0 : p 0) (h1 : p 1) (h2 : p 2) (h3 : p 3) (h4 : p 4) (h5 : p 5) (h6 : p 6) (h7 : p 7) (h8 : p 8) (h9 : p 9) (h10 : p 10) : ∀ i, i < 11 → p i
  | 0, _ => h0
  | 1, _ => h1
  | 2, _ => h2
  | 3, _ => h3
  | 4, _ => h4
  | 5, _ => h5
  | 6, _ => h6
  | 7, _ => h7
  | 8, _ => h8
  | 9, _ => h9
  | 10, _ => h10
  | n + 11, h => absurd h (by omega)
theorem ns_absent {K : PySem.W.Frag} {Pm : Params} {d : Addr} {es : Array DictEntry} {n : Nat} {ws : List Str} {x : Str} (lk : K.lookup d = some ⟨.type "dict", none, .dict es n, #[]⟩) (kl : PySem.W.KeysLit Pm es.toList) (hk : es.toList.all (fun e => ws.any fun z => e.key.isStr z) = true) (hx : x ∉ ws) : PySem.W.nsIn K d x = some none := by
  unfold PySem.W.nsIn
  rw [lk]
  have nf : es.toList.find? (·.key.isStr x) = none := by
    rw [List.find?_eq_none]
    intro e he hs
    obtain ⟨y, t, ey, _⟩ := kl.all e he
    have h1 := List.all_eq_true.mp hk e he
    obtain ⟨z, hz, e2⟩ := List.any_eq_true.mp h1
    have is : ∀ u v : Str, ∀ t : Tok, (Value.str u t).isStr v = true → u = v := fun u v t h => by
      rw [PySem.W.isStr_of] at h
      simpa [Value.isStrOf] using h
    rw [ey] at e2 hs
    have a1 := is _ _ _ e2
    have a2 := is _ _ _ hs
    exact hx (by rw [← a2, a1]; exact hz)
  have nr : es.toList.any (·.refKey) = false := by
    rw [List.any_eq_false]
    intro e he
    obtain ⟨y, t, ey, _⟩ := kl.all e he
    unfold PySem.DictEntry.refKey
    rw [ey]
    simp
  show (match es.toList.find? (·.key.isStr x) with | some e => some (some e.val) | none => if es.toList.any (·.refKey) then none else some none) = _
  rw [nf, nr]
  rfl
theorem all_mk {l : PySem.W.OpenLaw} {w : World} {K : PySem.W.Frag} {h : Heap} {mg : Str → Option Value} {fa : Addr} (X : K.In h) (G : h.Ns mainGlobals mg) (hfa : mg "law" = some (.ref fa))
    {flaw_feed : Addr} {odlaw_feed anlaw_feed : Option Addr} {sllaw_feed : Array (Option Value)} {oclaw_feed kVlaw_feed dclaw_feed pmlaw_feed cdlaw_feed ctlaw_feed : Value}
    {flaw_draw : Addr} {odlaw_draw anlaw_draw : Option Addr} {sllaw_draw : Array (Option Value)} {oclaw_draw kVlaw_draw dclaw_draw pmlaw_draw cdlaw_draw ctlaw_draw : Value}
    {flaw_pick : Addr} {odlaw_pick anlaw_pick : Option Addr} {sllaw_pick : Array (Option Value)} {oclaw_pick kVlaw_pick dclaw_pick pmlaw_pick cdlaw_pick ctlaw_pick : Value}
    {flaw_same : Addr} {odlaw_same anlaw_same : Option Addr} {sllaw_same : Array (Option Value)} {oclaw_same kVlaw_same dclaw_same pmlaw_same cdlaw_same ctlaw_same : Value}
    {flaw_word : Addr} {odlaw_word anlaw_word : Option Addr} {sllaw_word : Array (Option Value)} {oclaw_word kVlaw_word dclaw_word pmlaw_word cdlaw_word ctlaw_word : Value}
    {flaw_words : Addr} {odlaw_words anlaw_words : Option Addr} {sllaw_words : Array (Option Value)} {oclaw_words kVlaw_words dclaw_words pmlaw_words cdlaw_words ctlaw_words : Value}
    {flaw_sign : Addr} {odlaw_sign anlaw_sign : Option Addr} {sllaw_sign : Array (Option Value)} {oclaw_sign kVlaw_sign dclaw_sign pmlaw_sign cdlaw_sign ctlaw_sign : Value}
    {flaw_bent : Addr} {odlaw_bent anlaw_bent : Option Addr} {sllaw_bent : Array (Option Value)} {oclaw_bent kVlaw_bent dclaw_bent pmlaw_bent cdlaw_bent ctlaw_bent : Value}
    {flaw_near_name : Addr} {odlaw_near_name anlaw_near_name : Option Addr} {sllaw_near_name : Array (Option Value)} {oclaw_near_name kVlaw_near_name dclaw_near_name pmlaw_near_name cdlaw_near_name ctlaw_near_name : Value}
    {flaw_any : Addr} {odlaw_any anlaw_any : Option Addr} {sllaw_any : Array (Option Value)} {oclaw_any kVlaw_any dclaw_any pmlaw_any cdlaw_any ctlaw_any : Value}
    {flaw_ways : Addr} {odlaw_ways anlaw_ways : Option Addr} {sllaw_ways : Array (Option Value)} {oclaw_ways kVlaw_ways dclaw_ways pmlaw_ways cdlaw_ways ctlaw_ways : Value}
    {flaw_refused : Addr} {odlaw_refused anlaw_refused : Option Addr} {sllaw_refused : Array (Option Value)} {oclaw_refused kVlaw_refused dclaw_refused pmlaw_refused cdlaw_refused ctlaw_refused : Value}
    {flaw_fits : Addr} {odlaw_fits anlaw_fits : Option Addr} {sllaw_fits : Array (Option Value)} {oclaw_fits kVlaw_fits dclaw_fits pmlaw_fits cdlaw_fits ctlaw_fits : Value}
    {flaw_pool_steps : Addr} {odlaw_pool_steps anlaw_pool_steps : Option Addr} {sllaw_pool_steps : Array (Option Value)} {oclaw_pool_steps kVlaw_pool_steps dclaw_pool_steps pmlaw_pool_steps cdlaw_pool_steps ctlaw_pool_steps : Value}
    {flaw_pool_traits : Addr} {odlaw_pool_traits anlaw_pool_traits : Option Addr} {sllaw_pool_traits : Array (Option Value)} {oclaw_pool_traits kVlaw_pool_traits dclaw_pool_traits pmlaw_pool_traits cdlaw_pool_traits ctlaw_pool_traits : Value}
    {flaw_trait : Addr} {odlaw_trait anlaw_trait : Option Addr} {sllaw_trait : Array (Option Value)} {oclaw_trait kVlaw_trait dclaw_trait pmlaw_trait cdlaw_trait ctlaw_trait : Value}
    {flaw_told : Addr} {odlaw_told anlaw_told : Option Addr} {sllaw_told : Array (Option Value)} {oclaw_told kVlaw_told dclaw_told pmlaw_told cdlaw_told ctlaw_told : Value}
    {flaw_due : Addr} {odlaw_due anlaw_due : Option Addr} {sllaw_due : Array (Option Value)} {oclaw_due kVlaw_due dclaw_due pmlaw_due cdlaw_due ctlaw_due : Value}
    {flaw_right : Addr} {odlaw_right anlaw_right : Option Addr} {sllaw_right : Array (Option Value)} {oclaw_right kVlaw_right dclaw_right pmlaw_right cdlaw_right ctlaw_right : Value}
    {flaw : Addr} {odlaw anlaw : Option Addr} {sllaw : Array (Option Value)} {oclaw kVlaw dclaw pmlaw cdlaw ctlaw : Value}
    {fis_name : Addr} {odis_name anis_name : Option Addr} {slis_name : Array (Option Value)} {ocis_name kVis_name dcis_name pmis_name cdis_name ctis_name : Value}
    {fnamed : Addr} {odnamed annamed : Option Addr} {slnamed : Array (Option Value)} {ocnamed kVnamed dcnamed pmnamed cdnamed ctnamed : Value}
    {fare_ways : Addr} {odare_ways anare_ways : Option Addr} {slare_ways : Array (Option Value)} {ocare_ways kVare_ways dcare_ways pmare_ways cdare_ways ctare_ways : Value}
    {fare_steps : Addr} {odare_steps anare_steps : Option Addr} {slare_steps : Array (Option Value)} {ocare_steps kVare_steps dcare_steps pmare_steps cdare_steps ctare_steps : Value}
    {fways_fit : Addr} {odways_fit anways_fit : Option Addr} {slways_fit : Array (Option Value)} {ocways_fit kVways_fit dcways_fit pmways_fit cdways_fit ctways_fit : Value}
    {fall_names : Addr} {odall_names anall_names : Option Addr} {slall_names : Array (Option Value)} {ocall_names kVall_names dcall_names pmall_names cdall_names ctall_names : Value}
    {Tall_names tall_names : Addr} {oTall_names : Value} {dTall_names : Option Addr} {nTall_names : Nat} {sTall_names : Array (Option Value)}
    {fall_steps : Addr} {odall_steps anall_steps : Option Addr} {slall_steps : Array (Option Value)} {ocall_steps kVall_steps dcall_steps pmall_steps cdall_steps ctall_steps : Value}
    {Tall_steps tall_steps : Addr} {oTall_steps : Value} {dTall_steps : Option Addr} {nTall_steps : Nat} {sTall_steps : Array (Option Value)}
    {kw dC dF tU : Addr} {tL tM tY tS tO tk1 tk2 tk3 tk4 : Tok} {dKW dTU : Option Addr} {nKW nTU nC nF : Nat} {sKW sTU : Array (Option Value)} {esC esF : Array DictEntry}
    {tcup tcdown tcsettled tcmean tcalike tcbelow tcback : Tok}
    {tFup : Addr} {tfup0 : Tok} {dTFup : Option Addr} {nTFup : Nat} {sTFup : Array (Option Value)}
    {tFdown : Addr} {tfdown0 : Tok} {dTFdown : Option Addr} {nTFdown : Nat} {sTFdown : Array (Option Value)}
    {tFsettled : Addr} {tfsettled0 : Tok} {dTFsettled : Option Addr} {nTFsettled : Nat} {sTFsettled : Array (Option Value)}
    {tFmean : Addr} {tfmean0 : Tok} {dTFmean : Option Addr} {nTFmean : Nat} {sTFmean : Array (Option Value)}
    {tFalike : Addr} {tfalike0 tfalike1 tfalike2 : Tok} {dTFalike : Option Addr} {nTFalike : Nat} {sTFalike : Array (Option Value)}
    {tFback : Addr} {tfback0 : Tok} {dTFback : Option Addr} {nTFback : Nat} {sTFback : Array (Option Value)}
    {gS : Addr}
    {fiS : Addr} {odiS aniS : Option Addr} {sliS : Array (Option Value)} {ociS kViS dciS pmiS cdiS ctiS : Value}
    {fqS : Addr} {odqS anqS : Option Addr} {slqS : Array (Option Value)} {ocqS kVqS dcqS pmqS cdqS ctqS : Value}
    {gE : Addr}
    {fiE : Addr} {odiE aniE : Option Addr} {sliE : Array (Option Value)} {ociE kViE dciE pmiE cdiE ctiE : Value}
    {fqE : Addr} {odqE anqE : Option Addr} {slqE : Array (Option Value)} {ocqE kVqE dcqE pmqE cdqE ctqE : Value}
    {gT : Addr}
    {fiT : Addr} {odiT aniT : Option Addr} {sliT : Array (Option Value)} {ociT kViT dciT pmiT cdiT ctiT : Value}
    {fqT : Addr} {odqT anqT : Option Addr} {slqT : Array (Option Value)} {ocqT kVqT dcqT pmqT cdqT ctqT : Value}
    {gC : Addr}
    {fiC : Addr} {odiC aniC : Option Addr} {sliC : Array (Option Value)} {ociC kViC dciC pmiC cdiC ctiC : Value}
    {fqC : Addr} {odqC anqC : Option Addr} {slqC : Array (Option Value)} {ocqC kVqC dcqC pmqC cdqC ctqC : Value}
    {flS : Addr} {odlS anlS : Option Addr} {sllS : Array (Option Value)} {oclS kVlS dclS pmlS cdlS ctlS : Value}
    {ftT : Addr} {odtT antT : Option Addr} {sltT : Array (Option Value)} {octT kVtT dctT pmtT cdtT cttT : Value}
    {gx0 : Addr}
    {nmx0 qx0 : Str} {Nx0 : Addr} {bsx0 bmx0 : List Value} {snx0 : List Str} {subx0 : List Value} {abx0 : Bool} {colx0 : Option Bool} {ddx0 : Option Addr} {z0x0 z1x0 z2x0 z3x0 z5x0 : Option Value}
    {fx0 : Addr} {odx0 anx0 : Option Addr} {slx0 : Array (Option Value)} {ocx0 kVx0 dcx0 pmx0 cdx0 ctx0 : Value}
    {gx1 : Addr}
    {nmx1 qx1 : Str} {Nx1 : Addr} {bsx1 bmx1 : List Value} {snx1 : List Str} {subx1 : List Value} {abx1 : Bool} {colx1 : Option Bool} {ddx1 : Option Addr} {z0x1 z1x1 z2x1 z3x1 z5x1 : Option Value}
    {fx1 : Addr} {odx1 anx1 : Option Addr} {slx1 : Array (Option Value)} {ocx1 kVx1 dcx1 pmx1 cdx1 ctx1 : Value}
    {gx2 : Addr}
    {nmx2 qx2 : Str} {Nx2 : Addr} {bsx2 bmx2 : List Value} {snx2 : List Str} {subx2 : List Value} {abx2 : Bool} {colx2 : Option Bool} {ddx2 : Option Addr} {z0x2 z1x2 z2x2 z3x2 z5x2 : Option Value}
    {fx2 : Addr} {odx2 anx2 : Option Addr} {slx2 : Array (Option Value)} {ocx2 kVx2 dcx2 pmx2 cdx2 ctx2 : Value}
    {gx3 : Addr}
    {nmx3 qx3 : Str} {Nx3 : Addr} {bsx3 bmx3 : List Value} {snx3 : List Str} {subx3 : List Value} {abx3 : Bool} {colx3 : Option Bool} {ddx3 : Option Addr} {z0x3 z1x3 z2x3 z3x3 z5x3 : Option Value}
    {fx3 : Addr} {odx3 anx3 : Option Addr} {slx3 : Array (Option Value)} {ocx3 kVx3 dcx3 pmx3 cdx3 ctx3 : Value}
    {gx4 : Addr}
    {nmx4 qx4 : Str} {Nx4 : Addr} {bsx4 bmx4 : List Value} {snx4 : List Str} {subx4 : List Value} {abx4 : Bool} {colx4 : Option Bool} {ddx4 : Option Addr} {z0x4 z1x4 z2x4 z3x4 z5x4 : Option Value}
    {fx4 : Addr} {odx4 anx4 : Option Addr} {slx4 : Array (Option Value)} {ocx4 kVx4 dcx4 pmx4 cdx4 ctx4 : Value}
    {gx5 : Addr}
    {nmx5 qx5 : Str} {Nx5 : Addr} {bsx5 bmx5 : List Value} {snx5 : List Str} {subx5 : List Value} {abx5 : Bool} {colx5 : Option Bool} {ddx5 : Option Addr} {z0x5 z1x5 z2x5 z3x5 z5x5 : Option Value}
    {fx5 : Addr} {odx5 anx5 : Option Addr} {slx5 : Array (Option Value)} {ocx5 kVx5 dcx5 pmx5 cdx5 ctx5 : Value}
    {gx6 : Addr}
    {nmx6 qx6 : Str} {Nx6 : Addr} {bsx6 bmx6 : List Value} {snx6 : List Str} {subx6 : List Value} {abx6 : Bool} {colx6 : Option Bool} {ddx6 : Option Addr} {z0x6 z1x6 z2x6 z3x6 z5x6 : Option Value}
    {fx6 : Addr} {odx6 anx6 : Option Addr} {slx6 : Array (Option Value)} {ocx6 kVx6 dcx6 pmx6 cdx6 ctx6 : Value}
    {gx7 : Addr}
    {nmx7 qx7 : Str} {Nx7 : Addr} {bsx7 bmx7 : List Value} {snx7 : List Str} {subx7 : List Value} {abx7 : Bool} {colx7 : Option Bool} {ddx7 : Option Addr} {z0x7 z1x7 z2x7 z3x7 z5x7 : Option Value}
    {fx7 : Addr} {odx7 anx7 : Option Addr} {slx7 : Array (Option Value)} {ocx7 kVx7 dcx7 pmx7 cdx7 ctx7 : Value}
    {gx8 : Addr}
    {nmx8 qx8 : Str} {Nx8 : Addr} {bsx8 bmx8 : List Value} {snx8 : List Str} {subx8 : List Value} {abx8 : Bool} {colx8 : Option Bool} {ddx8 : Option Addr} {z0x8 z1x8 z2x8 z3x8 z5x8 : Option Value}
    {fx8 : Addr} {odx8 anx8 : Option Addr} {slx8 : Array (Option Value)} {ocx8 kVx8 dcx8 pmx8 cdx8 ctx8 : Value}
    {gx9 : Addr}
    {nmx9 qx9 : Str} {Nx9 : Addr} {bsx9 bmx9 : List Value} {snx9 : List Str} {subx9 : List Value} {abx9 : Bool} {colx9 : Option Bool} {ddx9 : Option Addr} {z0x9 z1x9 z2x9 z3x9 z5x9 : Option Value}
    {fx9 : Addr} {odx9 anx9 : Option Addr} {slx9 : Array (Option Value)} {ocx9 kVx9 dcx9 pmx9 cdx9 ctx9 : Value}
    {gx10 : Addr}
    {nmx10 qx10 : Str} {Nx10 : Addr} {bsx10 bmx10 : List Value} {snx10 : List Str} {subx10 : List Value} {abx10 : Bool} {colx10 : Option Bool} {ddx10 : Option Addr} {z0x10 z1x10 z2x10 z3x10 z5x10 : Option Value}
    {fx10 : Addr} {odx10 anx10 : Option Addr} {slx10 : Array (Option Value)} {ocx10 kVx10 dcx10 pmx10 cdx10 ctx10 : Value}
    {gx11 : Addr}
    {nmx11 qx11 : Str} {Nx11 : Addr} {bsx11 bmx11 : List Value} {snx11 : List Str} {subx11 : List Value} {abx11 : Bool} {colx11 : Option Bool} {ddx11 : Option Addr} {z0x11 z1x11 z2x11 z3x11 z5x11 : Option Value}
    {gx12 : Addr}
    {nmx12 qx12 : Str} {Nx12 : Addr} {bsx12 bmx12 : List Value} {snx12 : List Str} {subx12 : List Value} {abx12 : Bool} {colx12 : Option Bool} {ddx12 : Option Addr} {z0x12 z1x12 z2x12 z3x12 z5x12 : Option Value}
    (b_len : PySem.W.nsIn K mainGlobals "len" = some none)
    (b_abs : PySem.W.nsIn K mainGlobals "abs" = some none)
    (b_int : PySem.W.nsIn K mainGlobals "int" = some none)
    (b_range : PySem.W.nsIn K mainGlobals "range" = some none)
    (b_isinstance : PySem.W.nsIn K mainGlobals "isinstance" = some none)
    (b_tuple : PySem.W.nsIn K mainGlobals "tuple" = some none)
    (b_list : PySem.W.nsIn K mainGlobals "list" = some none)
    (b_all : PySem.W.nsIn K mainGlobals "all" = some none)
    (b_zip : PySem.W.nsIn K mainGlobals "zip" = some none)
    (b_bool : PySem.W.nsIn K mainGlobals "bool" = some none)
    (b_str : PySem.W.nsIn K mainGlobals "str" = some none)
    (b_set : PySem.W.nsIn K mainGlobals "set" = some none)
    (b_sorted : PySem.W.nsIn K mainGlobals "sorted" = some none)
    (b_sum : PySem.W.nsIn K mainGlobals "sum" = some none)
    (b_any : PySem.W.nsIn K mainGlobals "any" = some none)
    (b_enumerate : PySem.W.nsIn K mainGlobals "enumerate" = some none)
    (b_ve : PySem.W.nsIn K mainGlobals "ValueError" = some none)
    (alaw_feed : PySem.W.nsIn K mainGlobals "_law_feed" = some (some (.ref flaw_feed)))
    (llaw_feed : K.lookup flaw_feed = some ⟨oclaw_feed, odlaw_feed, .func (PySem.W.fnOf "_law_feed" "_law_feed" (defArgs sFeed) (defBody sFeed) (defScope sFeed) .none kVlaw_feed dclaw_feed pmlaw_feed anlaw_feed cdlaw_feed ctlaw_feed), sllaw_feed⟩)
    (claw_feed : PySem.W.codeIn K cdlaw_feed "_law_feed" = true)
    (klaw_feed : PySem.W.keepIn K (.ref flaw_feed) = true)
    (alaw_draw : PySem.W.nsIn K mainGlobals "_law_draw" = some (some (.ref flaw_draw)))
    (llaw_draw : K.lookup flaw_draw = some ⟨oclaw_draw, odlaw_draw, .func (PySem.W.fnOf "_law_draw" "_law_draw" (defArgs sDraw) (defBody sDraw) (defScope sDraw) .none kVlaw_draw dclaw_draw pmlaw_draw anlaw_draw cdlaw_draw ctlaw_draw), sllaw_draw⟩)
    (claw_draw : PySem.W.codeIn K cdlaw_draw "_law_draw" = true)
    (klaw_draw : PySem.W.keepIn K (.ref flaw_draw) = true)
    (alaw_pick : PySem.W.nsIn K mainGlobals "_law_pick" = some (some (.ref flaw_pick)))
    (llaw_pick : K.lookup flaw_pick = some ⟨oclaw_pick, odlaw_pick, .func (PySem.W.fnOf "_law_pick" "_law_pick" (defArgs sPick) (defBody sPick) (defScope sPick) .none kVlaw_pick dclaw_pick pmlaw_pick anlaw_pick cdlaw_pick ctlaw_pick), sllaw_pick⟩)
    (claw_pick : PySem.W.codeIn K cdlaw_pick "_law_pick" = true)
    (klaw_pick : PySem.W.keepIn K (.ref flaw_pick) = true)
    (alaw_same : PySem.W.nsIn K mainGlobals "_law_same" = some (some (.ref flaw_same)))
    (llaw_same : K.lookup flaw_same = some ⟨oclaw_same, odlaw_same, .func (PySem.W.fnOf "_law_same" "_law_same" (defArgs sSame) (defBody sSame) (defScope sSame) .none kVlaw_same dclaw_same pmlaw_same anlaw_same cdlaw_same ctlaw_same), sllaw_same⟩)
    (claw_same : PySem.W.codeIn K cdlaw_same "_law_same" = true)
    (klaw_same : PySem.W.keepIn K (.ref flaw_same) = true)
    (alaw_word : PySem.W.nsIn K mainGlobals "_law_word" = some (some (.ref flaw_word)))
    (llaw_word : K.lookup flaw_word = some ⟨oclaw_word, odlaw_word, .func (PySem.W.fnOf "_law_word" "_law_word" (defArgs sWord) (defBody sWord) (defScope sWord) .none kVlaw_word dclaw_word pmlaw_word anlaw_word cdlaw_word ctlaw_word), sllaw_word⟩)
    (claw_word : PySem.W.codeIn K cdlaw_word "_law_word" = true)
    (klaw_word : PySem.W.keepIn K (.ref flaw_word) = true)
    (alaw_words : PySem.W.nsIn K mainGlobals "_law_words" = some (some (.ref flaw_words)))
    (llaw_words : K.lookup flaw_words = some ⟨oclaw_words, odlaw_words, .func (PySem.W.fnOf "_law_words" "_law_words" (defArgs sWords) (defBody sWords) (defScope sWords) .none kVlaw_words dclaw_words pmlaw_words anlaw_words cdlaw_words ctlaw_words), sllaw_words⟩)
    (claw_words : PySem.W.codeIn K cdlaw_words "_law_words" = true)
    (klaw_words : PySem.W.keepIn K (.ref flaw_words) = true)
    (alaw_sign : PySem.W.nsIn K mainGlobals "_law_sign" = some (some (.ref flaw_sign)))
    (llaw_sign : K.lookup flaw_sign = some ⟨oclaw_sign, odlaw_sign, .func (PySem.W.fnOf "_law_sign" "_law_sign" (defArgs sSign) (defBody sSign) (defScope sSign) .none kVlaw_sign dclaw_sign pmlaw_sign anlaw_sign cdlaw_sign ctlaw_sign), sllaw_sign⟩)
    (claw_sign : PySem.W.codeIn K cdlaw_sign "_law_sign" = true)
    (klaw_sign : PySem.W.keepIn K (.ref flaw_sign) = true)
    (alaw_bent : PySem.W.nsIn K mainGlobals "_law_bent" = some (some (.ref flaw_bent)))
    (llaw_bent : K.lookup flaw_bent = some ⟨oclaw_bent, odlaw_bent, .func (PySem.W.fnOf "_law_bent" "_law_bent" (defArgs sBent) (defBody sBent) (defScope sBent) .none kVlaw_bent dclaw_bent pmlaw_bent anlaw_bent cdlaw_bent ctlaw_bent), sllaw_bent⟩)
    (claw_bent : PySem.W.codeIn K cdlaw_bent "_law_bent" = true)
    (klaw_bent : PySem.W.keepIn K (.ref flaw_bent) = true)
    (alaw_near_name : PySem.W.nsIn K mainGlobals "_law_near_name" = some (some (.ref flaw_near_name)))
    (llaw_near_name : K.lookup flaw_near_name = some ⟨oclaw_near_name, odlaw_near_name, .func (PySem.W.fnOf "_law_near_name" "_law_near_name" (defArgs sNear) (defBody sNear) (defScope sNear) .none kVlaw_near_name dclaw_near_name pmlaw_near_name anlaw_near_name cdlaw_near_name ctlaw_near_name), sllaw_near_name⟩)
    (claw_near_name : PySem.W.codeIn K cdlaw_near_name "_law_near_name" = true)
    (klaw_near_name : PySem.W.keepIn K (.ref flaw_near_name) = true)
    (alaw_any : PySem.W.nsIn K mainGlobals "_law_any" = some (some (.ref flaw_any)))
    (llaw_any : K.lookup flaw_any = some ⟨oclaw_any, odlaw_any, .func (PySem.W.fnOf "_law_any" "_law_any" (defArgs sAny) (defBody sAny) (defScope sAny) .none kVlaw_any dclaw_any pmlaw_any anlaw_any cdlaw_any ctlaw_any), sllaw_any⟩)
    (claw_any : PySem.W.codeIn K cdlaw_any "_law_any" = true)
    (klaw_any : PySem.W.keepIn K (.ref flaw_any) = true)
    (alaw_ways : PySem.W.nsIn K mainGlobals "_law_ways" = some (some (.ref flaw_ways)))
    (llaw_ways : K.lookup flaw_ways = some ⟨oclaw_ways, odlaw_ways, .func (PySem.W.fnOf "_law_ways" "_law_ways" (defArgs sWays) (defBody sWays) (defScope sWays) .none kVlaw_ways dclaw_ways pmlaw_ways anlaw_ways cdlaw_ways ctlaw_ways), sllaw_ways⟩)
    (claw_ways : PySem.W.codeIn K cdlaw_ways "_law_ways" = true)
    (klaw_ways : PySem.W.keepIn K (.ref flaw_ways) = true)
    (alaw_refused : PySem.W.nsIn K mainGlobals "_law_refused" = some (some (.ref flaw_refused)))
    (llaw_refused : K.lookup flaw_refused = some ⟨oclaw_refused, odlaw_refused, .func (PySem.W.fnOf "_law_refused" "_law_refused" (defArgs sRefused) (defBody sRefused) (defScope sRefused) .none kVlaw_refused dclaw_refused pmlaw_refused anlaw_refused cdlaw_refused ctlaw_refused), sllaw_refused⟩)
    (claw_refused : PySem.W.codeIn K cdlaw_refused "_law_refused" = true)
    (klaw_refused : PySem.W.keepIn K (.ref flaw_refused) = true)
    (alaw_fits : PySem.W.nsIn K mainGlobals "_law_fits" = some (some (.ref flaw_fits)))
    (llaw_fits : K.lookup flaw_fits = some ⟨oclaw_fits, odlaw_fits, .func (PySem.W.fnOf "_law_fits" "_law_fits" (defArgs sFits) (defBody sFits) (defScope sFits) .none kVlaw_fits dclaw_fits pmlaw_fits anlaw_fits cdlaw_fits ctlaw_fits), sllaw_fits⟩)
    (claw_fits : PySem.W.codeIn K cdlaw_fits "_law_fits" = true)
    (klaw_fits : PySem.W.keepIn K (.ref flaw_fits) = true)
    (alaw_pool_steps : PySem.W.nsIn K mainGlobals "_law_pool_steps" = some (some (.ref flaw_pool_steps)))
    (llaw_pool_steps : K.lookup flaw_pool_steps = some ⟨oclaw_pool_steps, odlaw_pool_steps, .func (PySem.W.fnOf "_law_pool_steps" "_law_pool_steps" (defArgs sPoolSteps) (defBody sPoolSteps) (defScope sPoolSteps) .none kVlaw_pool_steps dclaw_pool_steps pmlaw_pool_steps anlaw_pool_steps cdlaw_pool_steps ctlaw_pool_steps), sllaw_pool_steps⟩)
    (claw_pool_steps : PySem.W.codeIn K cdlaw_pool_steps "_law_pool_steps" = true)
    (klaw_pool_steps : PySem.W.keepIn K (.ref flaw_pool_steps) = true)
    (alaw_pool_traits : PySem.W.nsIn K mainGlobals "_law_pool_traits" = some (some (.ref flaw_pool_traits)))
    (llaw_pool_traits : K.lookup flaw_pool_traits = some ⟨oclaw_pool_traits, odlaw_pool_traits, .func (PySem.W.fnOf "_law_pool_traits" "_law_pool_traits" (defArgs sPoolTraits) (defBody sPoolTraits) (defScope sPoolTraits) .none kVlaw_pool_traits dclaw_pool_traits pmlaw_pool_traits anlaw_pool_traits cdlaw_pool_traits ctlaw_pool_traits), sllaw_pool_traits⟩)
    (claw_pool_traits : PySem.W.codeIn K cdlaw_pool_traits "_law_pool_traits" = true)
    (klaw_pool_traits : PySem.W.keepIn K (.ref flaw_pool_traits) = true)
    (alaw_trait : PySem.W.nsIn K mainGlobals "_law_trait" = some (some (.ref flaw_trait)))
    (llaw_trait : K.lookup flaw_trait = some ⟨oclaw_trait, odlaw_trait, .func (PySem.W.fnOf "_law_trait" "_law_trait" (defArgs sTrait) (defBody sTrait) (defScope sTrait) .none kVlaw_trait dclaw_trait pmlaw_trait anlaw_trait cdlaw_trait ctlaw_trait), sllaw_trait⟩)
    (claw_trait : PySem.W.codeIn K cdlaw_trait "_law_trait" = true)
    (klaw_trait : PySem.W.keepIn K (.ref flaw_trait) = true)
    (alaw_told : PySem.W.nsIn K mainGlobals "_law_told" = some (some (.ref flaw_told)))
    (llaw_told : K.lookup flaw_told = some ⟨oclaw_told, odlaw_told, .func (PySem.W.fnOf "_law_told" "_law_told" (defArgs sTold) (defBody sTold) (defScope sTold) .none kVlaw_told dclaw_told pmlaw_told anlaw_told cdlaw_told ctlaw_told), sllaw_told⟩)
    (claw_told : PySem.W.codeIn K cdlaw_told "_law_told" = true)
    (klaw_told : PySem.W.keepIn K (.ref flaw_told) = true)
    (alaw_due : PySem.W.nsIn K mainGlobals "_law_due" = some (some (.ref flaw_due)))
    (llaw_due : K.lookup flaw_due = some ⟨oclaw_due, odlaw_due, .func (PySem.W.fnOf "_law_due" "_law_due" (defArgs sDue) (defBody sDue) (defScope sDue) .none kVlaw_due dclaw_due pmlaw_due anlaw_due cdlaw_due ctlaw_due), sllaw_due⟩)
    (claw_due : PySem.W.codeIn K cdlaw_due "_law_due" = true)
    (klaw_due : PySem.W.keepIn K (.ref flaw_due) = true)
    (alaw_right : PySem.W.nsIn K mainGlobals "_law_right" = some (some (.ref flaw_right)))
    (llaw_right : K.lookup flaw_right = some ⟨oclaw_right, odlaw_right, .func (PySem.W.fnOf "_law_right" "_law_right" (defArgs sRight) (defBody sRight) (defScope sRight) .none kVlaw_right dclaw_right pmlaw_right anlaw_right cdlaw_right ctlaw_right), sllaw_right⟩)
    (claw_right : PySem.W.codeIn K cdlaw_right "_law_right" = true)
    (klaw_right : PySem.W.keepIn K (.ref flaw_right) = true)
    (alaw : PySem.W.nsIn K mainGlobals "law" = some (some (.ref flaw)))
    (llaw : K.lookup flaw = some ⟨oclaw, odlaw, .func (PySem.W.fnOf "law" "law" (defArgs sLaw) (defBody sLaw) (defScope sLaw) .none kVlaw dclaw pmlaw anlaw cdlaw ctlaw), sllaw⟩)
    (claw : PySem.W.codeIn K cdlaw "law" = true)
    (klaw : PySem.W.keepIn K (.ref flaw) = true)
    (ais_name : PySem.W.nsIn K mainGlobals "is_name" = some (some (.ref fis_name)))
    (lis_name : K.lookup fis_name = some ⟨ocis_name, odis_name, .func (PySem.W.fnOf "is_name" "is_name" (defArgs sIsName) (defBody sIsName) (defScope sIsName) .none kVis_name dcis_name pmis_name anis_name cdis_name ctis_name), slis_name⟩)
    (cis_name : PySem.W.codeIn K cdis_name "is_name" = true)
    (kis_name : PySem.W.keepIn K (.ref fis_name) = true)
    (anamed : PySem.W.nsIn K mainGlobals "named" = some (some (.ref fnamed)))
    (lnamed : K.lookup fnamed = some ⟨ocnamed, odnamed, .func (PySem.W.fnOf "named" "named" (defArgs sNamed) (defBody sNamed) (defScope sNamed) .none kVnamed dcnamed pmnamed annamed cdnamed ctnamed), slnamed⟩)
    (cnamed : PySem.W.codeIn K cdnamed "named" = true)
    (knamed : PySem.W.keepIn K (.ref fnamed) = true)
    (aare_ways : PySem.W.nsIn K mainGlobals "_are_ways" = some (some (.ref fare_ways)))
    (lare_ways : K.lookup fare_ways = some ⟨ocare_ways, odare_ways, .func (PySem.W.fnOf "_are_ways" "_are_ways" (defArgs sAreWays) (defBody sAreWays) (defScope sAreWays) .none kVare_ways dcare_ways pmare_ways anare_ways cdare_ways ctare_ways), slare_ways⟩)
    (care_ways : PySem.W.codeIn K cdare_ways "_are_ways" = true)
    (kare_ways : PySem.W.keepIn K (.ref fare_ways) = true)
    (aare_steps : PySem.W.nsIn K mainGlobals "_are_steps" = some (some (.ref fare_steps)))
    (lare_steps : K.lookup fare_steps = some ⟨ocare_steps, odare_steps, .func (PySem.W.fnOf "_are_steps" "_are_steps" (defArgs sAreSteps) (defBody sAreSteps) (defScope sAreSteps) .none kVare_steps dcare_steps pmare_steps anare_steps cdare_steps ctare_steps), slare_steps⟩)
    (care_steps : PySem.W.codeIn K cdare_steps "_are_steps" = true)
    (kare_steps : PySem.W.keepIn K (.ref fare_steps) = true)
    (aways_fit : PySem.W.nsIn K mainGlobals "_ways_fit" = some (some (.ref fways_fit)))
    (lways_fit : K.lookup fways_fit = some ⟨ocways_fit, odways_fit, .func (PySem.W.fnOf "_ways_fit" "_ways_fit" (defArgs sWaysFit) (defBody sWaysFit) (defScope sWaysFit) .none kVways_fit dcways_fit pmways_fit anways_fit cdways_fit ctways_fit), slways_fit⟩)
    (cways_fit : PySem.W.codeIn K cdways_fit "_ways_fit" = true)
    (kways_fit : PySem.W.keepIn K (.ref fways_fit) = true)
    (aall_names : PySem.W.nsIn K mainGlobals "all_names" = some (some (.ref fall_names)))
    (lall_names : K.lookup fall_names = some ⟨ocall_names, odall_names, .func (PySem.W.fnOf "all_names" "all_names" (defArgs sAllNames) (defBody sAllNames) (defScope sAllNames) (.ref Tall_names) kVall_names dcall_names pmall_names anall_names cdall_names ctall_names), slall_names⟩)
    (call_names : PySem.W.codeIn K cdall_names "all_names" = true)
    (kall_names : PySem.W.keepIn K (.ref fall_names) = true)
    (eall_names : K.lookup Tall_names = some ⟨oTall_names, dTall_names, .seq #[.ref tall_names] nTall_names, sTall_names⟩)
    (aall_steps : PySem.W.nsIn K mainGlobals "all_steps" = some (some (.ref fall_steps)))
    (lall_steps : K.lookup fall_steps = some ⟨ocall_steps, odall_steps, .func (PySem.W.fnOf "all_steps" "all_steps" (defArgs sAllSteps) (defBody sAllSteps) (defScope sAllSteps) (.ref Tall_steps) kVall_steps dcall_steps pmall_steps anall_steps cdall_steps ctall_steps), slall_steps⟩)
    (call_steps : PySem.W.codeIn K cdall_steps "all_steps" = true)
    (kall_steps : PySem.W.keepIn K (.ref fall_steps) = true)
    (eall_steps : K.lookup Tall_steps = some ⟨oTall_steps, dTall_steps, .seq #[.ref tall_steps] nTall_steps, sTall_steps⟩)
    (w1 : PySem.W.nsIn K mainGlobals "LONGEST_NAME" = some (some (.int 4 tL)))
    (w2 : PySem.W.nsIn K mainGlobals "LETTERS" = some (some (.str "abcdefghijklmnopqrstuvwxyz" tM)))
    (w3 : PySem.W.nsIn K mainGlobals "KEPT_WORDS" = some (some (.ref kw)))
    (w4 : K.lookup kw = some ⟨.type "tuple", dKW, .seq #[.str "if" tk1, .str "else" tk2, .str "end" tk3] nKW, sKW⟩)
    (w5 : PySem.W.nsIn K mainGlobals "MOST_ARGUMENTS" = some (some (.int 3 tY)))
    (w6 : PySem.W.nsIn K mainGlobals "WAYS" = some (some (.str "+-?" tS)))
    (w7 : PySem.W.nsIn K mainGlobals "STEP_COUNTS" = some (some (.ref dC)))
    (w8 : K.lookup dC = some ⟨.type "dict", none, .dict esC nC, #[]⟩)
    (w9 : PySem.W.KeysLit w.params esC.toList)
    (w10 : (dC == sysModules) = false)
    (w11 : PySem.W.nsIn K dC "up" = some (some (.int 1 tO)))
    (w12 : PySem.W.nsIn K mainGlobals "FITTING_WAYS" = some (some (.ref dF)))
    (w13 : K.lookup dF = some ⟨.type "dict", none, .dict esF nF, #[]⟩)
    (w14 : PySem.W.KeysLit w.params esF.toList)
    (w15 : (dF == sysModules) = false)
    (w16 : PySem.W.nsIn K dF "up" = some (some (.ref tU)))
    (w17 : K.lookup tU = some ⟨.type "tuple", dTU, .seq #[.str "+" tk4] nTU, sTU⟩)
    (wc_up : PySem.W.nsIn K dC "up" = some (some (.int 1 tcup)))
    (wc_down : PySem.W.nsIn K dC "down" = some (some (.int 1 tcdown)))
    (wc_settled : PySem.W.nsIn K dC "settled" = some (some (.int 1 tcsettled)))
    (wc_mean : PySem.W.nsIn K dC "mean" = some (some (.int 1 tcmean)))
    (wc_alike : PySem.W.nsIn K dC "alike" = some (some (.int 1 tcalike)))
    (wc_below : PySem.W.nsIn K dC "below" = some (some (.int 2 tcbelow)))
    (wc_back : PySem.W.nsIn K dC "back" = some (some (.int 2 tcback)))
    (wck : esC.toList.all (fun e => words7.any fun z => e.key.isStr z) = true)
    (wf_up : PySem.W.nsIn K dF "up" = some (some (.ref tFup)))
    (wg_up : K.lookup tFup = some ⟨.type "tuple", dTFup, .seq #[.str "+" tfup0] nTFup, sTFup⟩)
    (wf_down : PySem.W.nsIn K dF "down" = some (some (.ref tFdown)))
    (wg_down : K.lookup tFdown = some ⟨.type "tuple", dTFdown, .seq #[.str "+" tfdown0] nTFdown, sTFdown⟩)
    (wf_settled : PySem.W.nsIn K dF "settled" = some (some (.ref tFsettled)))
    (wg_settled : K.lookup tFsettled = some ⟨.type "tuple", dTFsettled, .seq #[.str "+" tfsettled0] nTFsettled, sTFsettled⟩)
    (wf_mean : PySem.W.nsIn K dF "mean" = some (some (.ref tFmean)))
    (wg_mean : K.lookup tFmean = some ⟨.type "tuple", dTFmean, .seq #[.str "++" tfmean0] nTFmean, sTFmean⟩)
    (wf_alike : PySem.W.nsIn K dF "alike" = some (some (.ref tFalike)))
    (wg_alike : K.lookup tFalike = some ⟨.type "tuple", dTFalike, .seq #[.str "++" tfalike0, .str "--" tfalike1, .str "??" tfalike2] nTFalike, sTFalike⟩)
    (wf_back : PySem.W.nsIn K dF "back" = some (some (.ref tFback)))
    (wg_back : K.lookup tFback = some ⟨.type "tuple", dTFback, .seq #[.str "+" tfback0] nTFback, sTFback⟩)
    (so : PySem.W.specialIn K (.builtin "object.__class__") "__get__" = some (some (.builtin "getset_descriptor.__get__")))
    (tk : PySem.W.takesIn K (.builtin "object.__class__") = some true)
    (gSa : PySem.W.nsIn K mainGlobals "Step" = some (some (.ref gS)))
    (gS1 : PySem.W.plainGet K gS Str.empty = true)
    (gS2 : PySem.W.hasDictIn K gS = true)
    (gS3 : PySem.W.plainOver K gS = true)
    (gS4 : PySem.W.findIn K (.ref gS) "__setattr__" = some (some (.builtin "object.__setattr__")))
    (gS5 : PySem.W.findIn K (.ref gS) "__class__" = some (some (.builtin "object.__class__")))
    (gS6 : PySem.W.mroIn K gS (.type "object") = some true)
    (gSk0 : PySem.W.kitOne K (.ref gS) (.type "tuple") = some false)
    (gSk1 : PySem.W.kitOne K (.ref gS) (.type "list") = some false)
    (gSk2 : PySem.W.kitOne K (.ref gS) (.type "bool") = some false)
    (gSk3 : PySem.W.kitOne K (.ref gS) (.type "str") = some false)
    (gS7 : PySem.W.makesIn K gS = true)
    (gS8 : PySem.W.keepIn K (.ref gS) = true)
    (aiS : PySem.W.findIn K (.ref gS) "__init__" = some (some (.ref fiS)))
    (niS : PySem.W.isFn K (.ref fiS) = true)
    (liS : K.lookup fiS = some ⟨ociS, odiS, .func (PySem.W.fnOf "__init__" "Step.__init__" (defArgs sStepInit) (defBody sStepInit) (defScope sStepInit) .none kViS dciS pmiS aniS cdiS ctiS), sliS⟩)
    (ciS : PySem.W.codeIn K cdiS "Step.__init__" = true)
    (kiS : PySem.W.keepIn K (.ref fiS) = true)
    (aqS : PySem.W.findIn K (.ref gS) "__eq__" = some (some (.ref fqS)))
    (nqS : PySem.W.isFn K (.ref fqS) = true)
    (lqS : K.lookup fqS = some ⟨ocqS, odqS, .func (PySem.W.fnOf "__eq__" "Step.__eq__" (defArgs sStepEq) (defBody sStepEq) (defScope sStepEq) .none kVqS dcqS pmqS anqS cdqS ctqS), slqS⟩)
    (cqS : PySem.W.codeIn K cdqS "Step.__eq__" = true)
    (kqS : PySem.W.keepIn K (.ref fqS) = true)
    (gS_name : PySem.W.findIn K (.ref gS) "name" = some none)
    (gS_ways : PySem.W.findIn K (.ref gS) "ways" = some none)
    (gEa : PySem.W.nsIn K mainGlobals "Expr" = some (some (.ref gE)))
    (gE1 : PySem.W.plainGet K gE Str.empty = true)
    (gE2 : PySem.W.hasDictIn K gE = true)
    (gE3 : PySem.W.plainOver K gE = true)
    (gE4 : PySem.W.findIn K (.ref gE) "__setattr__" = some (some (.builtin "object.__setattr__")))
    (gE5 : PySem.W.findIn K (.ref gE) "__class__" = some (some (.builtin "object.__class__")))
    (gE6 : PySem.W.mroIn K gE (.type "object") = some true)
    (gEk0 : PySem.W.kitOne K (.ref gE) (.type "tuple") = some false)
    (gEk1 : PySem.W.kitOne K (.ref gE) (.type "list") = some false)
    (gEk2 : PySem.W.kitOne K (.ref gE) (.type "bool") = some false)
    (gEk3 : PySem.W.kitOne K (.ref gE) (.type "str") = some false)
    (gE7 : PySem.W.makesIn K gE = true)
    (gE8 : PySem.W.keepIn K (.ref gE) = true)
    (aiE : PySem.W.findIn K (.ref gE) "__init__" = some (some (.ref fiE)))
    (niE : PySem.W.isFn K (.ref fiE) = true)
    (liE : K.lookup fiE = some ⟨ociE, odiE, .func (PySem.W.fnOf "__init__" "Expr.__init__" (defArgs sExprInit) (defBody sExprInit) (defScope sExprInit) .none kViE dciE pmiE aniE cdiE ctiE), sliE⟩)
    (ciE : PySem.W.codeIn K cdiE "Expr.__init__" = true)
    (kiE : PySem.W.keepIn K (.ref fiE) = true)
    (aqE : PySem.W.findIn K (.ref gE) "__eq__" = some (some (.ref fqE)))
    (nqE : PySem.W.isFn K (.ref fqE) = true)
    (lqE : K.lookup fqE = some ⟨ocqE, odqE, .func (PySem.W.fnOf "__eq__" "Expr.__eq__" (defArgs sExprEq) (defBody sExprEq) (defScope sExprEq) .none kVqE dcqE pmqE anqE cdqE ctqE), slqE⟩)
    (cqE : PySem.W.codeIn K cdqE "Expr.__eq__" = true)
    (kqE : PySem.W.keepIn K (.ref fqE) = true)
    (gE_kind : PySem.W.findIn K (.ref gE) "kind" = some none)
    (gE_word : PySem.W.findIn K (.ref gE) "word" = some none)
    (gE_step : PySem.W.findIn K (.ref gE) "step" = some none)
    (gE_parts : PySem.W.findIn K (.ref gE) "parts" = some none)
    (gE_names : PySem.W.findIn K (.ref gE) "names" = some none)
    (gE_steps : PySem.W.findIn K (.ref gE) "steps" = some none)
    (gE_size : PySem.W.findIn K (.ref gE) "size" = some none)
    (gE_applied : PySem.W.findIn K (.ref gE) "applied" = some none)
    (gTa : PySem.W.nsIn K mainGlobals "Trait" = some (some (.ref gT)))
    (gT1 : PySem.W.plainGet K gT Str.empty = true)
    (gT2 : PySem.W.hasDictIn K gT = true)
    (gT3 : PySem.W.plainOver K gT = true)
    (gT4 : PySem.W.findIn K (.ref gT) "__setattr__" = some (some (.builtin "object.__setattr__")))
    (gT5 : PySem.W.findIn K (.ref gT) "__class__" = some (some (.builtin "object.__class__")))
    (gT6 : PySem.W.mroIn K gT (.type "object") = some true)
    (gTk0 : PySem.W.kitOne K (.ref gT) (.type "tuple") = some false)
    (gTk1 : PySem.W.kitOne K (.ref gT) (.type "list") = some false)
    (gTk2 : PySem.W.kitOne K (.ref gT) (.type "bool") = some false)
    (gTk3 : PySem.W.kitOne K (.ref gT) (.type "str") = some false)
    (gT7 : PySem.W.makesIn K gT = true)
    (gT8 : PySem.W.keepIn K (.ref gT) = true)
    (aiT : PySem.W.findIn K (.ref gT) "__init__" = some (some (.ref fiT)))
    (niT : PySem.W.isFn K (.ref fiT) = true)
    (liT : K.lookup fiT = some ⟨ociT, odiT, .func (PySem.W.fnOf "__init__" "Trait.__init__" (defArgs sTraitInit) (defBody sTraitInit) (defScope sTraitInit) .none kViT dciT pmiT aniT cdiT ctiT), sliT⟩)
    (ciT : PySem.W.codeIn K cdiT "Trait.__init__" = true)
    (kiT : PySem.W.keepIn K (.ref fiT) = true)
    (aqT : PySem.W.findIn K (.ref gT) "__eq__" = some (some (.ref fqT)))
    (nqT : PySem.W.isFn K (.ref fqT) = true)
    (lqT : K.lookup fqT = some ⟨ocqT, odqT, .func (PySem.W.fnOf "__eq__" "Trait.__eq__" (defArgs sTraitEq) (defBody sTraitEq) (defScope sTraitEq) .none kVqT dcqT pmqT anqT cdqT ctqT), slqT⟩)
    (cqT : PySem.W.codeIn K cdqT "Trait.__eq__" = true)
    (kqT : PySem.W.keepIn K (.ref fqT) = true)
    (gT_word : PySem.W.findIn K (.ref gT) "word" = some none)
    (gT_steps : PySem.W.findIn K (.ref gT) "steps" = some none)
    (gCa : PySem.W.nsIn K mainGlobals "Chain" = some (some (.ref gC)))
    (gC1 : PySem.W.plainGet K gC Str.empty = true)
    (gC2 : PySem.W.hasDictIn K gC = true)
    (gC3 : PySem.W.plainOver K gC = true)
    (gC4 : PySem.W.findIn K (.ref gC) "__setattr__" = some (some (.builtin "object.__setattr__")))
    (gC5 : PySem.W.findIn K (.ref gC) "__class__" = some (some (.builtin "object.__class__")))
    (gC6 : PySem.W.mroIn K gC (.type "object") = some true)
    (gCk0 : PySem.W.kitOne K (.ref gC) (.type "tuple") = some false)
    (gCk1 : PySem.W.kitOne K (.ref gC) (.type "list") = some false)
    (gCk2 : PySem.W.kitOne K (.ref gC) (.type "bool") = some false)
    (gCk3 : PySem.W.kitOne K (.ref gC) (.type "str") = some false)
    (gC7 : PySem.W.makesIn K gC = true)
    (gC8 : PySem.W.keepIn K (.ref gC) = true)
    (aiC : PySem.W.findIn K (.ref gC) "__init__" = some (some (.ref fiC)))
    (niC : PySem.W.isFn K (.ref fiC) = true)
    (liC : K.lookup fiC = some ⟨ociC, odiC, .func (PySem.W.fnOf "__init__" "Chain.__init__" (defArgs sChainInit) (defBody sChainInit) (defScope sChainInit) .none kViC dciC pmiC aniC cdiC ctiC), sliC⟩)
    (ciC : PySem.W.codeIn K cdiC "Chain.__init__" = true)
    (kiC : PySem.W.keepIn K (.ref fiC) = true)
    (aqC : PySem.W.findIn K (.ref gC) "__eq__" = some (some (.ref fqC)))
    (nqC : PySem.W.isFn K (.ref fqC) = true)
    (lqC : K.lookup fqC = some ⟨ocqC, odqC, .func (PySem.W.fnOf "__eq__" "Chain.__eq__" (defArgs sChainEq) (defBody sChainEq) (defScope sChainEq) .none kVqC dcqC pmqC anqC cdqC ctqC), slqC⟩)
    (cqC : PySem.W.codeIn K cdqC "Chain.__eq__" = true)
    (kqC : PySem.W.keepIn K (.ref fqC) = true)
    (gC_steps : PySem.W.findIn K (.ref gC) "steps" = some none)
    (alS : PySem.W.findIn K (.ref gS) "__len__" = some (some (.ref flS)))
    (nlS : PySem.W.isFn K (.ref flS) = true)
    (llS : K.lookup flS = some ⟨oclS, odlS, .func (PySem.W.fnOf "__len__" "Step.__len__" (defArgs sStepLen) (defBody sStepLen) (defScope sStepLen) .none kVlS dclS pmlS anlS cdlS ctlS), sllS⟩)
    (clS : PySem.W.codeIn K cdlS "Step.__len__" = true)
    (klS : PySem.W.keepIn K (.ref flS) = true)
    (neS : PySem.W.findIn K (.ref gS) "__ne__" = some (some (.builtin "object.__ne__")))
    (atT : PySem.W.findIn K (.ref gT) "__str__" = some (some (.ref ftT)))
    (ntT : PySem.W.isFn K (.ref ftT) = true)
    (ltT : K.lookup ftT = some ⟨octT, odtT, .func (PySem.W.fnOf "__str__" "Trait.__str__" (defArgs sTraitStr) (defBody sTraitStr) (defScope sTraitStr) .none kVtT dctT pmtT antT cdtT cttT), sltT⟩)
    (ctT : PySem.W.codeIn K cdtT "Trait.__str__" = true)
    (ktT : PySem.W.keepIn K (.ref ftT) = true)
    (neT : PySem.W.findIn K (.ref gT) "__ne__" = some (some (.builtin "object.__ne__")))
    (kTt : PySem.W.kitOne K (.type "tuple") (.ref gT) = some false)
    (knS : PySem.W.kitOne K (.type "str") (.ref gS) = some false)
    (knE : PySem.W.kitOne K (.type "str") (.ref gE) = some false)
    (knT : PySem.W.kitOne K (.type "str") (.ref gT) = some false)
    (knC : PySem.W.kitOne K (.type "str") (.ref gC) = some false)
    (kon : PySem.W.kitOne K (.type "NoneType") (.ref gS) = some false)
    (kob : PySem.W.kitOne K (.type "bool") (.ref gS) = some false)
    (koi : PySem.W.kitOne K (.type "int") (.ref gS) = some false)
    (kol : PySem.W.kitOne K (.type "list") (.ref gS) = some false)
    (kot : PySem.W.kitOne K (.type "tuple") (.ref gS) = some false)
    (kcE : PySem.W.kitOne K (.ref gE) (.ref gS) = some false)
    (kcT : PySem.W.kitOne K (.ref gT) (.ref gS) = some false)
    (kcC : PySem.W.kitOne K (.ref gC) (.ref gS) = some false)
    (gx0a : PySem.W.nsIn K mainGlobals "InvalidStep" = some (some (.ref gx0)))
    (gx0_c : K.lookup gx0 = some (excClassObj nmx0 qx0 gx0 Nx0 bsx0 bmx0 true snx0 subx0 abx0 colx0 ddx0 z0x0 z1x0 z2x0 z3x0 z5x0 "ValueError.__new__"))
    (gx0_r : PySem.HandSPX.refsVE bmx0 = true)
    (gx0_1 : PySem.W.findIn K (.ref gx0) "__setattr__" = some (some (.builtin "object.__setattr__")))
    (gx0_2 : PySem.W.subIn K (.ref gx0) (.type "BaseException") = some true)
    (gx0_3 : PySem.W.typeIn K (.ref gx0) = some (.type "type"))
    (gx0_4 : PySem.W.keepIn K (.ref gx0) = true)
    (gx0_5 : PySem.W.findIn K (.ref gx0) "__getattribute__" = some (some (.builtin "BaseException.__getattribute__")))
    (gx0_6 : PySem.W.findIn K (.ref gx0) "__getattr__" = some none)
    (gx0_7 : PySem.W.hasDictIn K gx0 = true)
    (gx0_8 : PySem.W.findIn K (.ref gx0) "__class__" = some (some (.builtin "object.__class__")))
    (gx0_9 : PySem.W.mroIn K gx0 (.type "object") = some true)
    (ax0 : PySem.W.findIn K (.ref gx0) "__init__" = some (some (.ref fx0)))
    (tx0 : PySem.W.typeIn K (.ref fx0) = some (.type "function"))
    (lx0 : K.lookup fx0 = some ⟨ocx0, odx0, .func (PySem.W.fnOf "__init__" "InvalidStep.__init__" (defArgs (eS 0)) (defBody (eS 0)) (defScope (eS 0)) .none kVx0 dcx0 pmx0 anx0 cdx0 ctx0), slx0⟩)
    (cx0 : PySem.W.codeIn K cdx0 "InvalidStep.__init__" = true)
    (kx0 : PySem.W.keepIn K (.ref fx0) = true)
    (nx0 : PySem.W.findIn K (.ref gx0) "word" = some none)
    (gx1a : PySem.W.nsIn K mainGlobals "InvalidTrait" = some (some (.ref gx1)))
    (gx1_c : K.lookup gx1 = some (excClassObj nmx1 qx1 gx1 Nx1 bsx1 bmx1 true snx1 subx1 abx1 colx1 ddx1 z0x1 z1x1 z2x1 z3x1 z5x1 "ValueError.__new__"))
    (gx1_r : PySem.HandSPX.refsVE bmx1 = true)
    (gx1_1 : PySem.W.findIn K (.ref gx1) "__setattr__" = some (some (.builtin "object.__setattr__")))
    (gx1_2 : PySem.W.subIn K (.ref gx1) (.type "BaseException") = some true)
    (gx1_3 : PySem.W.typeIn K (.ref gx1) = some (.type "type"))
    (gx1_4 : PySem.W.keepIn K (.ref gx1) = true)
    (gx1_5 : PySem.W.findIn K (.ref gx1) "__getattribute__" = some (some (.builtin "BaseException.__getattribute__")))
    (gx1_6 : PySem.W.findIn K (.ref gx1) "__getattr__" = some none)
    (gx1_7 : PySem.W.hasDictIn K gx1 = true)
    (gx1_8 : PySem.W.findIn K (.ref gx1) "__class__" = some (some (.builtin "object.__class__")))
    (gx1_9 : PySem.W.mroIn K gx1 (.type "object") = some true)
    (ax1 : PySem.W.findIn K (.ref gx1) "__init__" = some (some (.ref fx1)))
    (tx1 : PySem.W.typeIn K (.ref fx1) = some (.type "function"))
    (lx1 : K.lookup fx1 = some ⟨ocx1, odx1, .func (PySem.W.fnOf "__init__" "InvalidTrait.__init__" (defArgs (eS 1)) (defBody (eS 1)) (defScope (eS 1)) .none kVx1 dcx1 pmx1 anx1 cdx1 ctx1), slx1⟩)
    (cx1 : PySem.W.codeIn K cdx1 "InvalidTrait.__init__" = true)
    (kx1 : PySem.W.keepIn K (.ref fx1) = true)
    (nx1 : PySem.W.findIn K (.ref gx1) "word" = some none)
    (gx2a : PySem.W.nsIn K mainGlobals "InvalidExpr" = some (some (.ref gx2)))
    (gx2_c : K.lookup gx2 = some (excClassObj nmx2 qx2 gx2 Nx2 bsx2 bmx2 true snx2 subx2 abx2 colx2 ddx2 z0x2 z1x2 z2x2 z3x2 z5x2 "ValueError.__new__"))
    (gx2_r : PySem.HandSPX.refsVE bmx2 = true)
    (gx2_1 : PySem.W.findIn K (.ref gx2) "__setattr__" = some (some (.builtin "object.__setattr__")))
    (gx2_2 : PySem.W.subIn K (.ref gx2) (.type "BaseException") = some true)
    (gx2_3 : PySem.W.typeIn K (.ref gx2) = some (.type "type"))
    (gx2_4 : PySem.W.keepIn K (.ref gx2) = true)
    (gx2_5 : PySem.W.findIn K (.ref gx2) "__getattribute__" = some (some (.builtin "BaseException.__getattribute__")))
    (gx2_6 : PySem.W.findIn K (.ref gx2) "__getattr__" = some none)
    (gx2_7 : PySem.W.hasDictIn K gx2 = true)
    (gx2_8 : PySem.W.findIn K (.ref gx2) "__class__" = some (some (.builtin "object.__class__")))
    (gx2_9 : PySem.W.mroIn K gx2 (.type "object") = some true)
    (ax2 : PySem.W.findIn K (.ref gx2) "__init__" = some (some (.ref fx2)))
    (tx2 : PySem.W.typeIn K (.ref fx2) = some (.type "function"))
    (lx2 : K.lookup fx2 = some ⟨ocx2, odx2, .func (PySem.W.fnOf "__init__" "InvalidExpr.__init__" (defArgs (eS 2)) (defBody (eS 2)) (defScope (eS 2)) .none kVx2 dcx2 pmx2 anx2 cdx2 ctx2), slx2⟩)
    (cx2 : PySem.W.codeIn K cdx2 "InvalidExpr.__init__" = true)
    (kx2 : PySem.W.keepIn K (.ref fx2) = true)
    (nx2 : PySem.W.findIn K (.ref gx2) "word" = some none)
    (gx3a : PySem.W.nsIn K mainGlobals "InvalidRow" = some (some (.ref gx3)))
    (gx3_c : K.lookup gx3 = some (excClassObj nmx3 qx3 gx3 Nx3 bsx3 bmx3 true snx3 subx3 abx3 colx3 ddx3 z0x3 z1x3 z2x3 z3x3 z5x3 "ValueError.__new__"))
    (gx3_r : PySem.HandSPX.refsVE bmx3 = true)
    (gx3_1 : PySem.W.findIn K (.ref gx3) "__setattr__" = some (some (.builtin "object.__setattr__")))
    (gx3_2 : PySem.W.subIn K (.ref gx3) (.type "BaseException") = some true)
    (gx3_3 : PySem.W.typeIn K (.ref gx3) = some (.type "type"))
    (gx3_4 : PySem.W.keepIn K (.ref gx3) = true)
    (gx3_5 : PySem.W.findIn K (.ref gx3) "__getattribute__" = some (some (.builtin "BaseException.__getattribute__")))
    (gx3_6 : PySem.W.findIn K (.ref gx3) "__getattr__" = some none)
    (gx3_7 : PySem.W.hasDictIn K gx3 = true)
    (gx3_8 : PySem.W.findIn K (.ref gx3) "__class__" = some (some (.builtin "object.__class__")))
    (gx3_9 : PySem.W.mroIn K gx3 (.type "object") = some true)
    (ax3 : PySem.W.findIn K (.ref gx3) "__init__" = some (some (.ref fx3)))
    (tx3 : PySem.W.typeIn K (.ref fx3) = some (.type "function"))
    (lx3 : K.lookup fx3 = some ⟨ocx3, odx3, .func (PySem.W.fnOf "__init__" "InvalidRow.__init__" (defArgs (eS 3)) (defBody (eS 3)) (defScope (eS 3)) .none kVx3 dcx3 pmx3 anx3 cdx3 ctx3), slx3⟩)
    (cx3 : PySem.W.codeIn K cdx3 "InvalidRow.__init__" = true)
    (kx3 : PySem.W.keepIn K (.ref fx3) = true)
    (nx3 : PySem.W.findIn K (.ref gx3) "word" = some none)
    (gx4a : PySem.W.nsIn K mainGlobals "InvalidText" = some (some (.ref gx4)))
    (gx4_c : K.lookup gx4 = some (excClassObj nmx4 qx4 gx4 Nx4 bsx4 bmx4 true snx4 subx4 abx4 colx4 ddx4 z0x4 z1x4 z2x4 z3x4 z5x4 "ValueError.__new__"))
    (gx4_r : PySem.HandSPX.refsVE bmx4 = true)
    (gx4_1 : PySem.W.findIn K (.ref gx4) "__setattr__" = some (some (.builtin "object.__setattr__")))
    (gx4_2 : PySem.W.subIn K (.ref gx4) (.type "BaseException") = some true)
    (gx4_3 : PySem.W.typeIn K (.ref gx4) = some (.type "type"))
    (gx4_4 : PySem.W.keepIn K (.ref gx4) = true)
    (gx4_5 : PySem.W.findIn K (.ref gx4) "__getattribute__" = some (some (.builtin "BaseException.__getattribute__")))
    (gx4_6 : PySem.W.findIn K (.ref gx4) "__getattr__" = some none)
    (gx4_7 : PySem.W.hasDictIn K gx4 = true)
    (gx4_8 : PySem.W.findIn K (.ref gx4) "__class__" = some (some (.builtin "object.__class__")))
    (gx4_9 : PySem.W.mroIn K gx4 (.type "object") = some true)
    (ax4 : PySem.W.findIn K (.ref gx4) "__init__" = some (some (.ref fx4)))
    (tx4 : PySem.W.typeIn K (.ref fx4) = some (.type "function"))
    (lx4 : K.lookup fx4 = some ⟨ocx4, odx4, .func (PySem.W.fnOf "__init__" "InvalidText.__init__" (defArgs (eS 4)) (defBody (eS 4)) (defScope (eS 4)) .none kVx4 dcx4 pmx4 anx4 cdx4 ctx4), slx4⟩)
    (cx4 : PySem.W.codeIn K cdx4 "InvalidText.__init__" = true)
    (kx4 : PySem.W.keepIn K (.ref fx4) = true)
    (nx4 : PySem.W.findIn K (.ref gx4) "at" = some none)
    (gx5a : PySem.W.nsIn K mainGlobals "InvalidWorld" = some (some (.ref gx5)))
    (gx5_c : K.lookup gx5 = some (excClassObj nmx5 qx5 gx5 Nx5 bsx5 bmx5 true snx5 subx5 abx5 colx5 ddx5 z0x5 z1x5 z2x5 z3x5 z5x5 "ValueError.__new__"))
    (gx5_r : PySem.HandSPX.refsVE bmx5 = true)
    (gx5_1 : PySem.W.findIn K (.ref gx5) "__setattr__" = some (some (.builtin "object.__setattr__")))
    (gx5_2 : PySem.W.subIn K (.ref gx5) (.type "BaseException") = some true)
    (gx5_3 : PySem.W.typeIn K (.ref gx5) = some (.type "type"))
    (gx5_4 : PySem.W.keepIn K (.ref gx5) = true)
    (gx5_5 : PySem.W.findIn K (.ref gx5) "__getattribute__" = some (some (.builtin "BaseException.__getattribute__")))
    (gx5_6 : PySem.W.findIn K (.ref gx5) "__getattr__" = some none)
    (gx5_7 : PySem.W.hasDictIn K gx5 = true)
    (gx5_8 : PySem.W.findIn K (.ref gx5) "__class__" = some (some (.builtin "object.__class__")))
    (gx5_9 : PySem.W.mroIn K gx5 (.type "object") = some true)
    (ax5 : PySem.W.findIn K (.ref gx5) "__init__" = some (some (.ref fx5)))
    (tx5 : PySem.W.typeIn K (.ref fx5) = some (.type "function"))
    (lx5 : K.lookup fx5 = some ⟨ocx5, odx5, .func (PySem.W.fnOf "__init__" "InvalidWorld.__init__" (defArgs (eS 5)) (defBody (eS 5)) (defScope (eS 5)) .none kVx5 dcx5 pmx5 anx5 cdx5 ctx5), slx5⟩)
    (cx5 : PySem.W.codeIn K cdx5 "InvalidWorld.__init__" = true)
    (kx5 : PySem.W.keepIn K (.ref fx5) = true)
    (nx5 : PySem.W.findIn K (.ref gx5) "word" = some none)
    (gx6a : PySem.W.nsIn K mainGlobals "InvalidStart" = some (some (.ref gx6)))
    (gx6_c : K.lookup gx6 = some (excClassObj nmx6 qx6 gx6 Nx6 bsx6 bmx6 true snx6 subx6 abx6 colx6 ddx6 z0x6 z1x6 z2x6 z3x6 z5x6 "ValueError.__new__"))
    (gx6_r : PySem.HandSPX.refsVE bmx6 = true)
    (gx6_1 : PySem.W.findIn K (.ref gx6) "__setattr__" = some (some (.builtin "object.__setattr__")))
    (gx6_2 : PySem.W.subIn K (.ref gx6) (.type "BaseException") = some true)
    (gx6_3 : PySem.W.typeIn K (.ref gx6) = some (.type "type"))
    (gx6_4 : PySem.W.keepIn K (.ref gx6) = true)
    (gx6_5 : PySem.W.findIn K (.ref gx6) "__getattribute__" = some (some (.builtin "BaseException.__getattribute__")))
    (gx6_6 : PySem.W.findIn K (.ref gx6) "__getattr__" = some none)
    (gx6_7 : PySem.W.hasDictIn K gx6 = true)
    (gx6_8 : PySem.W.findIn K (.ref gx6) "__class__" = some (some (.builtin "object.__class__")))
    (gx6_9 : PySem.W.mroIn K gx6 (.type "object") = some true)
    (ax6 : PySem.W.findIn K (.ref gx6) "__init__" = some (some (.ref fx6)))
    (tx6 : PySem.W.typeIn K (.ref fx6) = some (.type "function"))
    (lx6 : K.lookup fx6 = some ⟨ocx6, odx6, .func (PySem.W.fnOf "__init__" "InvalidStart.__init__" (defArgs (eS 6)) (defBody (eS 6)) (defScope (eS 6)) .none kVx6 dcx6 pmx6 anx6 cdx6 ctx6), slx6⟩)
    (cx6 : PySem.W.codeIn K cdx6 "InvalidStart.__init__" = true)
    (kx6 : PySem.W.keepIn K (.ref fx6) = true)
    (nx6 : PySem.W.findIn K (.ref gx6) "name" = some none)
    (gx7a : PySem.W.nsIn K mainGlobals "InvalidClaim" = some (some (.ref gx7)))
    (gx7_c : K.lookup gx7 = some (excClassObj nmx7 qx7 gx7 Nx7 bsx7 bmx7 true snx7 subx7 abx7 colx7 ddx7 z0x7 z1x7 z2x7 z3x7 z5x7 "ValueError.__new__"))
    (gx7_r : PySem.HandSPX.refsVE bmx7 = true)
    (gx7_1 : PySem.W.findIn K (.ref gx7) "__setattr__" = some (some (.builtin "object.__setattr__")))
    (gx7_2 : PySem.W.subIn K (.ref gx7) (.type "BaseException") = some true)
    (gx7_3 : PySem.W.typeIn K (.ref gx7) = some (.type "type"))
    (gx7_4 : PySem.W.keepIn K (.ref gx7) = true)
    (gx7_5 : PySem.W.findIn K (.ref gx7) "__getattribute__" = some (some (.builtin "BaseException.__getattribute__")))
    (gx7_6 : PySem.W.findIn K (.ref gx7) "__getattr__" = some none)
    (gx7_7 : PySem.W.hasDictIn K gx7 = true)
    (gx7_8 : PySem.W.findIn K (.ref gx7) "__class__" = some (some (.builtin "object.__class__")))
    (gx7_9 : PySem.W.mroIn K gx7 (.type "object") = some true)
    (ax7 : PySem.W.findIn K (.ref gx7) "__init__" = some (some (.ref fx7)))
    (tx7 : PySem.W.typeIn K (.ref fx7) = some (.type "function"))
    (lx7 : K.lookup fx7 = some ⟨ocx7, odx7, .func (PySem.W.fnOf "__init__" "InvalidClaim.__init__" (defArgs (eS 7)) (defBody (eS 7)) (defScope (eS 7)) .none kVx7 dcx7 pmx7 anx7 cdx7 ctx7), slx7⟩)
    (cx7 : PySem.W.codeIn K cdx7 "InvalidClaim.__init__" = true)
    (kx7 : PySem.W.keepIn K (.ref fx7) = true)
    (nx7 : PySem.W.findIn K (.ref gx7) "word" = some none)
    (gx8a : PySem.W.nsIn K mainGlobals "NoName" = some (some (.ref gx8)))
    (gx8_c : K.lookup gx8 = some (excClassObj nmx8 qx8 gx8 Nx8 bsx8 bmx8 true snx8 subx8 abx8 colx8 ddx8 z0x8 z1x8 z2x8 z3x8 z5x8 "ValueError.__new__"))
    (gx8_r : PySem.HandSPX.refsVE bmx8 = true)
    (gx8_1 : PySem.W.findIn K (.ref gx8) "__setattr__" = some (some (.builtin "object.__setattr__")))
    (gx8_2 : PySem.W.subIn K (.ref gx8) (.type "BaseException") = some true)
    (gx8_3 : PySem.W.typeIn K (.ref gx8) = some (.type "type"))
    (gx8_4 : PySem.W.keepIn K (.ref gx8) = true)
    (gx8_5 : PySem.W.findIn K (.ref gx8) "__getattribute__" = some (some (.builtin "BaseException.__getattribute__")))
    (gx8_6 : PySem.W.findIn K (.ref gx8) "__getattr__" = some none)
    (gx8_7 : PySem.W.hasDictIn K gx8 = true)
    (gx8_8 : PySem.W.findIn K (.ref gx8) "__class__" = some (some (.builtin "object.__class__")))
    (gx8_9 : PySem.W.mroIn K gx8 (.type "object") = some true)
    (ax8 : PySem.W.findIn K (.ref gx8) "__init__" = some (some (.ref fx8)))
    (tx8 : PySem.W.typeIn K (.ref fx8) = some (.type "function"))
    (lx8 : K.lookup fx8 = some ⟨ocx8, odx8, .func (PySem.W.fnOf "__init__" "NoName.__init__" (defArgs (eS 8)) (defBody (eS 8)) (defScope (eS 8)) .none kVx8 dcx8 pmx8 anx8 cdx8 ctx8), slx8⟩)
    (cx8 : PySem.W.codeIn K cdx8 "NoName.__init__" = true)
    (kx8 : PySem.W.keepIn K (.ref fx8) = true)
    (nx8 : PySem.W.findIn K (.ref gx8) "name" = some none)
    (gx9a : PySem.W.nsIn K mainGlobals "NoStep" = some (some (.ref gx9)))
    (gx9_c : K.lookup gx9 = some (excClassObj nmx9 qx9 gx9 Nx9 bsx9 bmx9 true snx9 subx9 abx9 colx9 ddx9 z0x9 z1x9 z2x9 z3x9 z5x9 "ValueError.__new__"))
    (gx9_r : PySem.HandSPX.refsVE bmx9 = true)
    (gx9_1 : PySem.W.findIn K (.ref gx9) "__setattr__" = some (some (.builtin "object.__setattr__")))
    (gx9_2 : PySem.W.subIn K (.ref gx9) (.type "BaseException") = some true)
    (gx9_3 : PySem.W.typeIn K (.ref gx9) = some (.type "type"))
    (gx9_4 : PySem.W.keepIn K (.ref gx9) = true)
    (gx9_5 : PySem.W.findIn K (.ref gx9) "__getattribute__" = some (some (.builtin "BaseException.__getattribute__")))
    (gx9_6 : PySem.W.findIn K (.ref gx9) "__getattr__" = some none)
    (gx9_7 : PySem.W.hasDictIn K gx9 = true)
    (gx9_8 : PySem.W.findIn K (.ref gx9) "__class__" = some (some (.builtin "object.__class__")))
    (gx9_9 : PySem.W.mroIn K gx9 (.type "object") = some true)
    (ax9 : PySem.W.findIn K (.ref gx9) "__init__" = some (some (.ref fx9)))
    (tx9 : PySem.W.typeIn K (.ref fx9) = some (.type "function"))
    (lx9 : K.lookup fx9 = some ⟨ocx9, odx9, .func (PySem.W.fnOf "__init__" "NoStep.__init__" (defArgs (eS 9)) (defBody (eS 9)) (defScope (eS 9)) .none kVx9 dcx9 pmx9 anx9 cdx9 ctx9), slx9⟩)
    (cx9 : PySem.W.codeIn K cdx9 "NoStep.__init__" = true)
    (kx9 : PySem.W.keepIn K (.ref fx9) = true)
    (nx9 : PySem.W.findIn K (.ref gx9) "name" = some none)
    (gx10a : PySem.W.nsIn K mainGlobals "NoRow" = some (some (.ref gx10)))
    (gx10_c : K.lookup gx10 = some (excClassObj nmx10 qx10 gx10 Nx10 bsx10 bmx10 true snx10 subx10 abx10 colx10 ddx10 z0x10 z1x10 z2x10 z3x10 z5x10 "ValueError.__new__"))
    (gx10_r : PySem.HandSPX.refsVE bmx10 = true)
    (gx10_1 : PySem.W.findIn K (.ref gx10) "__setattr__" = some (some (.builtin "object.__setattr__")))
    (gx10_2 : PySem.W.subIn K (.ref gx10) (.type "BaseException") = some true)
    (gx10_3 : PySem.W.typeIn K (.ref gx10) = some (.type "type"))
    (gx10_4 : PySem.W.keepIn K (.ref gx10) = true)
    (gx10_5 : PySem.W.findIn K (.ref gx10) "__getattribute__" = some (some (.builtin "BaseException.__getattribute__")))
    (gx10_6 : PySem.W.findIn K (.ref gx10) "__getattr__" = some none)
    (gx10_7 : PySem.W.hasDictIn K gx10 = true)
    (gx10_8 : PySem.W.findIn K (.ref gx10) "__class__" = some (some (.builtin "object.__class__")))
    (gx10_9 : PySem.W.mroIn K gx10 (.type "object") = some true)
    (ax10 : PySem.W.findIn K (.ref gx10) "__init__" = some (some (.ref fx10)))
    (tx10 : PySem.W.typeIn K (.ref fx10) = some (.type "function"))
    (lx10 : K.lookup fx10 = some ⟨ocx10, odx10, .func (PySem.W.fnOf "__init__" "NoRow.__init__" (defArgs (eS 10)) (defBody (eS 10)) (defScope (eS 10)) .none kVx10 dcx10 pmx10 anx10 cdx10 ctx10), slx10⟩)
    (cx10 : PySem.W.codeIn K cdx10 "NoRow.__init__" = true)
    (kx10 : PySem.W.keepIn K (.ref fx10) = true)
    (nx10 : PySem.W.findIn K (.ref gx10) "at" = some none)
    (gx11a : PySem.W.nsIn K mainGlobals "Impossible" = some (some (.ref gx11)))
    (gx11_c : K.lookup gx11 = some (excClassObj nmx11 qx11 gx11 Nx11 bsx11 bmx11 true snx11 subx11 abx11 colx11 ddx11 z0x11 z1x11 z2x11 z3x11 z5x11 "ValueError.__new__"))
    (gx11_r : PySem.HandSPX.refsVE bmx11 = true)
    (gx11_1 : PySem.W.findIn K (.ref gx11) "__setattr__" = some (some (.builtin "object.__setattr__")))
    (gx11_2 : PySem.W.subIn K (.ref gx11) (.type "BaseException") = some true)
    (gx11_3 : PySem.W.typeIn K (.ref gx11) = some (.type "type"))
    (gx11_4 : PySem.W.keepIn K (.ref gx11) = true)
    (gx11_5 : PySem.W.findIn K (.ref gx11) "__getattribute__" = some (some (.builtin "BaseException.__getattribute__")))
    (gx11_6 : PySem.W.findIn K (.ref gx11) "__getattr__" = some none)
    (gx11_7 : PySem.W.hasDictIn K gx11 = true)
    (gx11_8 : PySem.W.findIn K (.ref gx11) "__class__" = some (some (.builtin "object.__class__")))
    (gx11_9 : PySem.W.mroIn K gx11 (.type "object") = some true)
    (ax11 : PySem.W.findIn K (.ref gx11) "__init__" = some (some (.builtin "ValueError.__init__")))
    (gx12a : PySem.W.nsIn K mainGlobals "WaysError" = some (some (.ref gx12)))
    (gx12_c : K.lookup gx12 = some (excClassObj nmx12 qx12 gx12 Nx12 bsx12 bmx12 true snx12 subx12 abx12 colx12 ddx12 z0x12 z1x12 z2x12 z3x12 z5x12 "ValueError.__new__"))
    (gx12_r : PySem.HandSPX.refsVE bmx12 = true)
    (gx12_1 : PySem.W.findIn K (.ref gx12) "__setattr__" = some (some (.builtin "object.__setattr__")))
    (gx12_2 : PySem.W.subIn K (.ref gx12) (.type "BaseException") = some true)
    (gx12_3 : PySem.W.typeIn K (.ref gx12) = some (.type "type"))
    (gx12_4 : PySem.W.keepIn K (.ref gx12) = true)
    (gx12_5 : PySem.W.findIn K (.ref gx12) "__getattribute__" = some (some (.builtin "BaseException.__getattribute__")))
    (gx12_6 : PySem.W.findIn K (.ref gx12) "__getattr__" = some none)
    (gx12_7 : PySem.W.hasDictIn K gx12 = true)
    (gx12_8 : PySem.W.findIn K (.ref gx12) "__class__" = some (some (.builtin "object.__class__")))
    (gx12_9 : PySem.W.mroIn K gx12 (.type "object") = some true)
    (ax12 : PySem.W.findIn K (.ref gx12) "__init__" = some (some (.builtin "ValueError.__init__")))
    (y0_0 : PySem.W.kitOne K (.ref gx0) (.ref gx0) = some true)
    (y0_1 : PySem.W.kitOne K (.ref gx0) (.ref gx1) = some false)
    (y0_2 : PySem.W.kitOne K (.ref gx0) (.ref gx2) = some false)
    (y0_3 : PySem.W.kitOne K (.ref gx0) (.ref gx3) = some false)
    (y0_4 : PySem.W.kitOne K (.ref gx0) (.ref gx4) = some false)
    (y0_5 : PySem.W.kitOne K (.ref gx0) (.ref gx5) = some false)
    (y0_6 : PySem.W.kitOne K (.ref gx0) (.ref gx6) = some false)
    (y0_7 : PySem.W.kitOne K (.ref gx0) (.ref gx7) = some false)
    (y0_8 : PySem.W.kitOne K (.ref gx0) (.ref gx8) = some false)
    (y0_9 : PySem.W.kitOne K (.ref gx0) (.ref gx9) = some false)
    (y0_10 : PySem.W.kitOne K (.ref gx0) (.ref gx10) = some false)
    (y0_11 : PySem.W.kitOne K (.ref gx0) (.ref gx11) = some false)
    (yb0 : PySem.W.kitOne K (.ref gx12) (.ref gx0) = some false)
    (yv0 : PySem.W.kitOne K (.ref gx0) (.type "ValueError") = some true)
    (yw0 : PySem.W.kitOne K (.ref gx0) (.ref gx12) = some true)
    (y1_0 : PySem.W.kitOne K (.ref gx1) (.ref gx0) = some false)
    (y1_1 : PySem.W.kitOne K (.ref gx1) (.ref gx1) = some true)
    (y1_2 : PySem.W.kitOne K (.ref gx1) (.ref gx2) = some false)
    (y1_3 : PySem.W.kitOne K (.ref gx1) (.ref gx3) = some false)
    (y1_4 : PySem.W.kitOne K (.ref gx1) (.ref gx4) = some false)
    (y1_5 : PySem.W.kitOne K (.ref gx1) (.ref gx5) = some false)
    (y1_6 : PySem.W.kitOne K (.ref gx1) (.ref gx6) = some false)
    (y1_7 : PySem.W.kitOne K (.ref gx1) (.ref gx7) = some false)
    (y1_8 : PySem.W.kitOne K (.ref gx1) (.ref gx8) = some false)
    (y1_9 : PySem.W.kitOne K (.ref gx1) (.ref gx9) = some false)
    (y1_10 : PySem.W.kitOne K (.ref gx1) (.ref gx10) = some false)
    (y1_11 : PySem.W.kitOne K (.ref gx1) (.ref gx11) = some false)
    (yb1 : PySem.W.kitOne K (.ref gx12) (.ref gx1) = some false)
    (yv1 : PySem.W.kitOne K (.ref gx1) (.type "ValueError") = some true)
    (yw1 : PySem.W.kitOne K (.ref gx1) (.ref gx12) = some true)
    (y2_0 : PySem.W.kitOne K (.ref gx2) (.ref gx0) = some false)
    (y2_1 : PySem.W.kitOne K (.ref gx2) (.ref gx1) = some false)
    (y2_2 : PySem.W.kitOne K (.ref gx2) (.ref gx2) = some true)
    (y2_3 : PySem.W.kitOne K (.ref gx2) (.ref gx3) = some false)
    (y2_4 : PySem.W.kitOne K (.ref gx2) (.ref gx4) = some false)
    (y2_5 : PySem.W.kitOne K (.ref gx2) (.ref gx5) = some false)
    (y2_6 : PySem.W.kitOne K (.ref gx2) (.ref gx6) = some false)
    (y2_7 : PySem.W.kitOne K (.ref gx2) (.ref gx7) = some false)
    (y2_8 : PySem.W.kitOne K (.ref gx2) (.ref gx8) = some false)
    (y2_9 : PySem.W.kitOne K (.ref gx2) (.ref gx9) = some false)
    (y2_10 : PySem.W.kitOne K (.ref gx2) (.ref gx10) = some false)
    (y2_11 : PySem.W.kitOne K (.ref gx2) (.ref gx11) = some false)
    (yb2 : PySem.W.kitOne K (.ref gx12) (.ref gx2) = some false)
    (yv2 : PySem.W.kitOne K (.ref gx2) (.type "ValueError") = some true)
    (yw2 : PySem.W.kitOne K (.ref gx2) (.ref gx12) = some true)
    (y3_0 : PySem.W.kitOne K (.ref gx3) (.ref gx0) = some false)
    (y3_1 : PySem.W.kitOne K (.ref gx3) (.ref gx1) = some false)
    (y3_2 : PySem.W.kitOne K (.ref gx3) (.ref gx2) = some false)
    (y3_3 : PySem.W.kitOne K (.ref gx3) (.ref gx3) = some true)
    (y3_4 : PySem.W.kitOne K (.ref gx3) (.ref gx4) = some false)
    (y3_5 : PySem.W.kitOne K (.ref gx3) (.ref gx5) = some false)
    (y3_6 : PySem.W.kitOne K (.ref gx3) (.ref gx6) = some false)
    (y3_7 : PySem.W.kitOne K (.ref gx3) (.ref gx7) = some false)
    (y3_8 : PySem.W.kitOne K (.ref gx3) (.ref gx8) = some false)
    (y3_9 : PySem.W.kitOne K (.ref gx3) (.ref gx9) = some false)
    (y3_10 : PySem.W.kitOne K (.ref gx3) (.ref gx10) = some false)
    (y3_11 : PySem.W.kitOne K (.ref gx3) (.ref gx11) = some false)
    (yb3 : PySem.W.kitOne K (.ref gx12) (.ref gx3) = some false)
    (yv3 : PySem.W.kitOne K (.ref gx3) (.type "ValueError") = some true)
    (yw3 : PySem.W.kitOne K (.ref gx3) (.ref gx12) = some true)
    (y4_0 : PySem.W.kitOne K (.ref gx4) (.ref gx0) = some false)
    (y4_1 : PySem.W.kitOne K (.ref gx4) (.ref gx1) = some false)
    (y4_2 : PySem.W.kitOne K (.ref gx4) (.ref gx2) = some false)
    (y4_3 : PySem.W.kitOne K (.ref gx4) (.ref gx3) = some false)
    (y4_4 : PySem.W.kitOne K (.ref gx4) (.ref gx4) = some true)
    (y4_5 : PySem.W.kitOne K (.ref gx4) (.ref gx5) = some false)
    (y4_6 : PySem.W.kitOne K (.ref gx4) (.ref gx6) = some false)
    (y4_7 : PySem.W.kitOne K (.ref gx4) (.ref gx7) = some false)
    (y4_8 : PySem.W.kitOne K (.ref gx4) (.ref gx8) = some false)
    (y4_9 : PySem.W.kitOne K (.ref gx4) (.ref gx9) = some false)
    (y4_10 : PySem.W.kitOne K (.ref gx4) (.ref gx10) = some false)
    (y4_11 : PySem.W.kitOne K (.ref gx4) (.ref gx11) = some false)
    (yb4 : PySem.W.kitOne K (.ref gx12) (.ref gx4) = some false)
    (yv4 : PySem.W.kitOne K (.ref gx4) (.type "ValueError") = some true)
    (yw4 : PySem.W.kitOne K (.ref gx4) (.ref gx12) = some true)
    (y5_0 : PySem.W.kitOne K (.ref gx5) (.ref gx0) = some false)
    (y5_1 : PySem.W.kitOne K (.ref gx5) (.ref gx1) = some false)
    (y5_2 : PySem.W.kitOne K (.ref gx5) (.ref gx2) = some false)
    (y5_3 : PySem.W.kitOne K (.ref gx5) (.ref gx3) = some false)
    (y5_4 : PySem.W.kitOne K (.ref gx5) (.ref gx4) = some false)
    (y5_5 : PySem.W.kitOne K (.ref gx5) (.ref gx5) = some true)
    (y5_6 : PySem.W.kitOne K (.ref gx5) (.ref gx6) = some false)
    (y5_7 : PySem.W.kitOne K (.ref gx5) (.ref gx7) = some false)
    (y5_8 : PySem.W.kitOne K (.ref gx5) (.ref gx8) = some false)
    (y5_9 : PySem.W.kitOne K (.ref gx5) (.ref gx9) = some false)
    (y5_10 : PySem.W.kitOne K (.ref gx5) (.ref gx10) = some false)
    (y5_11 : PySem.W.kitOne K (.ref gx5) (.ref gx11) = some false)
    (yb5 : PySem.W.kitOne K (.ref gx12) (.ref gx5) = some false)
    (yv5 : PySem.W.kitOne K (.ref gx5) (.type "ValueError") = some true)
    (yw5 : PySem.W.kitOne K (.ref gx5) (.ref gx12) = some true)
    (y6_0 : PySem.W.kitOne K (.ref gx6) (.ref gx0) = some false)
    (y6_1 : PySem.W.kitOne K (.ref gx6) (.ref gx1) = some false)
    (y6_2 : PySem.W.kitOne K (.ref gx6) (.ref gx2) = some false)
    (y6_3 : PySem.W.kitOne K (.ref gx6) (.ref gx3) = some false)
    (y6_4 : PySem.W.kitOne K (.ref gx6) (.ref gx4) = some false)
    (y6_5 : PySem.W.kitOne K (.ref gx6) (.ref gx5) = some false)
    (y6_6 : PySem.W.kitOne K (.ref gx6) (.ref gx6) = some true)
    (y6_7 : PySem.W.kitOne K (.ref gx6) (.ref gx7) = some false)
    (y6_8 : PySem.W.kitOne K (.ref gx6) (.ref gx8) = some false)
    (y6_9 : PySem.W.kitOne K (.ref gx6) (.ref gx9) = some false)
    (y6_10 : PySem.W.kitOne K (.ref gx6) (.ref gx10) = some false)
    (y6_11 : PySem.W.kitOne K (.ref gx6) (.ref gx11) = some false)
    (yb6 : PySem.W.kitOne K (.ref gx12) (.ref gx6) = some false)
    (yv6 : PySem.W.kitOne K (.ref gx6) (.type "ValueError") = some true)
    (yw6 : PySem.W.kitOne K (.ref gx6) (.ref gx12) = some true)
    (y7_0 : PySem.W.kitOne K (.ref gx7) (.ref gx0) = some false)
    (y7_1 : PySem.W.kitOne K (.ref gx7) (.ref gx1) = some false)
    (y7_2 : PySem.W.kitOne K (.ref gx7) (.ref gx2) = some false)
    (y7_3 : PySem.W.kitOne K (.ref gx7) (.ref gx3) = some false)
    (y7_4 : PySem.W.kitOne K (.ref gx7) (.ref gx4) = some false)
    (y7_5 : PySem.W.kitOne K (.ref gx7) (.ref gx5) = some false)
    (y7_6 : PySem.W.kitOne K (.ref gx7) (.ref gx6) = some false)
    (y7_7 : PySem.W.kitOne K (.ref gx7) (.ref gx7) = some true)
    (y7_8 : PySem.W.kitOne K (.ref gx7) (.ref gx8) = some false)
    (y7_9 : PySem.W.kitOne K (.ref gx7) (.ref gx9) = some false)
    (y7_10 : PySem.W.kitOne K (.ref gx7) (.ref gx10) = some false)
    (y7_11 : PySem.W.kitOne K (.ref gx7) (.ref gx11) = some false)
    (yb7 : PySem.W.kitOne K (.ref gx12) (.ref gx7) = some false)
    (yv7 : PySem.W.kitOne K (.ref gx7) (.type "ValueError") = some true)
    (yw7 : PySem.W.kitOne K (.ref gx7) (.ref gx12) = some true)
    (y8_0 : PySem.W.kitOne K (.ref gx8) (.ref gx0) = some false)
    (y8_1 : PySem.W.kitOne K (.ref gx8) (.ref gx1) = some false)
    (y8_2 : PySem.W.kitOne K (.ref gx8) (.ref gx2) = some false)
    (y8_3 : PySem.W.kitOne K (.ref gx8) (.ref gx3) = some false)
    (y8_4 : PySem.W.kitOne K (.ref gx8) (.ref gx4) = some false)
    (y8_5 : PySem.W.kitOne K (.ref gx8) (.ref gx5) = some false)
    (y8_6 : PySem.W.kitOne K (.ref gx8) (.ref gx6) = some false)
    (y8_7 : PySem.W.kitOne K (.ref gx8) (.ref gx7) = some false)
    (y8_8 : PySem.W.kitOne K (.ref gx8) (.ref gx8) = some true)
    (y8_9 : PySem.W.kitOne K (.ref gx8) (.ref gx9) = some false)
    (y8_10 : PySem.W.kitOne K (.ref gx8) (.ref gx10) = some false)
    (y8_11 : PySem.W.kitOne K (.ref gx8) (.ref gx11) = some false)
    (yb8 : PySem.W.kitOne K (.ref gx12) (.ref gx8) = some false)
    (yv8 : PySem.W.kitOne K (.ref gx8) (.type "ValueError") = some true)
    (yw8 : PySem.W.kitOne K (.ref gx8) (.ref gx12) = some true)
    (y9_0 : PySem.W.kitOne K (.ref gx9) (.ref gx0) = some false)
    (y9_1 : PySem.W.kitOne K (.ref gx9) (.ref gx1) = some false)
    (y9_2 : PySem.W.kitOne K (.ref gx9) (.ref gx2) = some false)
    (y9_3 : PySem.W.kitOne K (.ref gx9) (.ref gx3) = some false)
    (y9_4 : PySem.W.kitOne K (.ref gx9) (.ref gx4) = some false)
    (y9_5 : PySem.W.kitOne K (.ref gx9) (.ref gx5) = some false)
    (y9_6 : PySem.W.kitOne K (.ref gx9) (.ref gx6) = some false)
    (y9_7 : PySem.W.kitOne K (.ref gx9) (.ref gx7) = some false)
    (y9_8 : PySem.W.kitOne K (.ref gx9) (.ref gx8) = some false)
    (y9_9 : PySem.W.kitOne K (.ref gx9) (.ref gx9) = some true)
    (y9_10 : PySem.W.kitOne K (.ref gx9) (.ref gx10) = some false)
    (y9_11 : PySem.W.kitOne K (.ref gx9) (.ref gx11) = some false)
    (yb9 : PySem.W.kitOne K (.ref gx12) (.ref gx9) = some false)
    (yv9 : PySem.W.kitOne K (.ref gx9) (.type "ValueError") = some true)
    (yw9 : PySem.W.kitOne K (.ref gx9) (.ref gx12) = some true)
    (y10_0 : PySem.W.kitOne K (.ref gx10) (.ref gx0) = some false)
    (y10_1 : PySem.W.kitOne K (.ref gx10) (.ref gx1) = some false)
    (y10_2 : PySem.W.kitOne K (.ref gx10) (.ref gx2) = some false)
    (y10_3 : PySem.W.kitOne K (.ref gx10) (.ref gx3) = some false)
    (y10_4 : PySem.W.kitOne K (.ref gx10) (.ref gx4) = some false)
    (y10_5 : PySem.W.kitOne K (.ref gx10) (.ref gx5) = some false)
    (y10_6 : PySem.W.kitOne K (.ref gx10) (.ref gx6) = some false)
    (y10_7 : PySem.W.kitOne K (.ref gx10) (.ref gx7) = some false)
    (y10_8 : PySem.W.kitOne K (.ref gx10) (.ref gx8) = some false)
    (y10_9 : PySem.W.kitOne K (.ref gx10) (.ref gx9) = some false)
    (y10_10 : PySem.W.kitOne K (.ref gx10) (.ref gx10) = some true)
    (y10_11 : PySem.W.kitOne K (.ref gx10) (.ref gx11) = some false)
    (yb10 : PySem.W.kitOne K (.ref gx12) (.ref gx10) = some false)
    (yv10 : PySem.W.kitOne K (.ref gx10) (.type "ValueError") = some true)
    (yw10 : PySem.W.kitOne K (.ref gx10) (.ref gx12) = some true)
    (y11_0 : PySem.W.kitOne K (.ref gx11) (.ref gx0) = some false)
    (y11_1 : PySem.W.kitOne K (.ref gx11) (.ref gx1) = some false)
    (y11_2 : PySem.W.kitOne K (.ref gx11) (.ref gx2) = some false)
    (y11_3 : PySem.W.kitOne K (.ref gx11) (.ref gx3) = some false)
    (y11_4 : PySem.W.kitOne K (.ref gx11) (.ref gx4) = some false)
    (y11_5 : PySem.W.kitOne K (.ref gx11) (.ref gx5) = some false)
    (y11_6 : PySem.W.kitOne K (.ref gx11) (.ref gx6) = some false)
    (y11_7 : PySem.W.kitOne K (.ref gx11) (.ref gx7) = some false)
    (y11_8 : PySem.W.kitOne K (.ref gx11) (.ref gx8) = some false)
    (y11_9 : PySem.W.kitOne K (.ref gx11) (.ref gx9) = some false)
    (y11_10 : PySem.W.kitOne K (.ref gx11) (.ref gx10) = some false)
    (y11_11 : PySem.W.kitOne K (.ref gx11) (.ref gx11) = some true)
    (yb11 : PySem.W.kitOne K (.ref gx12) (.ref gx11) = some false)
    (yv11 : PySem.W.kitOne K (.ref gx11) (.type "ValueError") = some true)
    (yw11 : PySem.W.kitOne K (.ref gx11) (.ref gx12) = some true)
    (xm : PySem.W.exmOne K (.ref gx1) (.ref gx12) = some true)
    (yvb : PySem.W.kitOne K (.ref gx12) (.type "ValueError") = some true)
    : ∃ fd : FuncData, (∀ (s : Shared) (v : Value), BindsTo s fd ⟨[v], []⟩ [("_law_script", v)]) ∧ ∀ base : Heap, K.In base → base.Ns mainGlobals mg → FnOk l.prog w K mg base CX0 10 fa fd ["_law_script"] (spLaw K) := by
  have e := hfa.symm.trans (PySem.W.mg_of X G alaw)
  cases e
  have S : Std mg := ⟨PySem.W.mg_none_of X G b_len, PySem.W.mg_none_of X G b_abs, PySem.W.mg_none_of X G b_int, PySem.W.mg_none_of X G b_range, PySem.W.mg_none_of X G b_isinstance, PySem.W.mg_none_of X G b_tuple, PySem.W.mg_none_of X G b_list, PySem.W.mg_none_of X G b_all, PySem.W.mg_none_of X G b_zip, PySem.W.mg_none_of X G b_bool, PySem.W.mg_none_of X G b_str, PySem.W.mg_none_of X G b_set, PySem.W.mg_none_of X G b_sorted, PySem.W.mg_none_of X G b_sum, PySem.W.mg_none_of X G b_any, PySem.W.mg_none_of X G b_enumerate⟩
  have hV := PySem.W.mg_none_of X G b_ve
  have Flaw_feed := fun_mk (st := sFeed) llaw_feed claw_feed klaw_feed
  have Dlaw_feed : Df K mg "_law_feed" sFeed _ _ ["_law_script", "_law_k"] := ⟨Flaw_feed, Flaw_feed.binds (ps := ["_law_script", "_law_k"]) fun _ _ _ _ _ _ us hl => match us, hl with | [_, _], _ => rfl, PySem.W.mg_of X G alaw_feed⟩
  have Flaw_draw := fun_mk (st := sDraw) llaw_draw claw_draw klaw_draw
  have Dlaw_draw : Df K mg "_law_draw" sDraw _ _ ["_law_feed_here", "_law_many"] := ⟨Flaw_draw, Flaw_draw.binds (ps := ["_law_feed_here", "_law_many"]) fun _ _ _ _ _ _ us hl => match us, hl with | [_, _], _ => rfl, PySem.W.mg_of X G alaw_draw⟩
  have Flaw_pick := fun_mk (st := sPick) llaw_pick claw_pick klaw_pick
  have Dlaw_pick : Df K mg "_law_pick" sPick _ _ ["_law_feed_here", "_law_items"] := ⟨Flaw_pick, Flaw_pick.binds (ps := ["_law_feed_here", "_law_items"]) fun _ _ _ _ _ _ us hl => match us, hl with | [_, _], _ => rfl, PySem.W.mg_of X G alaw_pick⟩
  have Flaw_same := fun_mk (st := sSame) llaw_same claw_same klaw_same
  have Dlaw_same : Df K mg "_law_same" sSame _ _ ["_law_found", "_law_due_here"] := ⟨Flaw_same, Flaw_same.binds (ps := ["_law_found", "_law_due_here"]) fun _ _ _ _ _ _ us hl => match us, hl with | [_, _], _ => rfl, PySem.W.mg_of X G alaw_same⟩
  have Flaw_word := fun_mk (st := sWord) llaw_word claw_word klaw_word
  have Dlaw_word : Df K mg "_law_word" sWord _ _ ["_law_feed_here"] := ⟨Flaw_word, Flaw_word.binds (ps := ["_law_feed_here"]) fun _ _ _ _ _ _ us hl => match us, hl with | [_], _ => rfl, PySem.W.mg_of X G alaw_word⟩
  have Flaw_words := fun_mk (st := sWords) llaw_words claw_words klaw_words
  have Dlaw_words : Df K mg "_law_words" sWords _ _ ["_law_feed_here", "_law_many"] := ⟨Flaw_words, Flaw_words.binds (ps := ["_law_feed_here", "_law_many"]) fun _ _ _ _ _ _ us hl => match us, hl with | [_, _], _ => rfl, PySem.W.mg_of X G alaw_words⟩
  have Flaw_sign := fun_mk (st := sSign) llaw_sign claw_sign klaw_sign
  have Dlaw_sign : Df K mg "_law_sign" sSign _ _ ["_law_feed_here"] := ⟨Flaw_sign, Flaw_sign.binds (ps := ["_law_feed_here"]) fun _ _ _ _ _ _ us hl => match us, hl with | [_], _ => rfl, PySem.W.mg_of X G alaw_sign⟩
  have Flaw_bent := fun_mk (st := sBent) llaw_bent claw_bent klaw_bent
  have Dlaw_bent : Df K mg "_law_bent" sBent _ _ ["_law_feed_here", "_law_text"] := ⟨Flaw_bent, Flaw_bent.binds (ps := ["_law_feed_here", "_law_text"]) fun _ _ _ _ _ _ us hl => match us, hl with | [_, _], _ => rfl, PySem.W.mg_of X G alaw_bent⟩
  have Flaw_near_name := fun_mk (st := sNear) llaw_near_name claw_near_name klaw_near_name
  have Dlaw_near_name : Df K mg "_law_near_name" sNear _ _ ["_law_feed_here"] := ⟨Flaw_near_name, Flaw_near_name.binds (ps := ["_law_feed_here"]) fun _ _ _ _ _ _ us hl => match us, hl with | [_], _ => rfl, PySem.W.mg_of X G alaw_near_name⟩
  have Flaw_any := fun_mk (st := sAny) llaw_any claw_any klaw_any
  have Dlaw_any : Df K mg "_law_any" sAny _ _ ["_law_feed_here", "_law_deep"] := ⟨Flaw_any, Flaw_any.binds (ps := ["_law_feed_here", "_law_deep"]) fun _ _ _ _ _ _ us hl => match us, hl with | [_, _], _ => rfl, PySem.W.mg_of X G alaw_any⟩
  have Flaw_ways := fun_mk (st := sWays) llaw_ways claw_ways klaw_ways
  have Dlaw_ways : Df K mg "_law_ways" sWays _ _ ["_law_feed_here"] := ⟨Flaw_ways, Flaw_ways.binds (ps := ["_law_feed_here"]) fun _ _ _ _ _ _ us hl => match us, hl with | [_], _ => rfl, PySem.W.mg_of X G alaw_ways⟩
  have Flaw_refused := fun_mk (st := sRefused) llaw_refused claw_refused klaw_refused
  have Dlaw_refused : Df K mg "_law_refused" sRefused _ _ ["_law_e"] := ⟨Flaw_refused, Flaw_refused.binds (ps := ["_law_e"]) fun _ _ _ _ _ _ us hl => match us, hl with | [_], _ => rfl, PySem.W.mg_of X G alaw_refused⟩
  have Flaw_fits := fun_mk (st := sFits) llaw_fits claw_fits klaw_fits
  have Dlaw_fits : Df K mg "_law_fits" sFits _ _ ["_law_word_here", "_law_steps"] := ⟨Flaw_fits, Flaw_fits.binds (ps := ["_law_word_here", "_law_steps"]) fun _ _ _ _ _ _ us hl => match us, hl with | [_, _], _ => rfl, PySem.W.mg_of X G alaw_fits⟩
  have Flaw_pool_steps := fun_mk (st := sPoolSteps) llaw_pool_steps claw_pool_steps klaw_pool_steps
  have Dlaw_pool_steps : Df K mg "_law_pool_steps" sPoolSteps _ _ ["_law_feed_here", "_law_many"] := ⟨Flaw_pool_steps, Flaw_pool_steps.binds (ps := ["_law_feed_here", "_law_many"]) fun _ _ _ _ _ _ us hl => match us, hl with | [_, _], _ => rfl, PySem.W.mg_of X G alaw_pool_steps⟩
  have Flaw_pool_traits := fun_mk (st := sPoolTraits) llaw_pool_traits claw_pool_traits klaw_pool_traits
  have Dlaw_pool_traits : Df K mg "_law_pool_traits" sPoolTraits _ _ ["_law_feed_here", "_law_steps"] := ⟨Flaw_pool_traits, Flaw_pool_traits.binds (ps := ["_law_feed_here", "_law_steps"]) fun _ _ _ _ _ _ us hl => match us, hl with | [_, _], _ => rfl, PySem.W.mg_of X G alaw_pool_traits⟩
  have Flaw_trait := fun_mk (st := sTrait) llaw_trait claw_trait klaw_trait
  have Dlaw_trait : Df K mg "_law_trait" sTrait _ _ ["_law_word_here", "_law_some"] := ⟨Flaw_trait, Flaw_trait.binds (ps := ["_law_word_here", "_law_some"]) fun _ _ _ _ _ _ us hl => match us, hl with | [_, _], _ => rfl, PySem.W.mg_of X G alaw_trait⟩
  have Flaw_told := fun_mk (st := sTold) llaw_told claw_told klaw_told
  have Dlaw_told : Df K mg "_law_told" sTold _ _ ["_law_word_here", "_law_some"] := ⟨Flaw_told, Flaw_told.binds (ps := ["_law_word_here", "_law_some"]) fun _ _ _ _ _ _ us hl => match us, hl with | [_, _], _ => rfl, PySem.W.mg_of X G alaw_told⟩
  have Flaw_due := fun_mk (st := sDue) llaw_due claw_due klaw_due
  have Dlaw_due : Df K mg "_law_due" sDue _ _ ["_law_word_here", "_law_some"] := ⟨Flaw_due, Flaw_due.binds (ps := ["_law_word_here", "_law_some"]) fun _ _ _ _ _ _ us hl => match us, hl with | [_, _], _ => rfl, PySem.W.mg_of X G alaw_due⟩
  have Flaw_right := fun_mk (st := sRight) llaw_right claw_right klaw_right
  have Dlaw_right : Df K mg "_law_right" sRight _ _ ["_law_trait_here", "_law_word_here", "_law_some"] := ⟨Flaw_right, Flaw_right.binds (ps := ["_law_trait_here", "_law_word_here", "_law_some"]) fun _ _ _ _ _ _ us hl => match us, hl with | [_, _, _], _ => rfl, PySem.W.mg_of X G alaw_right⟩
  have Flaw := fun_mk (st := sLaw) llaw claw klaw
  have Dlaw : Df K mg "law" sLaw _ _ ["_law_script"] := ⟨Flaw, Flaw.binds (ps := ["_law_script"]) fun _ _ _ _ _ _ us hl => match us, hl with | [_], _ => rfl, PySem.W.mg_of X G alaw⟩
  have Fis_name := fun_mk (st := sIsName) lis_name cis_name kis_name
  have Dis_name : Df K mg "is_name" sIsName _ _ ["value"] := ⟨Fis_name, Fis_name.binds (ps := ["value"]) fun _ _ _ _ _ _ us hl => match us, hl with | [_], _ => rfl, PySem.W.mg_of X G ais_name⟩
  have Fnamed := fun_mk (st := sNamed) lnamed cnamed knamed
  have Dnamed : Df K mg "named" sNamed _ _ ["word"] := ⟨Fnamed, Fnamed.binds (ps := ["word"]) fun _ _ _ _ _ _ us hl => match us, hl with | [_], _ => rfl, PySem.W.mg_of X G anamed⟩
  have Fare_ways := fun_mk (st := sAreWays) lare_ways care_ways kare_ways
  have Dare_ways : Df K mg "_are_ways" sAreWays _ _ ["value"] := ⟨Fare_ways, Fare_ways.binds (ps := ["value"]) fun _ _ _ _ _ _ us hl => match us, hl with | [_], _ => rfl, PySem.W.mg_of X G aare_ways⟩
  have Fare_steps := fun_mk (st := sAreSteps) lare_steps care_steps kare_steps
  have Dare_steps : Df K mg "_are_steps" sAreSteps _ _ ["steps", "count"] := ⟨Fare_steps, Fare_steps.binds (ps := ["steps", "count"]) fun _ _ _ _ _ _ us hl => match us, hl with | [_, _], _ => rfl, PySem.W.mg_of X G aare_steps⟩
  have Fways_fit := fun_mk (st := sWaysFit) lways_fit cways_fit kways_fit
  have Dways_fit : Df K mg "_ways_fit" sWaysFit _ _ ["word", "steps"] := ⟨Fways_fit, Fways_fit.binds (ps := ["word", "steps"]) fun _ _ _ _ _ _ us hl => match us, hl with | [_, _], _ => rfl, PySem.W.mg_of X G aways_fit⟩
  have Fall_names : FunD K "all_names" "all_names" (defArgs sAllNames) (defBody sAllNames) (defScope sAllNames) [V.ref tall_names] [] fall_names _ := ⟨⟨ocall_names, odall_names, .ref Tall_names, kVall_names, dcall_names, pmall_names, anall_names, cdall_names, ctall_names, slall_names, rfl, lall_names, call_names, .inr ⟨by simp, Tall_names, _, [.ref tall_names], nTall_names, rfl, eall_names, rfl, .cons rfl .nil⟩, .inl rfl⟩, kall_names⟩
  have Ball_names : Binds K (PySem.W.fnOf "all_names" "all_names" (defArgs sAllNames) (defBody sAllNames) (defScope sAllNames) (.ref Tall_names) kVall_names dcall_names pmall_names anall_names cdall_names ctall_names) ["holders", "more"] [] := by
    obtain ⟨ds, hd, hb⟩ := Fall_names.binds1 (ps := ["holders", "more"]) 2 1 (by simp) rfl fun T kV doc pm an cdv ct us its h1 h2 => match us, its, h1, h2 with | [_, _], [_], _, _ => ⟨_, rfl, rfl⟩
    cases hd
    exact hb
  have Dall_names : Dd K mg "all_names" sAllNames fall_names _ ["holders", "more"] := ⟨⟨tall_names, Fall_names⟩, Ball_names, PySem.W.mg_of X G aall_names, kall_names⟩
  have Fall_steps : FunD K "all_steps" "all_steps" (defArgs sAllSteps) (defBody sAllSteps) (defScope sAllSteps) [V.ref tall_steps] [] fall_steps _ := ⟨⟨ocall_steps, odall_steps, .ref Tall_steps, kVall_steps, dcall_steps, pmall_steps, anall_steps, cdall_steps, ctall_steps, slall_steps, rfl, lall_steps, call_steps, .inr ⟨by simp, Tall_steps, _, [.ref tall_steps], nTall_steps, rfl, eall_steps, rfl, .cons rfl .nil⟩, .inl rfl⟩, kall_steps⟩
  have Ball_steps : Binds K (PySem.W.fnOf "all_steps" "all_steps" (defArgs sAllSteps) (defBody sAllSteps) (defScope sAllSteps) (.ref Tall_steps) kVall_steps dcall_steps pmall_steps anall_steps cdall_steps ctall_steps) ["holders", "more"] [] := by
    obtain ⟨ds, hd, hb⟩ := Fall_steps.binds1 (ps := ["holders", "more"]) 2 1 (by simp) rfl fun T kV doc pm an cdv ct us its h1 h2 => match us, its, h1, h2 with | [_, _], [_], _, _ => ⟨_, rfl, rfl⟩
    cases hd
    exact hb
  have Dall_steps : Dd K mg "all_steps" sAllSteps fall_steps _ ["holders", "more"] := ⟨⟨tall_steps, Fall_steps⟩, Ball_steps, PySem.W.mg_of X G aall_steps, kall_steps⟩
  have W : Words K mg kw := ⟨⟨_, PySem.W.mg_of X G w1⟩, ⟨_, PySem.W.mg_of X G w2⟩, PySem.W.mg_of X G w3, fun H => .inr ⟨_, _, _, w4, rfl, rfl, by show 3 ≤ sizeLine; decide, .cons ⟨_, rfl⟩ (.cons ⟨_, rfl⟩ (.cons ⟨_, rfl⟩ .nil))⟩⟩
  have FT : Fits K w mg dC dF tU := ⟨PySem.W.mg_of X G w7, ⟨_, _, w8, w9, w10⟩, ⟨_, w11⟩, PySem.W.mg_of X G w12, ⟨_, _, w13, w14, w15⟩, w16, fun H => .inr ⟨_, _, _, w17, rfl, rfl, by show 1 ≤ sizeLine; decide, .cons ⟨_, rfl⟩ .nil⟩⟩
  have F2 : Fits2 K w mg dC dF := ⟨PySem.W.mg_of X G w7, ⟨_, _, w8, w9, w10⟩, fun x hx => by
    rcases words7_cases hx with rfl | rfl | rfl | rfl | rfl | rfl | rfl
    · exact ⟨_, by rw [show cntW "up" = 1 by decide +kernel]; exact wc_up⟩
    · exact ⟨_, by rw [show cntW "down" = 1 by decide +kernel]; exact wc_down⟩
    · exact ⟨_, by rw [show cntW "settled" = 1 by decide +kernel]; exact wc_settled⟩
    · exact ⟨_, by rw [show cntW "mean" = 1 by decide +kernel]; exact wc_mean⟩
    · exact ⟨_, by rw [show cntW "alike" = 1 by decide +kernel]; exact wc_alike⟩
    · exact ⟨_, by rw [show cntW "below" = 2 by decide +kernel]; exact wc_below⟩
    · exact ⟨_, by rw [show cntW "back" = 2 by decide +kernel]; exact wc_back⟩
    , fun x hx => ns_absent w8 w9 wck hx, PySem.W.mg_of X G w12, ⟨_, _, w13, w14, w15⟩, fun x hx nb => by
    rcases words7_cases hx with rfl | rfl | rfl | rfl | rfl | rfl | rfl
    · exact ⟨tFup, wf_up, fun H => by rw [show fitW "up" = (["+"] : List Str) by decide +kernel]; exact .inr ⟨_, _, _, wg_up, rfl, rfl, by show 1 ≤ sizeLine; decide, .cons ⟨_, rfl⟩ (.nil)⟩⟩
    · exact ⟨tFdown, wf_down, fun H => by rw [show fitW "down" = (["+"] : List Str) by decide +kernel]; exact .inr ⟨_, _, _, wg_down, rfl, rfl, by show 1 ≤ sizeLine; decide, .cons ⟨_, rfl⟩ (.nil)⟩⟩
    · exact ⟨tFsettled, wf_settled, fun H => by rw [show fitW "settled" = (["+"] : List Str) by decide +kernel]; exact .inr ⟨_, _, _, wg_settled, rfl, rfl, by show 1 ≤ sizeLine; decide, .cons ⟨_, rfl⟩ (.nil)⟩⟩
    · exact ⟨tFmean, wf_mean, fun H => by rw [show fitW "mean" = (["++"] : List Str) by decide +kernel]; exact .inr ⟨_, _, _, wg_mean, rfl, rfl, by show 1 ≤ sizeLine; decide, .cons ⟨_, rfl⟩ (.nil)⟩⟩
    · exact ⟨tFalike, wf_alike, fun H => by rw [show fitW "alike" = (["++", "--", "??"] : List Str) by decide +kernel]; exact .inr ⟨_, _, _, wg_alike, rfl, rfl, by show 3 ≤ sizeLine; decide, .cons ⟨_, rfl⟩ (.cons ⟨_, rfl⟩ (.cons ⟨_, rfl⟩ (.nil)))⟩⟩
    · exact absurd rfl nb
    · exact ⟨tFback, wf_back, fun H => by rw [show fitW "back" = (["+"] : List Str) by decide +kernel]; exact .inr ⟨_, _, _, wg_back, rfl, rfl, by show 1 ≤ sizeLine; decide, .cons ⟨_, rfl⟩ (.nil)⟩⟩
    ⟩
  have OS : OwnCl K mg "Step" gS := ⟨⟨gS1, gS2, gS3, gS4⟩, gS5, so, tk, gS6, gSk0, gSk1, gSk2, gSk3, PySem.W.mg_of X G gSa⟩
  have FiS := fun_mk (st := sStepInit) liS ciS kiS
  have FqS := fun_mk (st := sStepEq) lqS cqS kqS
  have QS : EqM K gS sStepEq "Step.__eq__" fqS _ := ⟨FqS, FqS.binds (ps := ["self", "other"]) fun _ _ _ _ _ _ us hl => match us, hl with | [_, _], _ => rfl, aqS, nqS⟩
  have MS : Mk K gS fiS := ⟨gS7, aiS, niS, gS8⟩
  have biS := FiS.binds (ps := ["self", "name", "ways"]) fun _ _ _ _ _ _ us hl => match us, hl with | [_, _, _], _ => rfl
  have OE : OwnCl K mg "Expr" gE := ⟨⟨gE1, gE2, gE3, gE4⟩, gE5, so, tk, gE6, gEk0, gEk1, gEk2, gEk3, PySem.W.mg_of X G gEa⟩
  have FiE := fun_mk (st := sExprInit) liE ciE kiE
  have FqE := fun_mk (st := sExprEq) lqE cqE kqE
  have QE : EqM K gE sExprEq "Expr.__eq__" fqE _ := ⟨FqE, FqE.binds (ps := ["self", "other"]) fun _ _ _ _ _ _ us hl => match us, hl with | [_, _], _ => rfl, aqE, nqE⟩
  have ME : Mk K gE fiE := ⟨gE7, aiE, niE, gE8⟩
  have biE := FiE.binds (ps := ["self", "kind", "word", "step", "parts"]) fun _ _ _ _ _ _ us hl => match us, hl with | [_, _, _, _, _], _ => rfl
  have OT : OwnCl K mg "Trait" gT := ⟨⟨gT1, gT2, gT3, gT4⟩, gT5, so, tk, gT6, gTk0, gTk1, gTk2, gTk3, PySem.W.mg_of X G gTa⟩
  have FiT := fun_mk (st := sTraitInit) liT ciT kiT
  have FqT := fun_mk (st := sTraitEq) lqT cqT kqT
  have QT : EqM K gT sTraitEq "Trait.__eq__" fqT _ := ⟨FqT, FqT.binds (ps := ["self", "other"]) fun _ _ _ _ _ _ us hl => match us, hl with | [_, _], _ => rfl, aqT, nqT⟩
  have MT : Mk K gT fiT := ⟨gT7, aiT, niT, gT8⟩
  have OC : OwnCl K mg "Chain" gC := ⟨⟨gC1, gC2, gC3, gC4⟩, gC5, so, tk, gC6, gCk0, gCk1, gCk2, gCk3, PySem.W.mg_of X G gCa⟩
  have FiC := fun_mk (st := sChainInit) liC ciC kiC
  have FqC := fun_mk (st := sChainEq) lqC cqC kqC
  have QC : EqM K gC sChainEq "Chain.__eq__" fqC _ := ⟨FqC, FqC.binds (ps := ["self", "other"]) fun _ _ _ _ _ _ us hl => match us, hl with | [_, _], _ => rfl, aqC, nqC⟩
  have MC : Mk K gC fiC := ⟨gC7, aiC, niC, gC8⟩
  have FlS := fun_mk (st := sStepLen) llS clS klS
  have LS : LenM K gS flS _ sStepLen "Step.__len__" := ⟨FlS, FlS.binds (ps := ["self"]) fun _ _ _ _ _ _ us hl => match us, hl with | [_], _ => rfl, alS, nlS⟩
  have FtT := fun_mk (st := sTraitStr) ltT ctT ktT
  have TT : TrM K gT ftT _ := ⟨FtT, FtT.binds (ps := ["self"]) fun _ _ _ _ _ _ us hl => match us, hl with | [_], _ => rfl, atT, ntT, neT, knT, kTt⟩
  have NO : Kno K ⟨gS, gE, gT, gC⟩ := ⟨knS, knE, knT, knC, kon, kob, koi, kol, kot, kcE, kcT, kcC⟩
  have KI : Kin K mg ⟨gS, gE, gT, gC⟩ fqS fqE fqT fqC _ _ _ _ := ⟨OS, OE, OT, OC, QS, QE, QT, QC, gS_name, gS_ways, gE_kind, gE_word, gE_step, gE_parts, gT_word, gT_steps, gC_steps⟩
  have MK : Make K mg w ⟨gS, gE, gT, gC⟩ fiS fiT fiC fiE flS kw dC dF tU _ _ _ _ _ := ⟨MS, MT, MC, ME, FiS, FiT, FiC, FiE, biS, biE, LS, W, ⟨_, PySem.W.mg_of X G w5⟩, ⟨_, PySem.W.mg_of X G w6⟩, FT, ⟨gE_kind, gE_word, gE_step, gE_parts, gE_names, gE_steps, gE_size, gE_applied⟩⟩
  have AF : AnyF K mg flaw_draw flaw_pick flaw_sign flaw_bent flaw_word flaw_near_name flaw_ways fis_name fnamed fall_names fall_steps fare_ways fare_steps fways_fit _ _ _ _ _ _ _ _ _ _ _ _ _ _ := ⟨Dlaw_draw, Dlaw_pick, Dlaw_sign, Dlaw_bent, Dlaw_word, Dlaw_near_name, Dlaw_ways, Dis_name, Dnamed, Dall_names, Dall_steps, Dare_ways, Dare_steps, Dways_fit⟩
  have Tx0 : OexC K gx0 := ⟨⟨_, _, _, _, _, _, _, _, _, _, _, _, _, _, _, gx0_c, gx0_r⟩, gx0_1, gx0_2, gx0_3, gx0_4⟩
  have Ex0 : ExcC K gx0 := ⟨gx0_5, gx0_6, gx0_2, gx0_7, gx0_8, so, tk, gx0_9⟩
  have Fx0 := fun_mk (st := eS 0) lx0 cx0 kx0
  have Rx0 : Er K mg 0 gx0 fx0 _ := ⟨PySem.W.mg_of X G gx0a, Tx0, ⟨gx0_5, gx0_6, gx0_2, gx0_7⟩, Ex0, ax0, tx0, Fx0, Fx0.binds (ps := ["self", "word"]) fun _ _ _ _ _ _ us hl => match us, hl with | [_, _], _ => rfl, nx0⟩
  have Tx1 : OexC K gx1 := ⟨⟨_, _, _, _, _, _, _, _, _, _, _, _, _, _, _, gx1_c, gx1_r⟩, gx1_1, gx1_2, gx1_3, gx1_4⟩
  have Ex1 : ExcC K gx1 := ⟨gx1_5, gx1_6, gx1_2, gx1_7, gx1_8, so, tk, gx1_9⟩
  have Fx1 := fun_mk (st := eS 1) lx1 cx1 kx1
  have Rx1 : Er K mg 1 gx1 fx1 _ := ⟨PySem.W.mg_of X G gx1a, Tx1, ⟨gx1_5, gx1_6, gx1_2, gx1_7⟩, Ex1, ax1, tx1, Fx1, Fx1.binds (ps := ["self", "word"]) fun _ _ _ _ _ _ us hl => match us, hl with | [_, _], _ => rfl, nx1⟩
  have Tx2 : OexC K gx2 := ⟨⟨_, _, _, _, _, _, _, _, _, _, _, _, _, _, _, gx2_c, gx2_r⟩, gx2_1, gx2_2, gx2_3, gx2_4⟩
  have Ex2 : ExcC K gx2 := ⟨gx2_5, gx2_6, gx2_2, gx2_7, gx2_8, so, tk, gx2_9⟩
  have Fx2 := fun_mk (st := eS 2) lx2 cx2 kx2
  have Rx2 : Er K mg 2 gx2 fx2 _ := ⟨PySem.W.mg_of X G gx2a, Tx2, ⟨gx2_5, gx2_6, gx2_2, gx2_7⟩, Ex2, ax2, tx2, Fx2, Fx2.binds (ps := ["self", "word"]) fun _ _ _ _ _ _ us hl => match us, hl with | [_, _], _ => rfl, nx2⟩
  have Tx3 : OexC K gx3 := ⟨⟨_, _, _, _, _, _, _, _, _, _, _, _, _, _, _, gx3_c, gx3_r⟩, gx3_1, gx3_2, gx3_3, gx3_4⟩
  have Ex3 : ExcC K gx3 := ⟨gx3_5, gx3_6, gx3_2, gx3_7, gx3_8, so, tk, gx3_9⟩
  have Fx3 := fun_mk (st := eS 3) lx3 cx3 kx3
  have Rx3 : Er K mg 3 gx3 fx3 _ := ⟨PySem.W.mg_of X G gx3a, Tx3, ⟨gx3_5, gx3_6, gx3_2, gx3_7⟩, Ex3, ax3, tx3, Fx3, Fx3.binds (ps := ["self", "word"]) fun _ _ _ _ _ _ us hl => match us, hl with | [_, _], _ => rfl, nx3⟩
  have Tx4 : OexC K gx4 := ⟨⟨_, _, _, _, _, _, _, _, _, _, _, _, _, _, _, gx4_c, gx4_r⟩, gx4_1, gx4_2, gx4_3, gx4_4⟩
  have Ex4 : ExcC K gx4 := ⟨gx4_5, gx4_6, gx4_2, gx4_7, gx4_8, so, tk, gx4_9⟩
  have Fx4 := fun_mk (st := eS 4) lx4 cx4 kx4
  have Rx4 : Er K mg 4 gx4 fx4 _ := ⟨PySem.W.mg_of X G gx4a, Tx4, ⟨gx4_5, gx4_6, gx4_2, gx4_7⟩, Ex4, ax4, tx4, Fx4, Fx4.binds (ps := ["self", "at"]) fun _ _ _ _ _ _ us hl => match us, hl with | [_, _], _ => rfl, nx4⟩
  have Tx5 : OexC K gx5 := ⟨⟨_, _, _, _, _, _, _, _, _, _, _, _, _, _, _, gx5_c, gx5_r⟩, gx5_1, gx5_2, gx5_3, gx5_4⟩
  have Ex5 : ExcC K gx5 := ⟨gx5_5, gx5_6, gx5_2, gx5_7, gx5_8, so, tk, gx5_9⟩
  have Fx5 := fun_mk (st := eS 5) lx5 cx5 kx5
  have Rx5 : Er K mg 5 gx5 fx5 _ := ⟨PySem.W.mg_of X G gx5a, Tx5, ⟨gx5_5, gx5_6, gx5_2, gx5_7⟩, Ex5, ax5, tx5, Fx5, Fx5.binds (ps := ["self", "word"]) fun _ _ _ _ _ _ us hl => match us, hl with | [_, _], _ => rfl, nx5⟩
  have Tx6 : OexC K gx6 := ⟨⟨_, _, _, _, _, _, _, _, _, _, _, _, _, _, _, gx6_c, gx6_r⟩, gx6_1, gx6_2, gx6_3, gx6_4⟩
  have Ex6 : ExcC K gx6 := ⟨gx6_5, gx6_6, gx6_2, gx6_7, gx6_8, so, tk, gx6_9⟩
  have Fx6 := fun_mk (st := eS 6) lx6 cx6 kx6
  have Rx6 : Er K mg 6 gx6 fx6 _ := ⟨PySem.W.mg_of X G gx6a, Tx6, ⟨gx6_5, gx6_6, gx6_2, gx6_7⟩, Ex6, ax6, tx6, Fx6, Fx6.binds (ps := ["self", "name"]) fun _ _ _ _ _ _ us hl => match us, hl with | [_, _], _ => rfl, nx6⟩
  have Tx7 : OexC K gx7 := ⟨⟨_, _, _, _, _, _, _, _, _, _, _, _, _, _, _, gx7_c, gx7_r⟩, gx7_1, gx7_2, gx7_3, gx7_4⟩
  have Ex7 : ExcC K gx7 := ⟨gx7_5, gx7_6, gx7_2, gx7_7, gx7_8, so, tk, gx7_9⟩
  have Fx7 := fun_mk (st := eS 7) lx7 cx7 kx7
  have Rx7 : Er K mg 7 gx7 fx7 _ := ⟨PySem.W.mg_of X G gx7a, Tx7, ⟨gx7_5, gx7_6, gx7_2, gx7_7⟩, Ex7, ax7, tx7, Fx7, Fx7.binds (ps := ["self", "word"]) fun _ _ _ _ _ _ us hl => match us, hl with | [_, _], _ => rfl, nx7⟩
  have Tx8 : OexC K gx8 := ⟨⟨_, _, _, _, _, _, _, _, _, _, _, _, _, _, _, gx8_c, gx8_r⟩, gx8_1, gx8_2, gx8_3, gx8_4⟩
  have Ex8 : ExcC K gx8 := ⟨gx8_5, gx8_6, gx8_2, gx8_7, gx8_8, so, tk, gx8_9⟩
  have Fx8 := fun_mk (st := eS 8) lx8 cx8 kx8
  have Rx8 : Er K mg 8 gx8 fx8 _ := ⟨PySem.W.mg_of X G gx8a, Tx8, ⟨gx8_5, gx8_6, gx8_2, gx8_7⟩, Ex8, ax8, tx8, Fx8, Fx8.binds (ps := ["self", "name"]) fun _ _ _ _ _ _ us hl => match us, hl with | [_, _], _ => rfl, nx8⟩
  have Tx9 : OexC K gx9 := ⟨⟨_, _, _, _, _, _, _, _, _, _, _, _, _, _, _, gx9_c, gx9_r⟩, gx9_1, gx9_2, gx9_3, gx9_4⟩
  have Ex9 : ExcC K gx9 := ⟨gx9_5, gx9_6, gx9_2, gx9_7, gx9_8, so, tk, gx9_9⟩
  have Fx9 := fun_mk (st := eS 9) lx9 cx9 kx9
  have Rx9 : Er K mg 9 gx9 fx9 _ := ⟨PySem.W.mg_of X G gx9a, Tx9, ⟨gx9_5, gx9_6, gx9_2, gx9_7⟩, Ex9, ax9, tx9, Fx9, Fx9.binds (ps := ["self", "name"]) fun _ _ _ _ _ _ us hl => match us, hl with | [_, _], _ => rfl, nx9⟩
  have Tx10 : OexC K gx10 := ⟨⟨_, _, _, _, _, _, _, _, _, _, _, _, _, _, _, gx10_c, gx10_r⟩, gx10_1, gx10_2, gx10_3, gx10_4⟩
  have Ex10 : ExcC K gx10 := ⟨gx10_5, gx10_6, gx10_2, gx10_7, gx10_8, so, tk, gx10_9⟩
  have Fx10 := fun_mk (st := eS 10) lx10 cx10 kx10
  have Rx10 : Er K mg 10 gx10 fx10 _ := ⟨PySem.W.mg_of X G gx10a, Tx10, ⟨gx10_5, gx10_6, gx10_2, gx10_7⟩, Ex10, ax10, tx10, Fx10, Fx10.binds (ps := ["self", "at"]) fun _ _ _ _ _ _ us hl => match us, hl with | [_, _], _ => rfl, nx10⟩
  have Tx11 : OexC K gx11 := ⟨⟨_, _, _, _, _, _, _, _, _, _, _, _, _, _, _, gx11_c, gx11_r⟩, gx11_1, gx11_2, gx11_3, gx11_4⟩
  have Ex11 : ExcC K gx11 := ⟨gx11_5, gx11_6, gx11_2, gx11_7, gx11_8, so, tk, gx11_9⟩
  have Rx11 : Er0 K mg "Impossible" gx11 := ⟨PySem.W.mg_of X G gx11a, Tx11, Ex11, ax11⟩
  have Tx12 : OexC K gx12 := ⟨⟨_, _, _, _, _, _, _, _, _, _, _, _, _, _, _, gx12_c, gx12_r⟩, gx12_1, gx12_2, gx12_3, gx12_4⟩
  have Ex12 : ExcC K gx12 := ⟨gx12_5, gx12_6, gx12_2, gx12_7, gx12_8, so, tk, gx12_9⟩
  have Rx12 : Er0 K mg "WaysError" gx12 := ⟨PySem.W.mg_of X G gx12a, Tx12, Ex12, ax12⟩
  let C : Nat → Addr := fun i => match i with | 0 => gx0 | 1 => gx1 | 2 => gx2 | 3 => gx3 | 4 => gx4 | 5 => gx5 | 6 => gx6 | 7 => gx7 | 8 => gx8 | 9 => gx9 | 10 => gx10 | _ => gx11
  let cE : Nat → Addr := fun i => match i with | 0 => fx0 | 1 => fx1 | 2 => fx2 | 3 => fx3 | 4 => fx4 | 5 => fx5 | 6 => fx6 | 7 => fx7 | 8 => fx8 | 9 => fx9 | _ => fx10
  let cD : Nat → FuncData := fun i => match i with | 0 => PySem.W.fnOf "__init__" "InvalidStep.__init__" (defArgs (eS 0)) (defBody (eS 0)) (defScope (eS 0)) .none kVx0 dcx0 pmx0 anx0 cdx0 ctx0 | 1 => PySem.W.fnOf "__init__" "InvalidTrait.__init__" (defArgs (eS 1)) (defBody (eS 1)) (defScope (eS 1)) .none kVx1 dcx1 pmx1 anx1 cdx1 ctx1 | 2 => PySem.W.fnOf "__init__" "InvalidExpr.__init__" (defArgs (eS 2)) (defBody (eS 2)) (defScope (eS 2)) .none kVx2 dcx2 pmx2 anx2 cdx2 ctx2 | 3 => PySem.W.fnOf "__init__" "InvalidRow.__init__" (defArgs (eS 3)) (defBody (eS 3)) (defScope (eS 3)) .none kVx3 dcx3 pmx3 anx3 cdx3 ctx3 | 4 => PySem.W.fnOf "__init__" "InvalidText.__init__" (defArgs (eS 4)) (defBody (eS 4)) (defScope (eS 4)) .none kVx4 dcx4 pmx4 anx4 cdx4 ctx4 | 5 => PySem.W.fnOf "__init__" "InvalidWorld.__init__" (defArgs (eS 5)) (defBody (eS 5)) (defScope (eS 5)) .none kVx5 dcx5 pmx5 anx5 cdx5 ctx5 | 6 => PySem.W.fnOf "__init__" "InvalidStart.__init__" (defArgs (eS 6)) (defBody (eS 6)) (defScope (eS 6)) .none kVx6 dcx6 pmx6 anx6 cdx6 ctx6 | 7 => PySem.W.fnOf "__init__" "InvalidClaim.__init__" (defArgs (eS 7)) (defBody (eS 7)) (defScope (eS 7)) .none kVx7 dcx7 pmx7 anx7 cdx7 ctx7 | 8 => PySem.W.fnOf "__init__" "NoName.__init__" (defArgs (eS 8)) (defBody (eS 8)) (defScope (eS 8)) .none kVx8 dcx8 pmx8 anx8 cdx8 ctx8 | 9 => PySem.W.fnOf "__init__" "NoStep.__init__" (defArgs (eS 9)) (defBody (eS 9)) (defScope (eS 9)) .none kVx9 dcx9 pmx9 anx9 cdx9 ctx9 | _ => PySem.W.fnOf "__init__" "NoRow.__init__" (defArgs (eS 10)) (defBody (eS 10)) (defScope (eS 10)) .none kVx10 dcx10 pmx10 anx10 cdx10 ctx10
  have EE : Errs K mg C gx12 cE cD := ⟨rows11 (p := fun i => Er K mg i (C i) (cE i) (cD i)) Rx0 Rx1 Rx2 Rx3 Rx4 Rx5 Rx6 Rx7 Rx8 Rx9 Rx10, Rx11, Rx12,
    fun i j hi hj => rows12 (p := fun i => ∀ j, j < 12 → PySem.W.kitOne K (.ref (C i)) (.ref (C j)) = some (decide (i = j))) (rows12 (p := fun j => PySem.W.kitOne K (.ref (C 0)) (.ref (C j)) = some (decide (0 = j))) y0_0 y0_1 y0_2 y0_3 y0_4 y0_5 y0_6 y0_7 y0_8 y0_9 y0_10 y0_11) (rows12 (p := fun j => PySem.W.kitOne K (.ref (C 1)) (.ref (C j)) = some (decide (1 = j))) y1_0 y1_1 y1_2 y1_3 y1_4 y1_5 y1_6 y1_7 y1_8 y1_9 y1_10 y1_11) (rows12 (p := fun j => PySem.W.kitOne K (.ref (C 2)) (.ref (C j)) = some (decide (2 = j))) y2_0 y2_1 y2_2 y2_3 y2_4 y2_5 y2_6 y2_7 y2_8 y2_9 y2_10 y2_11) (rows12 (p := fun j => PySem.W.kitOne K (.ref (C 3)) (.ref (C j)) = some (decide (3 = j))) y3_0 y3_1 y3_2 y3_3 y3_4 y3_5 y3_6 y3_7 y3_8 y3_9 y3_10 y3_11) (rows12 (p := fun j => PySem.W.kitOne K (.ref (C 4)) (.ref (C j)) = some (decide (4 = j))) y4_0 y4_1 y4_2 y4_3 y4_4 y4_5 y4_6 y4_7 y4_8 y4_9 y4_10 y4_11) (rows12 (p := fun j => PySem.W.kitOne K (.ref (C 5)) (.ref (C j)) = some (decide (5 = j))) y5_0 y5_1 y5_2 y5_3 y5_4 y5_5 y5_6 y5_7 y5_8 y5_9 y5_10 y5_11) (rows12 (p := fun j => PySem.W.kitOne K (.ref (C 6)) (.ref (C j)) = some (decide (6 = j))) y6_0 y6_1 y6_2 y6_3 y6_4 y6_5 y6_6 y6_7 y6_8 y6_9 y6_10 y6_11) (rows12 (p := fun j => PySem.W.kitOne K (.ref (C 7)) (.ref (C j)) = some (decide (7 = j))) y7_0 y7_1 y7_2 y7_3 y7_4 y7_5 y7_6 y7_7 y7_8 y7_9 y7_10 y7_11) (rows12 (p := fun j => PySem.W.kitOne K (.ref (C 8)) (.ref (C j)) = some (decide (8 = j))) y8_0 y8_1 y8_2 y8_3 y8_4 y8_5 y8_6 y8_7 y8_8 y8_9 y8_10 y8_11) (rows12 (p := fun j => PySem.W.kitOne K (.ref (C 9)) (.ref (C j)) = some (decide (9 = j))) y9_0 y9_1 y9_2 y9_3 y9_4 y9_5 y9_6 y9_7 y9_8 y9_9 y9_10 y9_11) (rows12 (p := fun j => PySem.W.kitOne K (.ref (C 10)) (.ref (C j)) = some (decide (10 = j))) y10_0 y10_1 y10_2 y10_3 y10_4 y10_5 y10_6 y10_7 y10_8 y10_9 y10_10 y10_11) (rows12 (p := fun j => PySem.W.kitOne K (.ref (C 11)) (.ref (C j)) = some (decide (11 = j))) y11_0 y11_1 y11_2 y11_3 y11_4 y11_5 y11_6 y11_7 y11_8 y11_9 y11_10 y11_11) i hi j hj,
    rows12 (p := fun j => PySem.W.kitOne K (.ref gx12) (.ref (C j)) = some false) yb0 yb1 yb2 yb3 yb4 yb5 yb6 yb7 yb8 yb9 yb10 yb11,
    rows12 (p := fun i => PySem.W.kitOne K (.ref (C i)) (.type "ValueError") = some true) yv0 yv1 yv2 yv3 yv4 yv5 yv6 yv7 yv8 yv9 yv10 yv11,
    rows12 (p := fun i => PySem.W.kitOne K (.ref (C i)) (.ref gx12) = some true) yw0 yw1 yw2 yw3 yw4 yw5 yw6 yw7 yw8 yw9 yw10 yw11, yvb⟩
  exact ⟨PySem.W.fnOf "law" "law" (defArgs sLaw) (defBody sLaw) (defScope sLaw) .none kVlaw dclaw pmlaw anlaw cdlaw ctlaw, fun s v => .of_eq rfl, fun base _ _ => by
    have GF := ok_feed (P := l.prog) (w := w) (base := base) S Flaw_feed
    have GA := ok_any (P := l.prog) (base := base) S KI MK AF Dlaw_any 3
    have GP := ok_pick (P := l.prog) (w := w) (base := base) S Flaw_pick Dlaw_draw
    have GWd := ok_word (P := l.prog) (w := w) (base := base) S Flaw_word Dlaw_draw Dlaw_pick
    have GWs := ok_words (P := l.prog) (w := w) (base := base) S Flaw_words Dlaw_word GWd
    have GS0 := ok_stInit (P := l.prog) (w := w) (base := base) S W Dis_name (PySem.W.mg_of X G w5) (PySem.W.mg_of X G w6) Dare_ways KI.S.cl KI.s1 KI.s2 FiS
    have GT0 := ok_trInit (P := l.prog) (base := base) S KI.S KI.s2 FT Dare_steps Dways_fit KI.T.cl KI.t1 KI.t2 FiT
    have e1 := EE.er 1 (by decide)
    have GTX := ok_trX (P := l.prog) (base := base) S KI.S KI.s1 KI.s2 KI.qS neS F2 Dare_steps Dways_fit KI.T.cl KI.t1 KI.t2 e1 FiT
    have GX := ok_traitX (P := l.prog) (base := base) S KI.T.g MT GTX Flaw_trait
    have GT := ok_told (P := l.prog) (base := base) S EE xm Dlaw_trait GX Dlaw_refused Flaw_told
    have GR := ok_right (P := l.prog) (base := base) S KI TT MS GS0 biS MT GT0 Dlaw_trait GX Dlaw_same Flaw_right
    have GU := ok_due (P := l.prog) (w := w) (base := base) S KI.S KI.s1 KI.s2 KI.qS Dlaw_fits Flaw_due
    have GPS := ok_poolS (P := l.prog) (w := w) (base := base) S KI.S MS GS0 biS Dlaw_words GWs Dlaw_pick GP Flaw_pool_steps
    have GPT := ok_poolT (P := l.prog) (base := base) S KI.S KI.s1 KI.s2 KI.qS neS KI.T.g MT GTX Dlaw_draw Dlaw_fits Flaw_pool_traits
    exact ok_law S KI NO Flaw MS GS0 biS MT GT0 Dlaw_feed GF Dlaw_draw Dlaw_pick GP Dlaw_any GA Dlaw_pool_steps GPS Dlaw_pool_traits GPT Dlaw_due GU Dlaw_told GT Dlaw_same Dlaw_right GR⟩
theorem walk {l : PySem.W.OpenLaw} {q : Program} {loose : List Str} {XP : (Str → Option Value) → Heap → Prop} {YP : World → Heap → Prop} {d : DefRec} {K : Params → PySem.W.Frag} (hn : l.most = some 63) (hdf : d.params.defaults = [])
    (hY : ∀ (w : World) (h : Heap), YP w h → (K w.params).In h)
    (F : ∀ (w : World) (mg : Str → Option Value) (fa : Addr) (h : Heap), (K w.params).In h → h.Ns mainGlobals mg → mg d.name = some (.ref fa) →
      ∃ fd : FuncData, (∀ (s : Shared) (u : Value), BindsTo s fd ⟨[u], []⟩ [("_law_script", u)]) ∧ ∀ base : Heap, (K w.params).In base → base.Ns mainGlobals mg → FnOk l.prog w (K w.params) mg base CX0 10 fa fd ["_law_script"] (spLaw (K w.params))) :
    PySem.W.WalkO q loose XP YP l.row.toRowW d [] (fun f vs => PySem.call f vs) :=
  L2.walk_of (n := 63) (k := 10) (x := "_law_script") (CX := fun _ => CX0) (sp := fun w => spLaw (K w.params)) hn (by decide) hdf ⟨rfl, by decide, by decide⟩ hY F (fun _ _ a ns hl _ hS => ⟨a, ns, rfl, hS, hl, fun _ => rfl⟩) fun _ _ _ _ _ z => z
end LK

open PySem PySem.W PyProof.Rows
set_option maxHeartbeats 0
open_top head for PySem.Challenge.rw_knownways_k05_traits_of_steps
set_option maxRecDepth 100000 in
set_option maxHeartbeats 0 in
theorem PySem.Challenge.cw_knownways_k05_traits_of_steps_holds : PySem.Challenge.rw_knownways_k05_traits_of_steps.Holds := by
  refine head ?_
  k_fill
  refine LK.walk (l := PySem.Challenge.rw_knownways_k05_traits_of_steps) rfl rfl (fun w h Y => PySem.W.kIn_of Y) ?F
  case F =>
    intro w mg fa h KX G hmg
    refine' LK.all_mk KX G hmg ?b_len ?b_abs ?b_int ?b_range ?b_isinstance ?b_tuple ?b_list ?b_all ?b_zip ?b_bool ?b_str ?b_set ?b_sorted ?b_sum ?b_any ?b_enumerate ?b_ve ?alaw_feed ?llaw_feed ?claw_feed ?klaw_feed ?alaw_draw ?llaw_draw ?claw_draw ?klaw_draw ?alaw_pick ?llaw_pick ?claw_pick ?klaw_pick ?alaw_same ?llaw_same ?claw_same ?klaw_same ?alaw_word ?llaw_word ?claw_word ?klaw_word ?alaw_words ?llaw_words ?claw_words ?klaw_words ?alaw_sign ?llaw_sign ?claw_sign ?klaw_sign ?alaw_bent ?llaw_bent ?claw_bent ?klaw_bent ?alaw_near_name ?llaw_near_name ?claw_near_name ?klaw_near_name ?alaw_any ?llaw_any ?claw_any ?klaw_any ?alaw_ways ?llaw_ways ?claw_ways ?klaw_ways ?alaw_refused ?llaw_refused ?claw_refused ?klaw_refused ?alaw_fits ?llaw_fits ?claw_fits ?klaw_fits ?alaw_pool_steps ?llaw_pool_steps ?claw_pool_steps ?klaw_pool_steps ?alaw_pool_traits ?llaw_pool_traits ?claw_pool_traits ?klaw_pool_traits ?alaw_trait ?llaw_trait ?claw_trait ?klaw_trait ?alaw_told ?llaw_told ?claw_told ?klaw_told ?alaw_due ?llaw_due ?claw_due ?klaw_due ?alaw_right ?llaw_right ?claw_right ?klaw_right ?alaw ?llaw ?claw ?klaw ?ais_name ?lis_name ?cis_name ?kis_name ?anamed ?lnamed ?cnamed ?knamed ?aare_ways ?lare_ways ?care_ways ?kare_ways ?aare_steps ?lare_steps ?care_steps ?kare_steps ?aways_fit ?lways_fit ?cways_fit ?kways_fit ?aall_names ?lall_names ?call_names ?kall_names ?eall_names ?aall_steps ?lall_steps ?call_steps ?kall_steps ?eall_steps ?w1 ?w2 ?w3 ?w4 ?w5 ?w6 ?w7 ?w8 ?w9 ?w10 ?w11 ?w12 ?w13 ?w14 ?w15 ?w16 ?w17 ?wc_up ?wc_down ?wc_settled ?wc_mean ?wc_alike ?wc_below ?wc_back ?wck ?wf_up ?wg_up ?wf_down ?wg_down ?wf_settled ?wg_settled ?wf_mean ?wg_mean ?wf_alike ?wg_alike ?wf_back ?wg_back ?so ?tk ?gSa ?gS1 ?gS2 ?gS3 ?gS4 ?gS5 ?gS6 ?gSk0 ?gSk1 ?gSk2 ?gSk3 ?gS7 ?gS8 ?aiS ?niS ?liS ?ciS ?kiS ?aqS ?nqS ?lqS ?cqS ?kqS ?gS_name ?gS_ways ?gEa ?gE1 ?gE2 ?gE3 ?gE4 ?gE5 ?gE6 ?gEk0 ?gEk1 ?gEk2 ?gEk3 ?gE7 ?gE8 ?aiE ?niE ?liE ?ciE ?kiE ?aqE ?nqE ?lqE ?cqE ?kqE ?gE_kind ?gE_word ?gE_step ?gE_parts ?gE_names ?gE_steps ?gE_size ?gE_applied ?gTa ?gT1 ?gT2 ?gT3 ?gT4 ?gT5 ?gT6 ?gTk0 ?gTk1 ?gTk2 ?gTk3 ?gT7 ?gT8 ?aiT ?niT ?liT ?ciT ?kiT ?aqT ?nqT ?lqT ?cqT ?kqT ?gT_word ?gT_steps ?gCa ?gC1 ?gC2 ?gC3 ?gC4 ?gC5 ?gC6 ?gCk0 ?gCk1 ?gCk2 ?gCk3 ?gC7 ?gC8 ?aiC ?niC ?liC ?ciC ?kiC ?aqC ?nqC ?lqC ?cqC ?kqC ?gC_steps ?alS ?nlS ?llS ?clS ?klS ?neS ?atT ?ntT ?ltT ?ctT ?ktT ?neT ?kTt ?knS ?knE ?knT ?knC ?kon ?kob ?koi ?kol ?kot ?kcE ?kcT ?kcC ?gx0a ?gx0_c ?gx0_r ?gx0_1 ?gx0_2 ?gx0_3 ?gx0_4 ?gx0_5 ?gx0_6 ?gx0_7 ?gx0_8 ?gx0_9 ?ax0 ?tx0 ?lx0 ?cx0 ?kx0 ?nx0 ?gx1a ?gx1_c ?gx1_r ?gx1_1 ?gx1_2 ?gx1_3 ?gx1_4 ?gx1_5 ?gx1_6 ?gx1_7 ?gx1_8 ?gx1_9 ?ax1 ?tx1 ?lx1 ?cx1 ?kx1 ?nx1 ?gx2a ?gx2_c ?gx2_r ?gx2_1 ?gx2_2 ?gx2_3 ?gx2_4 ?gx2_5 ?gx2_6 ?gx2_7 ?gx2_8 ?gx2_9 ?ax2 ?tx2 ?lx2 ?cx2 ?kx2 ?nx2 ?gx3a ?gx3_c ?gx3_r ?gx3_1 ?gx3_2 ?gx3_3 ?gx3_4 ?gx3_5 ?gx3_6 ?gx3_7 ?gx3_8 ?gx3_9 ?ax3 ?tx3 ?lx3 ?cx3 ?kx3 ?nx3 ?gx4a ?gx4_c ?gx4_r ?gx4_1 ?gx4_2 ?gx4_3 ?gx4_4 ?gx4_5 ?gx4_6 ?gx4_7 ?gx4_8 ?gx4_9 ?ax4 ?tx4 ?lx4 ?cx4 ?kx4 ?nx4 ?gx5a ?gx5_c ?gx5_r ?gx5_1 ?gx5_2 ?gx5_3 ?gx5_4 ?gx5_5 ?gx5_6 ?gx5_7 ?gx5_8 ?gx5_9 ?ax5 ?tx5 ?lx5 ?cx5 ?kx5 ?nx5 ?gx6a ?gx6_c ?gx6_r ?gx6_1 ?gx6_2 ?gx6_3 ?gx6_4 ?gx6_5 ?gx6_6 ?gx6_7 ?gx6_8 ?gx6_9 ?ax6 ?tx6 ?lx6 ?cx6 ?kx6 ?nx6 ?gx7a ?gx7_c ?gx7_r ?gx7_1 ?gx7_2 ?gx7_3 ?gx7_4 ?gx7_5 ?gx7_6 ?gx7_7 ?gx7_8 ?gx7_9 ?ax7 ?tx7 ?lx7 ?cx7 ?kx7 ?nx7 ?gx8a ?gx8_c ?gx8_r ?gx8_1 ?gx8_2 ?gx8_3 ?gx8_4 ?gx8_5 ?gx8_6 ?gx8_7 ?gx8_8 ?gx8_9 ?ax8 ?tx8 ?lx8 ?cx8 ?kx8 ?nx8 ?gx9a ?gx9_c ?gx9_r ?gx9_1 ?gx9_2 ?gx9_3 ?gx9_4 ?gx9_5 ?gx9_6 ?gx9_7 ?gx9_8 ?gx9_9 ?ax9 ?tx9 ?lx9 ?cx9 ?kx9 ?nx9 ?gx10a ?gx10_c ?gx10_r ?gx10_1 ?gx10_2 ?gx10_3 ?gx10_4 ?gx10_5 ?gx10_6 ?gx10_7 ?gx10_8 ?gx10_9 ?ax10 ?tx10 ?lx10 ?cx10 ?kx10 ?nx10 ?gx11a ?gx11_c ?gx11_r ?gx11_1 ?gx11_2 ?gx11_3 ?gx11_4 ?gx11_5 ?gx11_6 ?gx11_7 ?gx11_8 ?gx11_9 ?ax11 ?gx12a ?gx12_c ?gx12_r ?gx12_1 ?gx12_2 ?gx12_3 ?gx12_4 ?gx12_5 ?gx12_6 ?gx12_7 ?gx12_8 ?gx12_9 ?ax12 ?y0_0 ?y0_1 ?y0_2 ?y0_3 ?y0_4 ?y0_5 ?y0_6 ?y0_7 ?y0_8 ?y0_9 ?y0_10 ?y0_11 ?yb0 ?yv0 ?yw0 ?y1_0 ?y1_1 ?y1_2 ?y1_3 ?y1_4 ?y1_5 ?y1_6 ?y1_7 ?y1_8 ?y1_9 ?y1_10 ?y1_11 ?yb1 ?yv1 ?yw1 ?y2_0 ?y2_1 ?y2_2 ?y2_3 ?y2_4 ?y2_5 ?y2_6 ?y2_7 ?y2_8 ?y2_9 ?y2_10 ?y2_11 ?yb2 ?yv2 ?yw2 ?y3_0 ?y3_1 ?y3_2 ?y3_3 ?y3_4 ?y3_5 ?y3_6 ?y3_7 ?y3_8 ?y3_9 ?y3_10 ?y3_11 ?yb3 ?yv3 ?yw3 ?y4_0 ?y4_1 ?y4_2 ?y4_3 ?y4_4 ?y4_5 ?y4_6 ?y4_7 ?y4_8 ?y4_9 ?y4_10 ?y4_11 ?yb4 ?yv4 ?yw4 ?y5_0 ?y5_1 ?y5_2 ?y5_3 ?y5_4 ?y5_5 ?y5_6 ?y5_7 ?y5_8 ?y5_9 ?y5_10 ?y5_11 ?yb5 ?yv5 ?yw5 ?y6_0 ?y6_1 ?y6_2 ?y6_3 ?y6_4 ?y6_5 ?y6_6 ?y6_7 ?y6_8 ?y6_9 ?y6_10 ?y6_11 ?yb6 ?yv6 ?yw6 ?y7_0 ?y7_1 ?y7_2 ?y7_3 ?y7_4 ?y7_5 ?y7_6 ?y7_7 ?y7_8 ?y7_9 ?y7_10 ?y7_11 ?yb7 ?yv7 ?yw7 ?y8_0 ?y8_1 ?y8_2 ?y8_3 ?y8_4 ?y8_5 ?y8_6 ?y8_7 ?y8_8 ?y8_9 ?y8_10 ?y8_11 ?yb8 ?yv8 ?yw8 ?y9_0 ?y9_1 ?y9_2 ?y9_3 ?y9_4 ?y9_5 ?y9_6 ?y9_7 ?y9_8 ?y9_9 ?y9_10 ?y9_11 ?yb9 ?yv9 ?yw9 ?y10_0 ?y10_1 ?y10_2 ?y10_3 ?y10_4 ?y10_5 ?y10_6 ?y10_7 ?y10_8 ?y10_9 ?y10_10 ?y10_11 ?yb10 ?yv10 ?yw10 ?y11_0 ?y11_1 ?y11_2 ?y11_3 ?y11_4 ?y11_5 ?y11_6 ?y11_7 ?y11_8 ?y11_9 ?y11_10 ?y11_11 ?yb11 ?yv11 ?yw11 ?xm ?yvb
    (case b_len => k_is)
    (case b_abs => k_is)
    (case b_int => k_is)
    (case b_range => k_is)
    (case b_isinstance => k_is)
    (case b_tuple => k_is)
    (case b_list => k_is)
    (case b_all => k_is)
    (case b_zip => k_is)
    (case b_bool => k_is)
    (case b_str => k_is)
    (case b_set => k_is)
    (case b_sorted => k_is)
    (case b_sum => k_is)
    (case b_any => k_is)
    (case b_enumerate => k_is)
    (case b_ve => k_is)
    (case alaw_feed => k_is)
    (case llaw_feed => k_is)
    (case claw_feed => k_is)
    (case klaw_feed => k_is)
    (case alaw_draw => k_is)
    (case llaw_draw => k_is)
    (case claw_draw => k_is)
    (case klaw_draw => k_is)
    (case alaw_pick => k_is)
    (case llaw_pick => k_is)
    (case claw_pick => k_is)
    (case klaw_pick => k_is)
    (case alaw_same => k_is)
    (case llaw_same => k_is)
    (case claw_same => k_is)
    (case klaw_same => k_is)
    (case alaw_word => k_is)
    (case llaw_word => k_is)
    (case claw_word => k_is)
    (case klaw_word => k_is)
    (case alaw_words => k_is)
    (case llaw_words => k_is)
    (case claw_words => k_is)
    (case klaw_words => k_is)
    (case alaw_sign => k_is)
    (case llaw_sign => k_is)
    (case claw_sign => k_is)
    (case klaw_sign => k_is)
    (case alaw_bent => k_is)
    (case llaw_bent => k_is)
    (case claw_bent => k_is)
    (case klaw_bent => k_is)
    (case alaw_near_name => k_is)
    (case llaw_near_name => k_is)
    (case claw_near_name => k_is)
    (case klaw_near_name => k_is)
    (case alaw_any => k_is)
    (case llaw_any => k_is)
    (case claw_any => k_is)
    (case klaw_any => k_is)
    (case alaw_ways => k_is)
    (case llaw_ways => k_is)
    (case claw_ways => k_is)
    (case klaw_ways => k_is)
    (case alaw_refused => k_is)
    (case llaw_refused => k_is)
    (case claw_refused => k_is)
    (case klaw_refused => k_is)
    (case alaw_fits => k_is)
    (case llaw_fits => k_is)
    (case claw_fits => k_is)
    (case klaw_fits => k_is)
    (case alaw_pool_steps => k_is)
    (case llaw_pool_steps => k_is)
    (case claw_pool_steps => k_is)
    (case klaw_pool_steps => k_is)
    (case alaw_pool_traits => k_is)
    (case llaw_pool_traits => k_is)
    (case claw_pool_traits => k_is)
    (case klaw_pool_traits => k_is)
    (case alaw_trait => k_is)
    (case llaw_trait => k_is)
    (case claw_trait => k_is)
    (case klaw_trait => k_is)
    (case alaw_told => k_is)
    (case llaw_told => k_is)
    (case claw_told => k_is)
    (case klaw_told => k_is)
    (case alaw_due => k_is)
    (case llaw_due => k_is)
    (case claw_due => k_is)
    (case klaw_due => k_is)
    (case alaw_right => k_is)
    (case llaw_right => k_is)
    (case claw_right => k_is)
    (case klaw_right => k_is)
    (case alaw => k_is)
    (case llaw => k_is)
    (case claw => k_is)
    (case klaw => k_is)
    (case ais_name => k_is)
    (case lis_name => k_is)
    (case cis_name => k_is)
    (case kis_name => k_is)
    (case anamed => k_is)
    (case lnamed => k_is)
    (case cnamed => k_is)
    (case knamed => k_is)
    (case aare_ways => k_is)
    (case lare_ways => k_is)
    (case care_ways => k_is)
    (case kare_ways => k_is)
    (case aare_steps => k_is)
    (case lare_steps => k_is)
    (case care_steps => k_is)
    (case kare_steps => k_is)
    (case aways_fit => k_is)
    (case lways_fit => k_is)
    (case cways_fit => k_is)
    (case kways_fit => k_is)
    (case aall_names => k_is)
    (case lall_names => k_is)
    (case call_names => k_is)
    (case kall_names => k_is)
    (case eall_names => k_is)
    (case aall_steps => k_is)
    (case lall_steps => k_is)
    (case call_steps => k_is)
    (case kall_steps => k_is)
    (case eall_steps => k_is)
    (case w1 => k_is)
    (case w2 => k_is)
    (case w3 => k_is)
    (case w4 => k_is)
    (case w5 => k_is)
    (case w6 => k_is)
    (case w7 => k_is)
    (case w8 => k_is)
    (case w9 => k_keys)
    (case w10 => decide)
    (case w11 => k_is)
    (case w12 => k_is)
    (case w13 => k_is)
    (case w14 => k_keys)
    (case w15 => decide)
    (case w16 => k_is)
    (case w17 => k_is)
    (case wc_up => k_is)
    (case wc_down => k_is)
    (case wc_settled => k_is)
    (case wc_mean => k_is)
    (case wc_alike => k_is)
    (case wc_below => k_is)
    (case wc_back => k_is)
    (case wck => first | rfl | decide +kernel | kernel_rfl)
    (case wf_up => k_is)
    (case wg_up => k_is)
    (case wf_down => k_is)
    (case wg_down => k_is)
    (case wf_settled => k_is)
    (case wg_settled => k_is)
    (case wf_mean => k_is)
    (case wg_mean => k_is)
    (case wf_alike => k_is)
    (case wg_alike => k_is)
    (case wf_back => k_is)
    (case wg_back => k_is)
    (case so => k_is)
    (case tk => k_is)
    (case gSa => k_is)
    (case gS1 => k_is)
    (case gS2 => k_is)
    (case gS3 => k_is)
    (case gS4 => k_is)
    (case gS5 => k_is)
    (case gS6 => k_is)
    (case gSk0 => kit_is)
    (case gSk1 => kit_is)
    (case gSk2 => kit_is)
    (case gSk3 => kit_is)
    (case gS7 => k_is)
    (case gS8 => k_is)
    (case aiS => k_is)
    (case niS => k_is)
    (case liS => k_is)
    (case ciS => k_is)
    (case kiS => k_is)
    (case aqS => k_is)
    (case nqS => k_is)
    (case lqS => k_is)
    (case cqS => k_is)
    (case kqS => k_is)
    (case gS_name => k_is)
    (case gS_ways => k_is)
    (case gEa => k_is)
    (case gE1 => k_is)
    (case gE2 => k_is)
    (case gE3 => k_is)
    (case gE4 => k_is)
    (case gE5 => k_is)
    (case gE6 => k_is)
    (case gEk0 => kit_is)
    (case gEk1 => kit_is)
    (case gEk2 => kit_is)
    (case gEk3 => kit_is)
    (case gE7 => k_is)
    (case gE8 => k_is)
    (case aiE => k_is)
    (case niE => k_is)
    (case liE => k_is)
    (case ciE => k_is)
    (case kiE => k_is)
    (case aqE => k_is)
    (case nqE => k_is)
    (case lqE => k_is)
    (case cqE => k_is)
    (case kqE => k_is)
    (case gE_kind => k_is)
    (case gE_word => k_is)
    (case gE_step => k_is)
    (case gE_parts => k_is)
    (case gE_names => k_is)
    (case gE_steps => k_is)
    (case gE_size => k_is)
    (case gE_applied => k_is)
    (case gTa => k_is)
    (case gT1 => k_is)
    (case gT2 => k_is)
    (case gT3 => k_is)
    (case gT4 => k_is)
    (case gT5 => k_is)
    (case gT6 => k_is)
    (case gTk0 => kit_is)
    (case gTk1 => kit_is)
    (case gTk2 => kit_is)
    (case gTk3 => kit_is)
    (case gT7 => k_is)
    (case gT8 => k_is)
    (case aiT => k_is)
    (case niT => k_is)
    (case liT => k_is)
    (case ciT => k_is)
    (case kiT => k_is)
    (case aqT => k_is)
    (case nqT => k_is)
    (case lqT => k_is)
    (case cqT => k_is)
    (case kqT => k_is)
    (case gT_word => k_is)
    (case gT_steps => k_is)
    (case gCa => k_is)
    (case gC1 => k_is)
    (case gC2 => k_is)
    (case gC3 => k_is)
    (case gC4 => k_is)
    (case gC5 => k_is)
    (case gC6 => k_is)
    (case gCk0 => kit_is)
    (case gCk1 => kit_is)
    (case gCk2 => kit_is)
    (case gCk3 => kit_is)
    (case gC7 => k_is)
    (case gC8 => k_is)
    (case aiC => k_is)
    (case niC => k_is)
    (case liC => k_is)
    (case ciC => k_is)
    (case kiC => k_is)
    (case aqC => k_is)
    (case nqC => k_is)
    (case lqC => k_is)
    (case cqC => k_is)
    (case kqC => k_is)
    (case gC_steps => k_is)
    (case alS => k_is)
    (case nlS => k_is)
    (case llS => k_is)
    (case clS => k_is)
    (case klS => k_is)
    (case neS => k_is)
    (case atT => k_is)
    (case ntT => k_is)
    (case ltT => k_is)
    (case ctT => k_is)
    (case ktT => k_is)
    (case neT => k_is)
    (case kTt => kit_is)
    (case knS => kit_is)
    (case knE => kit_is)
    (case knT => kit_is)
    (case knC => kit_is)
    (case kon => kit_is)
    (case kob => kit_is)
    (case koi => kit_is)
    (case kol => kit_is)
    (case kot => kit_is)
    (case kcE => kit_is)
    (case kcT => kit_is)
    (case kcC => kit_is)
    (case gx0a => k_is)
    (case gx0_c => k_is)
    (case gx0_r => decide +kernel)
    (case gx0_1 => k_is)
    (case gx0_2 => k_is)
    (case gx0_3 => k_is)
    (case gx0_4 => k_is)
    (case gx0_5 => k_is)
    (case gx0_6 => k_is)
    (case gx0_7 => k_is)
    (case gx0_8 => k_is)
    (case gx0_9 => k_is)
    (case ax0 => k_is)
    (case tx0 => k_is)
    (case lx0 => k_is)
    (case cx0 => k_is)
    (case kx0 => k_is)
    (case nx0 => k_is)
    (case gx1a => k_is)
    (case gx1_c => k_is)
    (case gx1_r => decide +kernel)
    (case gx1_1 => k_is)
    (case gx1_2 => k_is)
    (case gx1_3 => k_is)
    (case gx1_4 => k_is)
    (case gx1_5 => k_is)
    (case gx1_6 => k_is)
    (case gx1_7 => k_is)
    (case gx1_8 => k_is)
    (case gx1_9 => k_is)
    (case ax1 => k_is)
    (case tx1 => k_is)
    (case lx1 => k_is)
    (case cx1 => k_is)
    (case kx1 => k_is)
    (case nx1 => k_is)
    (case gx2a => k_is)
    (case gx2_c => k_is)
    (case gx2_r => decide +kernel)
    (case gx2_1 => k_is)
    (case gx2_2 => k_is)
    (case gx2_3 => k_is)
    (case gx2_4 => k_is)
    (case gx2_5 => k_is)
    (case gx2_6 => k_is)
    (case gx2_7 => k_is)
    (case gx2_8 => k_is)
    (case gx2_9 => k_is)
    (case ax2 => k_is)
    (case tx2 => k_is)
    (case lx2 => k_is)
    (case cx2 => k_is)
    (case kx2 => k_is)
    (case nx2 => k_is)
    (case gx3a => k_is)
    (case gx3_c => k_is)
    (case gx3_r => decide +kernel)
    (case gx3_1 => k_is)
    (case gx3_2 => k_is)
    (case gx3_3 => k_is)
    (case gx3_4 => k_is)
    (case gx3_5 => k_is)
    (case gx3_6 => k_is)
    (case gx3_7 => k_is)
    (case gx3_8 => k_is)
    (case gx3_9 => k_is)
    (case ax3 => k_is)
    (case tx3 => k_is)
    (case lx3 => k_is)
    (case cx3 => k_is)
    (case kx3 => k_is)
    (case nx3 => k_is)
    (case gx4a => k_is)
    (case gx4_c => k_is)
    (case gx4_r => decide +kernel)
    (case gx4_1 => k_is)
    (case gx4_2 => k_is)
    (case gx4_3 => k_is)
    (case gx4_4 => k_is)
    (case gx4_5 => k_is)
    (case gx4_6 => k_is)
    (case gx4_7 => k_is)
    (case gx4_8 => k_is)
    (case gx4_9 => k_is)
    (case ax4 => k_is)
    (case tx4 => k_is)
    (case lx4 => k_is)
    (case cx4 => k_is)
    (case kx4 => k_is)
    (case nx4 => k_is)
    (case gx5a => k_is)
    (case gx5_c => k_is)
    (case gx5_r => decide +kernel)
    (case gx5_1 => k_is)
    (case gx5_2 => k_is)
    (case gx5_3 => k_is)
    (case gx5_4 => k_is)
    (case gx5_5 => k_is)
    (case gx5_6 => k_is)
    (case gx5_7 => k_is)
    (case gx5_8 => k_is)
    (case gx5_9 => k_is)
    (case ax5 => k_is)
    (case tx5 => k_is)
    (case lx5 => k_is)
    (case cx5 => k_is)
    (case kx5 => k_is)
    (case nx5 => k_is)
    (case gx6a => k_is)
    (case gx6_c => k_is)
    (case gx6_r => decide +kernel)
    (case gx6_1 => k_is)
    (case gx6_2 => k_is)
    (case gx6_3 => k_is)
    (case gx6_4 => k_is)
    (case gx6_5 => k_is)
    (case gx6_6 => k_is)
    (case gx6_7 => k_is)
    (case gx6_8 => k_is)
    (case gx6_9 => k_is)
    (case ax6 => k_is)
    (case tx6 => k_is)
    (case lx6 => k_is)
    (case cx6 => k_is)
    (case kx6 => k_is)
    (case nx6 => k_is)
    (case gx7a => k_is)
    (case gx7_c => k_is)
    (case gx7_r => decide +kernel)
    (case gx7_1 => k_is)
    (case gx7_2 => k_is)
    (case gx7_3 => k_is)
    (case gx7_4 => k_is)
    (case gx7_5 => k_is)
    (case gx7_6 => k_is)
    (case gx7_7 => k_is)
    (case gx7_8 => k_is)
    (case gx7_9 => k_is)
    (case ax7 => k_is)
    (case tx7 => k_is)
    (case lx7 => k_is)
    (case cx7 => k_is)
    (case kx7 => k_is)
    (case nx7 => k_is)
    (case gx8a => k_is)
    (case gx8_c => k_is)
    (case gx8_r => decide +kernel)
    (case gx8_1 => k_is)
    (case gx8_2 => k_is)
    (case gx8_3 => k_is)
    (case gx8_4 => k_is)
    (case gx8_5 => k_is)
    (case gx8_6 => k_is)
    (case gx8_7 => k_is)
    (case gx8_8 => k_is)
    (case gx8_9 => k_is)
    (case ax8 => k_is)
    (case tx8 => k_is)
    (case lx8 => k_is)
    (case cx8 => k_is)
    (case kx8 => k_is)
    (case nx8 => k_is)
    (case gx9a => k_is)
    (case gx9_c => k_is)
    (case gx9_r => decide +kernel)
    (case gx9_1 => k_is)
    (case gx9_2 => k_is)
    (case gx9_3 => k_is)
    (case gx9_4 => k_is)
    (case gx9_5 => k_is)
    (case gx9_6 => k_is)
    (case gx9_7 => k_is)
    (case gx9_8 => k_is)
    (case gx9_9 => k_is)
    (case ax9 => k_is)
    (case tx9 => k_is)
    (case lx9 => k_is)
    (case cx9 => k_is)
    (case kx9 => k_is)
    (case nx9 => k_is)
    (case gx10a => k_is)
    (case gx10_c => k_is)
    (case gx10_r => decide +kernel)
    (case gx10_1 => k_is)
    (case gx10_2 => k_is)
    (case gx10_3 => k_is)
    (case gx10_4 => k_is)
    (case gx10_5 => k_is)
    (case gx10_6 => k_is)
    (case gx10_7 => k_is)
    (case gx10_8 => k_is)
    (case gx10_9 => k_is)
    (case ax10 => k_is)
    (case tx10 => k_is)
    (case lx10 => k_is)
    (case cx10 => k_is)
    (case kx10 => k_is)
    (case nx10 => k_is)
    (case gx11a => k_is)
    (case gx11_c => k_is)
    (case gx11_r => decide +kernel)
    (case gx11_1 => k_is)
    (case gx11_2 => k_is)
    (case gx11_3 => k_is)
    (case gx11_4 => k_is)
    (case gx11_5 => k_is)
    (case gx11_6 => k_is)
    (case gx11_7 => k_is)
    (case gx11_8 => k_is)
    (case gx11_9 => k_is)
    (case ax11 => k_is)
    (case gx12a => k_is)
    (case gx12_c => k_is)
    (case gx12_r => decide +kernel)
    (case gx12_1 => k_is)
    (case gx12_2 => k_is)
    (case gx12_3 => k_is)
    (case gx12_4 => k_is)
    (case gx12_5 => k_is)
    (case gx12_6 => k_is)
    (case gx12_7 => k_is)
    (case gx12_8 => k_is)
    (case gx12_9 => k_is)
    (case ax12 => k_is)
    (case y0_0 => kit_is)
    (case y0_1 => kit_is)
    (case y0_2 => kit_is)
    (case y0_3 => kit_is)
    (case y0_4 => kit_is)
    (case y0_5 => kit_is)
    (case y0_6 => kit_is)
    (case y0_7 => kit_is)
    (case y0_8 => kit_is)
    (case y0_9 => kit_is)
    (case y0_10 => kit_is)
    (case y0_11 => kit_is)
    (case yb0 => kit_is)
    (case yv0 => kit_is)
    (case yw0 => kit_is)
    (case y1_0 => kit_is)
    (case y1_1 => kit_is)
    (case y1_2 => kit_is)
    (case y1_3 => kit_is)
    (case y1_4 => kit_is)
    (case y1_5 => kit_is)
    (case y1_6 => kit_is)
    (case y1_7 => kit_is)
    (case y1_8 => kit_is)
    (case y1_9 => kit_is)
    (case y1_10 => kit_is)
    (case y1_11 => kit_is)
    (case yb1 => kit_is)
    (case yv1 => kit_is)
    (case yw1 => kit_is)
    (case y2_0 => kit_is)
    (case y2_1 => kit_is)
    (case y2_2 => kit_is)
    (case y2_3 => kit_is)
    (case y2_4 => kit_is)
    (case y2_5 => kit_is)
    (case y2_6 => kit_is)
    (case y2_7 => kit_is)
    (case y2_8 => kit_is)
    (case y2_9 => kit_is)
    (case y2_10 => kit_is)
    (case y2_11 => kit_is)
    (case yb2 => kit_is)
    (case yv2 => kit_is)
    (case yw2 => kit_is)
    (case y3_0 => kit_is)
    (case y3_1 => kit_is)
    (case y3_2 => kit_is)
    (case y3_3 => kit_is)
    (case y3_4 => kit_is)
    (case y3_5 => kit_is)
    (case y3_6 => kit_is)
    (case y3_7 => kit_is)
    (case y3_8 => kit_is)
    (case y3_9 => kit_is)
    (case y3_10 => kit_is)
    (case y3_11 => kit_is)
    (case yb3 => kit_is)
    (case yv3 => kit_is)
    (case yw3 => kit_is)
    (case y4_0 => kit_is)
    (case y4_1 => kit_is)
    (case y4_2 => kit_is)
    (case y4_3 => kit_is)
    (case y4_4 => kit_is)
    (case y4_5 => kit_is)
    (case y4_6 => kit_is)
    (case y4_7 => kit_is)
    (case y4_8 => kit_is)
    (case y4_9 => kit_is)
    (case y4_10 => kit_is)
    (case y4_11 => kit_is)
    (case yb4 => kit_is)
    (case yv4 => kit_is)
    (case yw4 => kit_is)
    (case y5_0 => kit_is)
    (case y5_1 => kit_is)
    (case y5_2 => kit_is)
    (case y5_3 => kit_is)
    (case y5_4 => kit_is)
    (case y5_5 => kit_is)
    (case y5_6 => kit_is)
    (case y5_7 => kit_is)
    (case y5_8 => kit_is)
    (case y5_9 => kit_is)
    (case y5_10 => kit_is)
    (case y5_11 => kit_is)
    (case yb5 => kit_is)
    (case yv5 => kit_is)
    (case yw5 => kit_is)
    (case y6_0 => kit_is)
    (case y6_1 => kit_is)
    (case y6_2 => kit_is)
    (case y6_3 => kit_is)
    (case y6_4 => kit_is)
    (case y6_5 => kit_is)
    (case y6_6 => kit_is)
    (case y6_7 => kit_is)
    (case y6_8 => kit_is)
    (case y6_9 => kit_is)
    (case y6_10 => kit_is)
    (case y6_11 => kit_is)
    (case yb6 => kit_is)
    (case yv6 => kit_is)
    (case yw6 => kit_is)
    (case y7_0 => kit_is)
    (case y7_1 => kit_is)
    (case y7_2 => kit_is)
    (case y7_3 => kit_is)
    (case y7_4 => kit_is)
    (case y7_5 => kit_is)
    (case y7_6 => kit_is)
    (case y7_7 => kit_is)
    (case y7_8 => kit_is)
    (case y7_9 => kit_is)
    (case y7_10 => kit_is)
    (case y7_11 => kit_is)
    (case yb7 => kit_is)
    (case yv7 => kit_is)
    (case yw7 => kit_is)
    (case y8_0 => kit_is)
    (case y8_1 => kit_is)
    (case y8_2 => kit_is)
    (case y8_3 => kit_is)
    (case y8_4 => kit_is)
    (case y8_5 => kit_is)
    (case y8_6 => kit_is)
    (case y8_7 => kit_is)
    (case y8_8 => kit_is)
    (case y8_9 => kit_is)
    (case y8_10 => kit_is)
    (case y8_11 => kit_is)
    (case yb8 => kit_is)
    (case yv8 => kit_is)
    (case yw8 => kit_is)
    (case y9_0 => kit_is)
    (case y9_1 => kit_is)
    (case y9_2 => kit_is)
    (case y9_3 => kit_is)
    (case y9_4 => kit_is)
    (case y9_5 => kit_is)
    (case y9_6 => kit_is)
    (case y9_7 => kit_is)
    (case y9_8 => kit_is)
    (case y9_9 => kit_is)
    (case y9_10 => kit_is)
    (case y9_11 => kit_is)
    (case yb9 => kit_is)
    (case yv9 => kit_is)
    (case yw9 => kit_is)
    (case y10_0 => kit_is)
    (case y10_1 => kit_is)
    (case y10_2 => kit_is)
    (case y10_3 => kit_is)
    (case y10_4 => kit_is)
    (case y10_5 => kit_is)
    (case y10_6 => kit_is)
    (case y10_7 => kit_is)
    (case y10_8 => kit_is)
    (case y10_9 => kit_is)
    (case y10_10 => kit_is)
    (case y10_11 => kit_is)
    (case yb10 => kit_is)
    (case yv10 => kit_is)
    (case yw10 => kit_is)
    (case y11_0 => kit_is)
    (case y11_1 => kit_is)
    (case y11_2 => kit_is)
    (case y11_3 => kit_is)
    (case y11_4 => kit_is)
    (case y11_5 => kit_is)
    (case y11_6 => kit_is)
    (case y11_7 => kit_is)
    (case y11_8 => kit_is)
    (case y11_9 => kit_is)
    (case y11_10 => kit_is)
    (case y11_11 => kit_is)
    (case yb11 => kit_is)
    (case yv11 => kit_is)
    (case yw11 => kit_is)
    (case xm => kts_exm)
    (case yvb => kit_is)
