import PyProof.Rows.All
import Wide.All
import OpenK.AllK
import Wide.FinOn
import HandS.Base
import HandS.Call
import HandS.List
import HandS.Comp
import HandS.Ends
import HandS.Dict
import HandS.Iter
import HandS.Text
import HandS.Words
import HandS.WordsList
import HandS.Conv
import HandS.More
import HandS.ForMost
import HandS.Zip
import HandS.IsInst
import HandS.TupAny
import HandS.FStr
import HandS.StrMore
import HandS.Star
import HandS.TryOnly
import HandS.Codes
import HandS.OwnEq
import HandS.ExcInit
import HandS.ExcField
import HandS.ExcIs
import KE.KExcIs
import KE.KExcMake
import PyProof.EnumIter
import HandS.Hot
import HandS.HotCalls
import HandS.WordsExc
import HandS.ExcCtx
import HandS.ListEq
import HandS.Walk
import HandS.Style
import KE.RegKIsAll
import KE.RegKTryMore
import PySem.Challenge.RW_knownways_k12_texts_of_no_tree
set_option Elab.async false
set_option linter.all false
set_option maxRecDepth 100000
set_option maxHeartbeats 4000000
namespace LK
open PySem PySem.Spec PyProof.Rows L2
def top (i : Nat) : Stmt := PySem.Challenge.pw_knownways_k12_texts_of_no_tree.main.body.getD i (.Pass ⟨0, 0, 0, 0⟩)
abbrev sFeed : Stmt := top 24
abbrev sDraw : Stmt := top 25
abbrev sPick : Stmt := top 26
abbrev sSame : Stmt := top 27
abbrev sWord : Stmt := top 28
abbrev sWords : Stmt := top 29
abbrev sTerm : Stmt := top 33
abbrev sTree : Stmt := top 34
abbrev sSign : Stmt := top 30
abbrev sBent : Stmt := top 31
abbrev sRefused : Stmt := top 32
abbrev sIsSide : Stmt := top 35
abbrev sBranch : Stmt := top 36
abbrev sDue : Stmt := top 37
abbrev sTold : Stmt := top 38
abbrev sChanged : Stmt := top 39
abbrev pShow : Stmt := top 17
abbrev pRead : Stmt := top 18
abbrev pLinesOf : Stmt := top 19
abbrev pTreeAt : Stmt := top 20
abbrev pSides : Stmt := top 21
abbrev pMay : Stmt := top 22
abbrev sLaw : Stmt := top 40
/-- the built-ins that stand -/
structure Std (mg : Str → Option Value) : Prop where
  len : mg "len" = none
  abs : mg "abs" = none
  int : mg "int" = none
  range : mg "range" = none
  isi : mg "isinstance" = none
  tuple : mg "tuple" = none
  list : mg "list" = none
  all : mg "all" = none
  zip : mg "zip" = none
  bool : mg "bool" = none
  str : mg "str" = none
  enumerate : mg "enumerate" = none
  min : mg "min" = none
/-- a def of the text, as its callers see it -/
structure Df (K : PySem.W.Frag) (mg : Str → Option Value) (x : Str) (st : Stmt) (f : Addr) (fd : FuncData) (ps : List Str) : Prop where
  F : Fun K x x st f fd
  b : Binds K fd ps []
  g : mg x = some (.ref f)
/-- all but l stands -/
def Keep (l : Addr) (H H' : Hp) : Prop := ∀ b o, b ≠ l → H b = some o → H' b = some o
theorem Keep.refl {l : Addr} {H : Hp} : Keep l H H := fun _ _ _ e => e
theorem Keep.trans {l : Addr} {H H1 H2 : Hp} (a : Keep l H H1) (b : Keep l H1 H2) : Keep l H H2 := fun c o n e => b c o n (a c o n e)
theorem Keep.same {l : Addr} {H H1 : Hp} (a : Same H H1) : Keep l H H1 := fun c o n e => a c o e
theorem Keep.put {l : Addr} {H : Hp} {o : HO} : Keep l H (upd H l o) := fun c u n e => by rw [upd_ne n]; exact e
theorem same_new {H : Hp} {p : Addr} {o : HO} (h : H p = none) : Same H (upd H p o) := fun c u e => by rw [upd_ne (ne_of_none e h)]; exact e
theorem Keep.new {l : Addr} {H : Hp} {p : Addr} {o : HO} (h : H p = none) : Keep l H (upd H p o) := Keep.same (same_new h)
/-- the feed of draws at l -/
def Feed (H : Hp) (l : Addr) : Prop := ∃ a b : Int, H l = some (.lst [.int a, .int b]) ∧ 0 ≤ a ∧ 0 ≤ b
theorem Feed.keep {l m : Addr} {H H' : Hp} (h : Feed H l) (k : Keep m H H') (n : l ≠ m) : Feed H' l := by
  obtain ⟨a, b, e, h0, h1⟩ := h
  exact ⟨a, b, k _ _ n e, h0, h1⟩
theorem Feed.same {l : Addr} {H H' : Hp} (h : Feed H l) (k : Same H H') : Feed H' l := by
  obtain ⟨a, b, e, h0, h1⟩ := h
  exact ⟨a, b, k _ _ e, h0, h1⟩
theorem Feed.ne {l d : Addr} {H : Hp} (h : Feed H l) (e : H d = none) : l ≠ d := by
  obtain ⟨a, b, q, _⟩ := h
  exact ne_of_none q e
def spFeed (K : PySem.W.Frag) : Sp := fun vs H Q _ => ∃ (a : Addr) (ns : List Int) (k : Nat), vs = [.ref a, .int k] ∧ SqL K H a (ns.map V.int) ∧
  ∀ l H', H l = none → Feed H' l → Same H H' → Q (.ref l) H'
def spDraw : Sp := fun vs H Q _ => ∃ (l : Addr) (m : Int), vs = [.ref l, .int m] ∧ Feed H l ∧ 1 ≤ m ∧ m < 1073741824 ∧
  ∀ d H', 0 ≤ d → d < m → Feed H' l → Keep l H H' → Q (.int d) H'
section
variable {P : Program} {w : World} {K : PySem.W.Frag} {mg : Str → Option Value} {base : Heap}
theorem scFeed : FnScope ["_law_script", "_law_k", "_law_cell"] ["_law_script", "_law_k"] (defScope sFeed) := ⟨rfl, rfl, rfl, by decide +kernel, rfl, by decide +kernel, by decide +kernel⟩
theorem item_int {ns : List Int} {j : Nat} (h : j < ns.length) : (ns.map V.int)[j]? = some (V.int ns[j]) := by
  rw [List.getElem?_map, List.getElem?_eq_getElem h]
  rfl
theorem ok_feed {f : Addr} {fd : FuncData} (S : Std mg) (F : Fun K "_law_feed" "_law_feed" sFeed f fd) : FnOk P w K mg base CX0 1 f fd ["_law_script", "_law_k"] (spFeed K) := by
  refine F.ok scFeed (fun vs H Q E h => ?_) (fun cdv A outer s H vs Q E hr h => ?_)
  · obtain ⟨a, ns, k, rfl, _⟩ := h
    rfl
  · obtain ⟨a, ns, k, rfl, hS, q⟩ := h
    refine ⟨_, pss_cons (ps_set (i := 2) scFeed.nd rfl (Or.inl rfl) (pe_op op_add (pe_op op_mul pe_int (pv 1)) pe_int))
      (pss_cons (ps_if (pt_cmpR op_lt (pv 1) (pe_callB call_len_seq (by rfl) S.len PySem.boot_len (pa_cons (pv 0) pa_nil)) (nomark _))
          (pss_one (ps_set (i := 2) scFeed.nd rfl (Or.inl rfl) (pe_ix ix_list (pv 0) (pv 1) (fun _ _ => rfl))))
          (pss_one (ps_if (pt_cmpR op_gt (pe_callB call_len_seq (by rfl) S.len PySem.boot_len (pa_cons (pv 0) pa_nil)) pe_int (nomark _))
            (pss_one (ps_set (i := 2) scFeed.nd rfl (Or.inl rfl) (pe_op op_add (pv 2) (pe_op op_mul (pe_op op_mod (pe_callB call_abs (by rfl) S.abs (by decide +kernel) (pa_cons
              (pe_ix ix_list (pv 0) (pe_op op_mod (pe_callTy call_int1 (by rfl) S.int (by decide +kernel) (pa_cons (pv 1) pa_nil)) (pe_callB call_len_seq (by rfl) S.len PySem.boot_len (pa_cons (pv 0) pa_nil))) (fun _ _ => rfl)) pa_nil)) pe_int) pe_int))))
            pss_nil)))
      (pss_cons (ps_if (pt_cmpR op_lt (pv 2) pe_int (nomark _)) (pss_one (ps_set (i := 2) scFeed.nd rfl (Or.inl rfl) (pe_op op_sub pe_int (pe_op op_mul pe_int (pv 2))))) pss_nil)
      (pss_one (ps_ret (pe_lst (pa_cons (pe_ifExp (pt_cmpR op_ge (pv 2) (pe_op op_pow pe_int pe_int) (nomark _)) (pv 2) pe_int)
        (pa_cons (pe_op op_add (pe_op op_add (pe_op op_mod (pe_callTy call_int1 (by rfl) S.int (by decide +kernel) (pa_cons (pv 2) pa_nil)) pe_int) (pe_op op_mul pe_int (pv 1))) pe_int) pa_nil))))))), ?_⟩
    -- the end, from any value of the cell
    have fin : ∀ c : Int, 0 ≤ c → (tRet (tLst (tCons (tIf (tTest (tOp (rI0 fun i j => .bl (decide (j ≤ i))) (tVar 2) (tOp (rI CPow fun i j => .int (i ^ j.toNat)) (tC (.int 10)) (tC (.int 18))))) (tVar 2) (tC (.int 0)))
        (tCons (tOp (rI0 fun i j => .int (i + j)) (tOp (rI0 fun i j => .int (i + j)) (tOp (rI (fun _ j => 0 < j) fun i j => .int (i % j)) (tCB (fun xs H Q => (∃ i, xs = [.int i] ∧ Q (.int i) H) ∨ ∃ k, xs = [.bl k] ∧ Q (.int (if k then 1 else 0)) H) (tCons (tVar 2) tNil)) (tC (.int 1000003))) (tOp (rI CMul fun i j => .int (i * j)) (tC (.int 13)) (tVar 1))) (tC (.int 1))) tNil))))
        { nx := fun _ H' => Q .non H', rt := Q } [some (.ref a), some (.int k), some (.int c)] H := by
      intro c hc
      have stp : ∀ x : Int, 0 ≤ x → ∀ p, H p = none → Q (.ref p) (upd H p (.lst [.int x, .int (c % 1000003 + 13 * k + 1)])) := fun x hx p hp =>
        q p _ hp ⟨x, _, upd_same, hx, by omega⟩ (same_new hp)
      refine ⟨_, rfl, _, _, rfl, rfl, ⟨by decide, by decide, by decide⟩, _, _, rfl, rfl, _, rfl, ite2 (fun h1 => ?_) (fun h1 => ?_)⟩
      · refine ⟨_, rfl, _, rfl, .inl ⟨_, rfl, _, _, rfl, rfl, (by show (0 : Int) < 1000003; decide), _, rfl, _, _, rfl, rfl, .inl ⟨by decide, by decide⟩, _, _, rfl, rfl, _, _, rfl, rfl, (by show 2 ≤ sizeLine; decide), stp c hc⟩⟩
      · refine ⟨_, rfl, .inl ⟨_, rfl, _, _, rfl, rfl, (by show (0 : Int) < 1000003; decide), _, rfl, _, _, rfl, rfl, .inl ⟨by decide, by decide⟩, _, _, rfl, rfl, _, _, rfl, rfl, (by show 2 ≤ sizeLine; decide), stp 0 (Int.le_refl 0)⟩⟩
    have neg : ∀ c : Int, tSeq (tIfS (tTest (tOp (rI0 fun i j => .bl (decide (i < j))) (tVar 2) (tC (.int 0)))) (tAsg (tOp (rI0 fun i j => .int (i - j)) (tC (.int 3)) (tOp (rI CMul fun i j => .int (i * j)) (tC (.int 5)) (tVar 2))) (gName 2)) tNext) (tRet (tLst (tCons (tIf (tTest (tOp (rI0 fun i j => .bl (decide (j ≤ i))) (tVar 2) (tOp (rI CPow fun i j => .int (i ^ j.toNat)) (tC (.int 10)) (tC (.int 18))))) (tVar 2) (tC (.int 0)))
        (tCons (tOp (rI0 fun i j => .int (i + j)) (tOp (rI0 fun i j => .int (i + j)) (tOp (rI (fun _ j => 0 < j) fun i j => .int (i % j)) (tCB (fun xs H Q => (∃ i, xs = [.int i] ∧ Q (.int i) H) ∨ ∃ k, xs = [.bl k] ∧ Q (.int (if k then 1 else 0)) H) (tCons (tVar 2) tNil)) (tC (.int 1000003))) (tOp (rI CMul fun i j => .int (i * j)) (tC (.int 13)) (tVar 1))) (tC (.int 1))) tNil))))
        { nx := fun _ H' => Q .non H', rt := Q } [some (.ref a), some (.int k), some (.int c)] H := by
      intro c
      refine ⟨_, rfl, _, _, rfl, rfl, _, rfl, ite2 (fun h1 => ?_) (fun h1 => ?_)⟩
      · have h2 : c < 0 := of_decide_eq_true h1
        exact ⟨_, rfl, _, _, rfl, rfl, .inl ⟨by decide, by decide⟩, _, _, rfl, rfl, fin (3 - 5 * c) (by omega)⟩
      · have h2 : ¬ c < 0 := fun e => h1 (decide_eq_true e)
        exact fin c (by omega)
    refine ⟨_, rfl, _, _, rfl, rfl, .inl ⟨by decide, by decide⟩, _, _, rfl, rfl, ?_⟩
    refine ⟨_, rfl, _, rfl, a, _, rfl, .inl hS, _, _, rfl, rfl, _, rfl, ite2 (fun h1 => ?_) (fun h1 => ?_)⟩
    · have h2 : (k : Int) < ((ns.map V.int).length : Nat) := of_decide_eq_true h1
      have h3 : k < ns.length := by rw [List.length_map] at h2; omega
      exact ⟨_, rfl, _, rfl, a, _, _, _, rfl, rfl, hS, atI_nat (item_int h3), neg _⟩
    · refine ⟨_, rfl, a, _, rfl, .inl hS, _, _, rfl, rfl, _, rfl, ite2 (fun h2 => ?_) (fun h2 => ?_)⟩
      · have h3 : (0 : Int) < ((ns.map V.int).length : Nat) := of_decide_eq_true h2
        have h4 : 0 < ns.length := by rw [List.length_map] at h3; omega
        obtain ⟨j, ej, hj⟩ : ∃ j : Nat, (k : Int) % ((ns.map V.int).length : Nat) = (j : Int) ∧ j < ns.length := by
          have e1 := Int.emod_nonneg (k : Int) (b := ((ns.map V.int).length : Nat)) (by omega)
          have e2 := Int.emod_lt_of_pos (k : Int) h3
          refine ⟨((k : Int) % ((ns.map V.int).length : Nat)).toNat, by omega, ?_⟩
          have e3 : (ns.map V.int).length = ns.length := List.length_map ..
          omega
        refine ⟨_, rfl, _, rfl, _, rfl, .inl ⟨_, rfl, _, rfl, a, _, rfl, .inl hS, _, _, rfl, rfl, h3, a, _, _, _, rfl, rfl, hS, at_of ej (item_int hj), ?_⟩⟩
        exact ⟨_, rfl, _, _, rfl, rfl, (by show (0 : Int) < 1000003; decide), _, _, rfl, rfl, .inr ⟨by decide, by decide⟩, _, _, rfl, rfl, neg _⟩
      · exact neg _
end
end LK

namespace LK
open PySem PySem.Spec PyProof.Rows L2
def spPick (K : PySem.W.Frag) : Sp := fun vs H Q _ => ∃ (l : Addr) (x : V) (P : V → Prop), vs = [.ref l, x] ∧ Feed H l ∧
  ((∃ z : Str, x = .str z ∧ 0 < z.length ∧ z.length ≤ 1000 ∧ ∀ c, c ∈ z.cps.toList → P (.str ⟨#[c]⟩)) ∨ (∃ (a : Addr) (xs : List V), x = .ref a ∧ a ≠ l ∧ SqL K H a xs ∧ 0 < xs.length ∧ xs.length ≤ 1000 ∧ ∀ v, v ∈ xs → P v)) ∧
  ∀ v H', P v → Feed H' l → Keep l H H' → Q v H'
section
variable {P : Program} {w : World} {K : PySem.W.Frag} {mg : Str → Option Value} {base : Heap}
theorem scDraw : FnScope ["_law_feed_here", "_law_many", "_law_digit"] ["_law_feed_here", "_law_many"] (defScope sDraw) := ⟨rfl, rfl, rfl, by decide +kernel, rfl, by decide +kernel, by decide +kernel⟩
theorem ok_draw {f : Addr} {fd : FuncData} (S : Std mg) (F : Fun K "_law_draw" "_law_draw" sDraw f fd) : FnOk P w K mg base CX0 1 f fd ["_law_feed_here", "_law_many"] spDraw := by
  refine F.ok scDraw (fun vs H Q E h => ?_) (fun cdv A outer s H vs Q E hr h => ?_)
  · obtain ⟨l, m, rfl, _⟩ := h
    rfl
  · obtain ⟨l, m, rfl, ⟨a, b, hl, ha, hb⟩, h1, h2, q⟩ := h
    refine ⟨_, pss_cons (ps_if (pt_cmpR op_gt (pe_ix ix_list (pv 0) pe_int (fun _ _ => rfl)) pe_int (nomark _))
        (pss_cons (ps_set (i := 2) scDraw.nd rfl (Or.inl rfl) (pe_op op_mod (pe_callTy call_int1 (by rfl) S.int (by decide +kernel) (pa_cons (pe_ix ix_list (pv 0) pe_int (fun _ _ => rfl)) pa_nil)) (pv 1)))
        (pss_cons (ps_asg (pe_op op_fdiv (pe_ix ix_list (pv 0) pe_int (fun _ _ => rfl)) (pv 1)) (pg_sub (pv 0) pe_int set_list))
        (pss_one (ps_ret (pv 2))))) pss_nil)
      (pss_cons (ps_asg (pe_op op_mod (pe_callTy call_int1 (by rfl) S.int (by decide +kernel) (pa_cons (pe_op op_add (pe_op op_mul (pe_ix ix_list (pv 0) pe_int (fun _ _ => rfl)) pe_int) pe_int) pa_nil)) pe_int) (pg_sub (pv 0) pe_int set_list))
      (pss_one (ps_ret (pe_op op_mod (pe_callTy call_int1 (by rfl) S.int (by decide +kernel) (pa_cons (pe_op op_fdiv (pe_ix ix_list (pv 0) pe_int (fun _ _ => rfl)) pe_int) pa_nil)) (pv 1))))), ?_⟩
    have hS : SqL K H l [.int a, .int b] := SqL.of hl
    refine ⟨_, rfl, l, _, _, _, rfl, rfl, hS, rfl, _, _, rfl, rfl, _, rfl, ite2 (fun c => ?_) (fun c => ?_)⟩
    · refine ⟨_, rfl, l, _, _, _, rfl, rfl, hS, rfl, .inl ⟨_, rfl, _, rfl, _, _, rfl, rfl, (by show 0 < m; omega), ?_⟩⟩
      refine ⟨_, rfl, l, _, _, _, rfl, rfl, hS, rfl, _, rfl, _, _, rfl, rfl, ⟨by omega, h2⟩, _, rfl, l, _, _, 0, rfl, rfl, hl, rfl, _, rfl, ?_⟩
      exact q _ _ (Int.emod_nonneg _ (by omega)) (Int.emod_lt_of_pos _ (by omega)) ⟨_, _, upd_same, Int.ediv_nonneg ha (by omega), hb⟩ Keep.put
    · refine ⟨_, rfl, l, _, _, _, rfl, rfl, hS, rfl, _, _, rfl, rfl, .inr ⟨by decide, by decide⟩, _, _, rfl, rfl, .inl ⟨_, rfl, _, _, rfl, rfl, (by show (0 : Int) < 2147483647; decide), _, rfl, l, _, _, 1, rfl, rfl, hl, rfl, ?_⟩⟩
      refine ⟨_, rfl, l, _, _, _, rfl, rfl, SqL.of upd_same, rfl, _, _, rfl, rfl, ⟨by decide, by decide⟩, .inl ⟨_, rfl, _, rfl, _, _, rfl, rfl, (by show 0 < m; omega), ?_⟩⟩
      exact q _ _ (Int.emod_nonneg _ (by omega)) (Int.emod_lt_of_pos _ (by omega)) ⟨_, _, upd_same, ha, Int.emod_nonneg _ (by decide)⟩ Keep.put
theorem scPick : FnScope ["_law_feed_here", "_law_items"] ["_law_feed_here", "_law_items"] (defScope sPick) := ⟨rfl, rfl, rfl, by decide +kernel, rfl, by decide +kernel, by decide +kernel⟩
theorem ok_pick {f fD : Addr} {fd fdD : FuncData} (S : Std mg) (F : Fun K "_law_pick" "_law_pick" sPick f fd) (D : Df K mg "_law_draw" sDraw fD fdD ["_law_feed_here", "_law_many"]) : FnOk P w K mg base CX0 2 f fd ["_law_feed_here", "_law_items"] (spPick K) := by
  have GD : FnOk P w K mg base CX0 1 fD fdD ["_law_feed_here", "_law_many"] spDraw := ok_draw S D.F
  refine F.ok scPick (fun vs H Q E h => ?_) (fun cdv A outer s H vs Q E hr h => ?_)
  · obtain ⟨l, x, PP, rfl, _⟩ := h
    rfl
  · obtain ⟨l, x, PP, rfl, hf, hi, q⟩ := h
    refine ⟨_, pss_one (ps_ret (pe_ix ix_seq (pv 1) (pe_call GD hr rfl D.g D.F.kp D.b .nil pass0 (pa_cons (pv 0) (pa_cons (pe_callB call_len (by rfl) S.len PySem.boot_len (pa_cons (pv 1) pa_nil)) pa_nil))) (fun _ _ => rfl))), ?_⟩
    rcases hi with ⟨z, rfl, h0, h1, hP⟩ | ⟨a, xs, rfl, hne, hS, h0, h1, hP⟩
    · refine ⟨_, rfl, _, rfl, _, rfl, _, z.length, rfl, ⟨Nat.le_of_lt (small1000 h1), rfl⟩, l, (z.length : Int), rfl, hf, by omega, by omega, fun d H' d0 d1 hf' kp => ?_⟩
      obtain ⟨j, rfl⟩ : ∃ j : Nat, d = (j : Int) := ⟨d.toNat, by omega⟩
      have hj : j < z.cps.toList.length := by
        have : z.length = z.cps.toList.length := by show z.cps.size = _; simp
        omega
      refine .inr (.inr ⟨z, (j : Int), z.cps.toList[j], rfl, rfl, Nat.le_of_lt (small1000 h1), atI_nat (List.getElem?_eq_getElem hj), ?_⟩)
      exact q _ _ (hP _ (List.getElem_mem hj)) hf' kp
    · refine ⟨_, rfl, _, rfl, _, rfl, _, xs.length, rfl, .inl ⟨_, hS, rfl⟩, l, (xs.length : Int), rfl, hf, by omega, by omega, fun d H' d0 d1 hf' kp => ?_⟩
      obtain ⟨j, rfl⟩ : ∃ j : Nat, d = (j : Int) := ⟨d.toNat, by omega⟩
      have hj : j < xs.length := by omega
      have hS' : SqL K H' a xs := by
        rcases hS with (h | ⟨o, h⟩) | h
        · exact .inl (.inl (kp _ _ hne h))
        · exact .inl (.inr ⟨o, kp _ _ hne h⟩)
        · exact .inr h
      refine .inl ⟨a, xs, (j : Int), xs[j], rfl, rfl, hS', atI_nat (List.getElem?_eq_getElem hj), ?_⟩
      exact q _ _ (hP _ (List.getElem_mem hj)) hf' kp
end
end LK

namespace LK
open PySem PySem.Spec PyProof.Rows L2
/-- a name: one to four lower-case letters -/
structure NameOk (z : Str) : Prop where
  pos : 0 < z.length
  len : z.length ≤ 4
  low : ∀ c, c ∈ TL.tl z → 97 ≤ c ∧ c ≤ 122
  nif : z ≠ "if"
  nelse : z ≠ "else"
  nend : z ≠ "end"
def letters : Str := "abcdefghijklmnopqrstuvwxyz"
theorem letters_low : ∀ c, c ∈ TL.tl letters → 97 ≤ c ∧ c ≤ 122 := by decide +kernel
theorem letters_len : letters.length = 26 := by decide +kernel
theorem joinL_nil_flat : ∀ ps : List (List Nat), TL.joinL [] ps = ps.flatten
  | [] => rfl
  | [p] => by simp [TL.joinL]
  | p :: q :: r => by
    show p ++ ([] ++ TL.joinL [] (q :: r)) = _
    rw [joinL_nil_flat (q :: r), List.nil_append]
    rfl
theorem flat_one : ∀ {ys : List Str}, (∀ y, y ∈ ys → y.length = 1) → ((ys.map TL.tl).flatten).length = ys.length
  | [], _ => rfl
  | y :: r, h => by
    rw [List.map_cons, List.flatten_cons, List.length_append, flat_one fun z hz => h z (List.mem_cons_of_mem _ hz), ← TL.len_tl, h y (List.mem_cons_self ..), List.length_cons]
    omega
theorem tl_join0 (ys : List Str) : TL.tl (Txt.join "" ys) = (ys.map TL.tl).flatten := by
  rw [TL.join_eq, TL.tl_join]
  exact joinL_nil_flat _
theorem sum_one : ∀ {ys : List Str}, (∀ y, y ∈ ys → y.length = 1) → (ys.map (·.length)).sum = ys.length
  | [], _ => rfl
  | y :: r, h => by
    rw [List.map_cons, List.sum_cons, sum_one fun z hz => h z (List.mem_cons_of_mem _ hz), h y (List.mem_cons_self ..), List.length_cons]
    omega
theorem nameOk_q : NameOk "q" := ⟨by decide +kernel, by decide +kernel, by decide +kernel, by decide +kernel, by decide +kernel, by decide +kernel⟩
def spWord : Sp := fun vs H Q _ => ∃ (l : Addr), vs = [.ref l] ∧ Feed H l ∧ ∀ z H', NameOk z → Feed H' l → Keep l H H' → Q (.str z) H'
section
variable {P : Program} {w : World} {K : PySem.W.Frag} {mg : Str → Option Value} {base : Heap}
def nWord : List Str := ["_law_feed_here", "_law_letters", "_law_word_here", "_law_k"]
theorem scWord : FnScope nWord ["_law_feed_here"] (defScope sWord) := ⟨rfl, rfl, rfl, by decide +kernel, rfl, by decide +kernel, by decide +kernel⟩
theorem ok_word {f fD fP : Addr} {fd fdD fdP : FuncData} (S : Std mg) (F : Fun K "_law_word" "_law_word" sWord f fd) (D : Df K mg "_law_draw" sDraw fD fdD ["_law_feed_here", "_law_many"]) (PK : Df K mg "_law_pick" sPick fP fdP ["_law_feed_here", "_law_items"]) : FnOk P w K mg base CX0 3 f fd ["_law_feed_here"] spWord := by
  have GD : FnOk P w K mg base CX0 1 fD fdD ["_law_feed_here", "_law_many"] spDraw := ok_draw S D.F
  have GP : FnOk P w K mg base CX0 2 fP fdP ["_law_feed_here", "_law_items"] (spPick K) := ok_pick S PK.F D
  refine F.ok scWord (fun vs H Q E h => ?_) (fun cdv A outer s H vs Q E hr h => ?_)
  · obtain ⟨l, rfl, _⟩ := h
    rfl
  · obtain ⟨l, rfl, hf, q⟩ := h
    have hr1 : Room 1 _ := hr.mono (by decide)
    refine ⟨_, pss_cons (ps_set (i := 1) scWord.nd rfl (Or.inr rfl) pe_str)
      (pss_cons (ps_set (i := 2) scWord.nd rfl (Or.inl rfl) (pe_join pe_str (pe_lc (own := [("_law_k", 3)]) (g := gName 3) (tt := tYes) rfl scWord.nd
          (pi_range1 (by rfl) S.range (pa_cons (pe_op op_add pe_int (pe_call GD hr1 rfl D.g D.F.kp D.b .nil pass0 (pa_cons (pv 0) (pa_cons pe_int pa_nil)))) pa_nil))
          (blkOk_by (N := nWord) (sc := defScope sWord) (by decide +kernel)) (fun _ _ _ _ _ => pg_name (i := 3) scWord.nd rfl (Or.inl rfl)) (fun _ _ _ _ _ => pts_nil)
          (fun _ _ _ _ _ => pe_call GP hr rfl PK.g PK.F.kp PK.b .nil pass0 (pa_cons (pv 0) (pa_cons (pv 1) pa_nil))))))
      (pss_one (ps_ret (pe_ifExp (pt_cmpR op_in_seq (pv 2) (pe_tup (pa_cons pe_str (pa_cons pe_str (pa_cons pe_str pa_nil)))) (by rfl)) pe_str (pv 2))))), ?_⟩
    refine ⟨⟨_, rfl⟩, _, rfl, l, 4, rfl, hf, by decide, by decide, fun d H1 d0 d1 hf1 k1 => ⟨_, _, rfl, rfl, 1 + d, rfl, by omega, by omega, fun D hD => ?_⟩⟩
    have hlD : l ≠ D := fun e => by
      obtain ⟨a, b, e1, _⟩ := hf1
      rw [e, hD] at e1
      cases e1
    refine lc_range (lo := 0) (n := (1 + d).toNat) (fun i H2 => Feed H2 l ∧ (∀ b o, b ≠ l → H b = some o → H2 b = some o) ∧ ∃ ys : List Str, ys.length = i ∧ H2 D = some (.lst (ys.map V.str)) ∧ ∀ y, y ∈ ys → y.length = 1 ∧ ∀ c, c ∈ TL.tl y → 97 ≤ c ∧ c ≤ 122)
      ⟨hf1.same (same_new hD), fun b o n e => same_new hD b o (k1 b o n e), [], rfl, upd_same, fun y hy => by simp at hy⟩ ?_ ?_
    · rintro i H2 hi ⟨hf2, k2, ys, el, hy, hys⟩
      refine ⟨rfl, _, rfl, _, rfl, l, .str letters, (fun v => ∃ c : Nat, v = .str ⟨#[c]⟩ ∧ 97 ≤ c ∧ c ≤ 122), rfl, hf2, .inl ⟨_, rfl, by decide +kernel, by decide +kernel, fun c hc => ⟨c, rfl, letters_low c hc⟩⟩, ?_⟩
      rintro v H3 ⟨c, rfl, c0, c1⟩ hf3 k3
      refine ⟨ys.map V.str, k3 _ _ hlD.symm hy, ?_, ?_⟩
      · rw [List.length_map]
        exact small1000 (by omega)
      · refine ⟨hf3.keep (m := D) Keep.put hlD, fun b o n e => ?_, ys ++ [⟨#[c]⟩], by simp [el], by rw [upd_same]; simp, fun y hy' => ?_⟩
        · by_cases hb : b = D
          · exfalso
            rw [hb] at e n
            have z := k1 _ _ n e
            rw [hD] at z
            cases z
          · rw [upd_ne hb]
            exact k3 b o n (k2 b o n e)
        · rcases List.mem_append.mp hy' with z | z
          · exact hys y z
          · have e : y = ⟨#[c]⟩ := by simpa using z
            subst e
            exact ⟨rfl, fun c' hc' => by
              have e : c' = c := by simpa [TL.tl] using hc'
              subst e
              exact ⟨c0, c1⟩⟩
    · rintro H2 ⟨hf2, k2, ys, el, hy, hys⟩
      have hone : ∀ y, y ∈ ys → y.length = 1 := fun y h => (hys y h).1
      have l1 : ys.length = 1 + d.toNat := by omega
      have htl := tl_join0 ys
      have hlen : (Txt.join "" ys).length = ys.length := by rw [TL.len_tl, htl, flat_one hone]
      have hlow : ∀ c, c ∈ TL.tl (Txt.join "" ys) → 97 ≤ c ∧ c ≤ 122 := fun c hc => by
        rw [htl] at hc
        obtain ⟨l', h1, h2⟩ := List.mem_flatten.mp hc
        obtain ⟨y, hy', rfl⟩ := List.mem_map.mp h1
        exact (hys y hy').2 c h2
      refine ⟨_, _, ys, rfl, rfl, .inl (SqL.of hy), ?_, ?_⟩
      · rw [sum_one hone]
        show ys.length + ys.length * 0 ≤ 16777216
        omega
      refine ⟨_, rfl, (by show 3 ≤ sizeLine; decide), fun p hp => ⟨p, _, rfl, .inr (SqT.of upd_same), rfl, rfl, _, rfl, ?_⟩⟩
      have hl2 : l ≠ p := fun e => by
        obtain ⟨a, b, e1, _⟩ := hf2
        rw [e, hp] at e1
        cases e1
      have kk : Keep l H (upd H2 p (.tup [.str "if", .str "else", .str "end"])) := fun b o n e => same_new hp b o (k2 b o n e)
      refine ite2 (fun c => ?_) (fun c => ?_)
      · exact q _ _ nameOk_q (hf2.same (same_new hp)) kk
      · refine ⟨_, rfl, q _ _ ⟨by omega, by omega, hlow, fun e => ?_, fun e => ?_, fun e => ?_⟩ (hf2.same (same_new hp)) kk⟩
        · exact c (by rw [e]; decide +kernel)
        · exact c (by rw [e]; decide +kernel)
        · exact c (by rw [e]; decide +kernel)
end
end LK

namespace LK
open PySem PySem.Spec PyProof.Rows L2
/-- the signs of a text, each a text -/
def signs (z : Str) : List Str := (TL.tl z).map fun c => (⟨#[c]⟩ : Str)
section
variable {X : Cx}
/-- list(text) -/
theorem call_list_txt (hc : X.calm = true) : CallR X (.type "list") (fun xs H Q => ∃ z : Str, xs = [.str z] ∧ z.length ≤ sizeLine ∧ ∀ l, H l = none → Q (.ref l) (upd H l (.lst ((signs z).map V.str)))) := by
  intro pins s σ H xs us Q I r h
  obtain ⟨z, rfl, hz, q⟩ := h
  obtain ⟨u, rfl, rx⟩ := vals1 r
  obtain ⟨t, rfl⟩ := rx
  refine call_list_str (I.ok.hd hc) z t (fun h' tk acc c' hk e' hi => ?_) hz
  have hl : acc.toList.length = ((signs z).map V.str).length := by
    rw [Array.length_toList, hi.1, List.length_map]
    unfold signs
    rw [List.length_map]
    show z.cps.size = z.cps.toList.length
    simp
  refine ⟨.ref s.heap.objs.size, upd H s.heap.objs.size (.lst ((signs z).map V.str)), I.laid hk (Nat.le_refl _) (show ObjOk X.prog X.w _ _ _ (.lst ((signs z).map V.str)) from ⟨?_, acc.toList, c', ?_, ?_⟩), rfl, q _ (I.hok.fresh (Nat.le_refl _))⟩
  · rw [← hl, Array.length_toList, hi.1]
    exact hz
  · refine vals_of_idx _ _ hl fun j u hj => ?_
    obtain ⟨c, tk', e1, rfl⟩ := hi.2 j u (by rw [← hj, Array.getElem?_toList])
    refine ⟨.str ⟨#[c]⟩, ?_, ⟨tk', rfl⟩⟩
    unfold signs
    rw [List.getElem?_map, List.getElem?_map]
    show Option.map _ (Option.map _ z.cps.toList[j]?) = _
    rw [Array.getElem?_toList, e1]
    rfl
  · rw [Array.toArray_toList]
    exact e'
end
theorem signs_nodup : (signs letters).Nodup := by decide +kernel
theorem signs_len : (signs letters).length = 26 := by decide +kernel
theorem signs_ok : ∀ y, y ∈ signs letters → NameOk y := fun y h => by
  obtain ⟨c, hc, rfl⟩ := List.mem_map.mp h
  refine ⟨by show 0 < 1; decide, by show 1 ≤ 4; decide, fun c' hc' => ?_, fun e => ?_, fun e => ?_, fun e => ?_⟩
  · have e : c' = c := by simpa [TL.tl] using hc'
    subst e
    exact letters_low _ hc
  · have z := congrArg Str.length e
    revert z
    show ¬ (1 = Str.length "if")
    decide +kernel
  · have z := congrArg Str.length e
    revert z
    show ¬ (1 = Str.length "else")
    decide +kernel
  · have z := congrArg Str.length e
    revert z
    show ¬ (1 = Str.length "end")
    decide +kernel
theorem some_other {α : Type} [DecidableEq α] : ∀ (found ls : List α), ls.Nodup → found.length < ls.length → ∃ w, w ∈ ls ∧ w ∉ found
  | [], [], _, h => absurd h (Nat.lt_irrefl _)
  | [], a :: _, _, _ => ⟨a, List.mem_cons_self .., by simp⟩
  | x :: r, ls, nd, h => by
    obtain ⟨w, h1, h2⟩ := some_other r (ls.erase x) (nd.erase x) (by
      have := List.length_erase (a := x) (l := ls)
      rw [this]
      rw [List.length_cons] at h
      split <;> omega)
    have h3 := (nd.mem_erase_iff).mp h1
    exact ⟨w, h3.2, by simp [h3.1, h2]⟩
theorem in_strs (z : Str) : ∀ ys : List Str, inV (V.str z) (ys.map V.str) = decide (z ∈ ys)
  | [] => rfl
  | y :: r => by
    have ih := in_strs z r
    unfold inV at ih ⊢
    rw [List.map_cons, List.any_cons, ih]
    by_cases h : y = z
    · subst h
      simp [eqV]
    · have h' : ¬ z = y := fun e => h e.symm
      simp [eqV, h, h']
theorem flat_all (ys : List Str) : (ys.map V.str).all flatV = true := by
  rw [List.all_eq_true]
  intro v hv
  obtain ⟨y, _, rfl⟩ := List.mem_map.mp hv
  rfl
def spWords : Sp := fun vs H Q _ => ∃ (l : Addr) (m : Nat), vs = [.ref l, .int m] ∧ Feed H l ∧ m ≤ 20 ∧
  ∀ (p : Addr) (zs : List Str) (H' : Hp), H p = none → zs.length = m → zs.Nodup → (∀ z, z ∈ zs → NameOk z) → H' p = some (.lst (zs.map V.str)) → Feed H' l → Keep l H H' → Q (.ref p) H'
section
variable {P : Program} {w : World} {K : PySem.W.Frag} {mg : Str → Option Value} {base : Heap}
def nWords : List Str := ["_law_feed_here", "_law_many", "_law_found", "_law_k", "_law_some", "_law_word_here"]
theorem scWords : FnScope nWords ["_law_feed_here", "_law_many"] (defScope sWords) := ⟨rfl, rfl, rfl, by decide +kernel, rfl, by decide +kernel, by decide +kernel⟩
theorem ok_words {f fW : Addr} {fd fdW : FuncData} (S : Std mg) (F : Fun K "_law_words" "_law_words" sWords f fd) (W : Df K mg "_law_word" sWord fW fdW ["_law_feed_here"]) (GW : FnOk P w K mg base CX0 3 fW fdW ["_law_feed_here"] spWord) :
    FnOk P w K mg base CX0 4 f fd ["_law_feed_here", "_law_many"] spWords := by
  refine F.ok scWords (fun vs H Q E h => ?_) (fun cdv A outer s H vs Q E hr h => ?_)
  · obtain ⟨l, m, rfl, _⟩ := h
    rfl
  · obtain ⟨l, m, rfl, hf, hm, q⟩ := h
    refine ⟨_, pss_cons (ps_set (i := 2) scWords.nd rfl (Or.inr rfl) (pe_lst pa_nil))
      (pss_cons (ps_for PassesOwn.never rfl (pi_range1 (by rfl) S.range (pa_cons (pv 1) pa_nil)) (pg_name (i := 3) scWords.nd rfl (Or.inl rfl))
        (pss_cons (ps_set (i := 4) scWords.nd rfl (Or.inl rfl) (pe_op op_cat (pe_lst (pa_cons (pe_call GW hr rfl W.g W.F.kp W.b .nil pass0 (pa_cons (pv 0) pa_nil)) pa_nil)) (pe_callTy (call_list_txt rfl) (by rfl) S.list (by decide +kernel) (pa_cons pe_str pa_nil))))
        (pss_one (ps_expr (pe_bm PySem.F.plainAttrs_list PySem.F.slot_list_append PySem.F.type_list_append mt_append (pv 2) (pa_cons
          (pe_ix ix_list (pe_lc (own := [("_law_word_here", 5)]) (g := gName 5) (tt := tTest (tOp (rIn K true) (tVar 5) (tVar 2))) rfl scWords.nd (pi_list (pv 4)) (blkOk_by (N := nWords) (sc := defScope sWords) (by decide +kernel)) (fun _ _ _ _ _ => pg_name (i := 5) scWords.nd rfl (Or.inl rfl))
            (fun _ _ _ _ _ => pts_one (pt_cmpR op_notIn_seq (pv 5) (pv 2) (by rfl))) (fun _ _ _ _ _ => pv 5)) pe_int (fun _ _ => rfl)) pa_nil))))))
      (pss_one (ps_ret (pv 2)))), ?_⟩
    refine ⟨(by show 0 ≤ sizeLine; decide), fun p hp => ?_⟩
    have hlp : l ≠ p := fun e => by
      obtain ⟨a, b, e1, _⟩ := hf
      rw [e, hp] at e1
      cases e1
    refine ⟨_, rfl, (m : Int), rfl, by omega, by omega, for_range (lo := 0) (n := (m : Int).toNat) (fun i σ H' => ∃ (zs : List Str) (v3 v4 : Option V), σ = [some (.ref l), some (.int m), some (.ref p), v3, v4, none] ∧ zs.length = i ∧ zs.Nodup ∧ (∀ z, z ∈ zs → NameOk z) ∧
        H' p = some (.lst (zs.map V.str)) ∧ Feed H' l ∧ Keep l H H') ⟨[], none, none, rfl, rfl, List.nodup_nil, fun z h => by simp at h, upd_same, hf.same (same_new hp), Keep.new hp⟩ ?_ ?_⟩
    · rintro i σ H1 hi ⟨zs, v3, v4, rfl, el, nd, ok, hz, hf1, k1⟩
      have hi' : i < m := by omega
      refine ⟨_, rfl, l, rfl, hf1, fun z H2 zok hf2 k2 => ⟨(by show 1 ≤ sizeLine; decide), fun a ha => ⟨_, rfl, by decide +kernel, fun b hb => ?_⟩⟩⟩
      have hpH2 : H2 p = some (.lst (zs.map V.str)) := k2 _ _ hlp.symm hz
      have hab : a ≠ b := ne_of_none upd_same hb
      refine ⟨a, b, _, _, rfl, rfl, by rw [upd_ne hab]; exact upd_same, upd_same, by rw [List.length_map]; show 1 + (signs letters).length ≤ sizeLine; rw [signs_len]; decide, fun c hc => ?_⟩
      have sm : Same H2 (upd (upd (upd H2 a (.lst [V.str z])) b (.lst ((signs "abcdefghijklmnopqrstuvwxyz").map V.str))) c (.lst ([V.str z] ++ (signs "abcdefghijklmnopqrstuvwxyz").map V.str))) := ((same_new ha).trans (same_new hb)).trans (same_new hc)
      generalize hH3 : (upd (upd (upd H2 a (.lst [V.str z])) b (.lst ((signs "abcdefghijklmnopqrstuvwxyz").map V.str))) c (.lst ([V.str z] ++ (signs "abcdefghijklmnopqrstuvwxyz").map V.str))) = H3 at sm ⊢
      have hc3 : H3 c = some (.lst ((z :: signs letters).map V.str)) := by rw [← hH3, upd_same]; rfl
      have hp3 := sm _ _ hpH2
      refine ⟨_, rfl, .inl ⟨rfl, _, SqL.of hp3⟩, _, rfl, c, rfl, ⟨_, SqL.of hc3⟩, fun d hd => ?_⟩
      have hdH : ∀ b o, H3 b = some o → b ≠ d := fun b o e => ne_of_none e hd
      refine lc_list (K := K) (a := c) (xs := (z :: signs letters).map V.str) (fun i H' => Keep d H3 H' ∧ H' d = some (.lst ((((z :: signs letters).take i).filter fun u => decide (u ∉ zs)).map V.str)))
        ⟨Keep.new hd, by rw [upd_same]; rfl⟩ (fun i H' _ ⟨k, _⟩ => SqL.of (k _ _ (hdH _ _ hc3) hc3)) ?_ ?_
      · rintro j x H4 hx ⟨k4, hd4⟩
        rw [List.getElem?_map] at hx
        obtain ⟨u, hu, rfl⟩ : ∃ u, (z :: signs letters)[j]? = some u ∧ x = V.str u := by
          cases e : (z :: signs letters)[j]? with
          | none =>
            rw [e] at hx
            cases hx
          | some u =>
            rw [e] at hx
            exact ⟨u, rfl, (Option.some.inj hx).symm⟩
        have tk : (z :: signs letters).take (j + 1) = (z :: signs letters).take j ++ [u] := by rw [List.take_add_one, hu]; rfl
        have hj : j < 27 := by
          have := (List.getElem?_eq_some_iff.mp hu).1
          rw [List.length_cons, signs_len] at this
          omega
        refine ⟨rfl, _, rfl, _, rfl, p, _, rfl, .inl (SqL.of (k4 _ _ (hdH _ _ hp3) hp3)), rfl, flat_all _, _, rfl, ?_⟩
        show (if (!inV (V.str u) (zs.map V.str)) = true then _ else _)
        rw [in_strs]
        by_cases hm' : u ∈ zs
        · rw [decide_eq_true hm']
          refine iteF ⟨k4, ?_⟩
          rw [hd4, tk, List.filter_append]
          simp [hm']
        · rw [decide_eq_false hm']
          refine iteT ⟨_, rfl, _, hd4, ?_, fun b o n e => by rw [upd_ne n]; exact k4 b o n e, ?_⟩
          · rw [List.length_map]
            have := List.length_filter_le (fun u => decide (u ∉ zs)) ((z :: signs letters).take j)
            have h2 := List.length_take_le j (z :: signs letters)
            exact small1000 (by omega)
          · rw [upd_same, tk, List.filter_append]
            simp [hm']
      · rintro H4 ⟨k4, hd4⟩
        rw [List.length_map, List.take_length] at hd4
        obtain ⟨w0, hw1, hw2⟩ := some_other zs (signs letters) signs_nodup (by rw [signs_len]; omega)
        have hne : ((z :: signs letters).filter fun u => decide (u ∉ zs)) ≠ [] := fun e => by
          have : w0 ∈ (z :: signs letters).filter fun u => decide (u ∉ zs) := List.mem_filter.mpr ⟨List.mem_cons_of_mem _ hw1, by simp [hw2]⟩
          rw [e] at this
          cases this
        obtain ⟨y, r, ey⟩ := List.exists_cons_of_ne_nil hne
        have hy : y ∈ (z :: signs letters).filter fun u => decide (u ∉ zs) := by rw [ey]; exact List.mem_cons_self ..
        have hy1 := (List.mem_filter.mp hy).1
        have hy2 : y ∉ zs := by simpa using (List.mem_filter.mp hy).2
        rw [ey] at hd4
        have yok : NameOk y := by
          rcases List.mem_cons.mp hy1 with e | e
          · rw [e]; exact zok
          · exact signs_ok y e
        have hp4 := k4 _ _ (hdH _ _ hp3) hp3
        refine ⟨d, _, 0, V.str y, rfl, rfl, SqL.of hd4, at_of (j := 0) rfl rfl, p, _, _, rfl, rfl, hp4, ?_, ?_⟩
        · rw [List.length_map]
          exact small1000 (by omega)
        · have hf4 : Feed H4 l := (hf2.same sm).keep k4 ((hf2.same sm).ne hd)
          refine ⟨zs ++ [y], _, _, rfl, by simp [el], ?_, fun u hu => ?_, by rw [upd_same]; simp, hf4.keep (m := p) Keep.put hlp, fun b o n e => ?_⟩
          · rw [List.nodup_append]
            exact ⟨nd, by simp, fun a ha b hb e => by
              have e' : b = y := by simpa using hb
              rw [e, e'] at ha
              exact hy2 ha⟩
          · rcases List.mem_append.mp hu with e | e
            · exact ok u e
            · have e' : u = y := by simpa using e
              rw [e']
              exact yok
          · rw [upd_ne (ne_of_none e hp)]
            have e3 := sm _ _ (k2 b o n (k1 b o n e))
            exact k4 b o (hdH _ _ e3) e3
    · rintro σ H1 ⟨zs, v3, v4, rfl, el, nd, ok, hz, hf1, k1⟩
      exact ⟨_, rfl, q p zs H1 hp (by omega) nd ok hz hf1 k1⟩
end
end LK

namespace LK
open PySem PySem.Spec PyProof.Rows L2
/-! ### data persist -/
mutual
theorem Dp.same {K : PySem.W.Frag} {H H' : Hp} (s : Same H H') : ∀ {d : PyData} {v : V}, Dp K H v d → Dp K H' v d
  | _, _, .non => .non
  | _, _, .bl b => .bl b
  | _, _, .int i => .int i
  | _, _, .str x => .str x
  | _, _, .lst h a => .lst (s.seq h) (DpAll.same s a)
  | _, _, .tup h a => .tup (by
      rcases h with (h | ⟨o, h⟩) | h
      · exact .inl (.inl (s _ _ h))
      · exact .inl (.inr ⟨o, s _ _ h⟩)
      · exact .inr h) (DpAll.same s a)
theorem DpAll.same {K : PySem.W.Frag} {H H' : Hp} (s : Same H H') : ∀ {ds : List PyData} {vs : List V}, DpAll K H vs ds → DpAll K H' vs ds
  | _, _, .nil => .nil
  | _, _, .cons h a => .cons (Dp.same s h) (DpAll.same s a)
end

/-- data of at most so many levels, sequences short -/
def Deep : Nat → PyData → Prop
  | 0, _ => False
  | n + 1, .list ds => ds.length ≤ 1000 ∧ ∀ d, d ∈ ds → Deep n d
  | n + 1, .tuple ds => ds.length ≤ 1000 ∧ ∀ d, d ∈ ds → Deep n d
  | _ + 1, .dict _ => False
  | _ + 1, _ => True
theorem DpAll.len {K : PySem.W.Frag} {H : Hp} : ∀ {ds : List PyData} {vs : List V}, DpAll K H vs ds → vs.length = ds.length
  | _, _, .nil => rfl
  | _, _, .cons _ a => by rw [List.length_cons, List.length_cons, DpAll.len a]
theorem DpAll.get {K : PySem.W.Frag} {H : Hp} : ∀ {ds : List PyData} {vs : List V}, DpAll K H vs ds → ∀ (i : Nat) (x : V), vs[i]? = some x → ∃ d, ds[i]? = some d ∧ Dp K H x d
  | _, _, .nil, i, x, h => by simp at h
  | _, _, .cons h a, 0, x, e => by
    have e' := Option.some.inj e
    subst e'
    exact ⟨_, rfl, h⟩
  | _, _, .cons h a, i + 1, x, e => by
    obtain ⟨d, h1, h2⟩ := DpAll.get a i x (by simpa using e)
    exact ⟨d, by simpa using h1, h2⟩
def tyD : PyData → String
  | .none => "NoneType"
  | .bool _ => "bool"
  | .int _ => "int"
  | .str _ => "str"
  | .list _ => "list"
  | .tuple _ => "tuple"
  | .dict _ => "dict"
theorem TyX.of_dp {K : PySem.W.Frag} {H : Hp} {x : V} {d : PyData} (h : Dp K H x d) : TyX K H x (.type (tyD d)) := by
  cases h with
  | non => exact .base .non
  | bl b => exact .base (.bl b)
  | int i => exact .base (.int i)
  | str z => exact .base (.str z)
  | lst h _ =>
    rcases h with (h | ⟨o, h⟩) | ⟨o, its, n, h, hc, _⟩
    · exact .base (.lst h)
    · exact .base (.frz h)
    · exact .kList h hc
  | tup h _ =>
    rcases h with (h | ⟨o, h⟩) | ⟨o, its, n, h, hc, _⟩
    · exact .base (.tup h)
    · exact .fTuple h
    · exact .kTuple h hc

/-- a comprehension over zip of two lists of one length -/
theorem lc_zipL {K : PySem.W.Frag} {a b : Addr} {xs ys : List V} {g : TG} {tt : TT} {te : TE} {vs : List Nat} {σ : L2.St} {H1 : Hp} {D : Addr} {Qd : Hp → Prop} (hl : xs.length = ys.length) (Pv : Nat → Hp → Prop) (h0 : Pv 0 (upd H1 D (.lst []))) (hq : ∀ i H, Pv i H → SqL K H a xs ∧ SqL K H b ys)
    (hs : ∀ (i : Nat) (x y : V) (T : Addr) (H : Hp), xs[i]? = some x → ys[i]? = some y → Pv i H → H T = none → g (.ref T) (wipe σ vs) (upd H T (.tup [x, y])) fun σ2 H2 => wipe σ2 vs = wipe σ vs ∧ tt σ2 H2 fun b H3 =>
      if b = true then te σ2 H3 fun y H4 => ∃ acc, H4 D = some (.lst acc) ∧ acc.length < sizeLine ∧ Pv (i + 1) (upd H4 D (.lst (acc ++ [y]))) else Pv (i + 1) H3) (hd : ∀ H, Pv xs.length H → Qd H) :
    ∃ W : Nat → Nat → Hp → Prop, (∃ m, W 0 m (upd H1 D (.lst []))) ∧ ∀ i m H, W i m H →
      ((Itz K a b).stop i H ∧ Qd H) ∨ ((Itz K a b).go i H ∧ ∃ Nx : Hp → Prop, (∀ H', Nx H' → ∃ m', m' < m ∧ W (i + 1) m' H') ∧ ∀ x H', (Itz K a b).yld i H x H' → g x (wipe σ vs) H' fun σ2 H2 => wipe σ2 vs = wipe σ vs ∧ tt σ2 H2 fun b H3 =>
        if b = true then te σ2 H3 fun y H4 => ∃ acc, H4 D = some (.lst acc) ∧ acc.length < sizeLine ∧ Nx (upd H4 D (.lst (acc ++ [y]))) else Nx H3) := by
  refine ⟨fun i m H => m = xs.length - i ∧ i ≤ xs.length ∧ Pv i H, ⟨xs.length, by simp, Nat.zero_le _, h0⟩, ?_⟩
  rintro i m H ⟨rfl, hi, p⟩
  obtain ⟨q1, q2⟩ := hq i H p
  by_cases hlt : i < xs.length
  · refine .inr ⟨⟨xs, ys, xs[i], ys[i]'(by omega), q1, q2, by simp [hlt], by simp [← hl, hlt]⟩, Pv (i + 1), fun H' p' => ⟨xs.length - (i + 1), by omega, rfl, hlt, p'⟩, fun v H' y => ?_⟩
    obtain ⟨T, x, y', rfl, hT, rfl, hx, hy⟩ := y
    exact hs i x y' T H (hx xs q1) (hy ys q2) p hT
  · have e : i = xs.length := by omega
    subst e
    exact .inl ⟨⟨xs, ys, q1, q2, .inl (Nat.le_refl _)⟩, hd H p⟩
theorem lc_zipT {K : PySem.W.Frag} {a b : Addr} {xs ys : List V} {g : TG} {tt : TT} {te : TE} {vs : List Nat} {σ : L2.St} {H1 : Hp} {D : Addr} {Qd : Hp → Prop} (hl : xs.length = ys.length) (Pv : Nat → Hp → Prop) (h0 : Pv 0 (upd H1 D (.lst []))) (hq : ∀ i H, Pv i H → SqT K H a xs ∧ SqT K H b ys)
    (hs : ∀ (i : Nat) (x y : V) (T : Addr) (H : Hp), xs[i]? = some x → ys[i]? = some y → Pv i H → H T = none → g (.ref T) (wipe σ vs) (upd H T (.tup [x, y])) fun σ2 H2 => wipe σ2 vs = wipe σ vs ∧ tt σ2 H2 fun b H3 =>
      if b = true then te σ2 H3 fun y H4 => ∃ acc, H4 D = some (.lst acc) ∧ acc.length < sizeLine ∧ Pv (i + 1) (upd H4 D (.lst (acc ++ [y]))) else Pv (i + 1) H3) (hd : ∀ H, Pv xs.length H → Qd H) :
    ∃ W : Nat → Nat → Hp → Prop, (∃ m, W 0 m (upd H1 D (.lst []))) ∧ ∀ i m H, W i m H →
      ((RZ.ItzT K a b).stop i H ∧ Qd H) ∨ ((RZ.ItzT K a b).go i H ∧ ∃ Nx : Hp → Prop, (∀ H', Nx H' → ∃ m', m' < m ∧ W (i + 1) m' H') ∧ ∀ x H', (RZ.ItzT K a b).yld i H x H' → g x (wipe σ vs) H' fun σ2 H2 => wipe σ2 vs = wipe σ vs ∧ tt σ2 H2 fun b H3 =>
        if b = true then te σ2 H3 fun y H4 => ∃ acc, H4 D = some (.lst acc) ∧ acc.length < sizeLine ∧ Nx (upd H4 D (.lst (acc ++ [y]))) else Nx H3) := by
  refine ⟨fun i m H => m = xs.length - i ∧ i ≤ xs.length ∧ Pv i H, ⟨xs.length, by simp, Nat.zero_le _, h0⟩, ?_⟩
  rintro i m H ⟨rfl, hi, p⟩
  obtain ⟨q1, q2⟩ := hq i H p
  by_cases hlt : i < xs.length
  · refine .inr ⟨⟨xs, ys, xs[i], ys[i]'(by omega), q1, q2, by simp [hlt], by simp [← hl, hlt]⟩, Pv (i + 1), fun H' p' => ⟨xs.length - (i + 1), by omega, rfl, hlt, p'⟩, fun v H' y => ?_⟩
    obtain ⟨T, x, y', rfl, hT, rfl, hx, hy⟩ := y
    exact hs i x y' T H (hx xs q1) (hy ys q2) p hT
  · have e : i = xs.length := by omega
    subst e
    exact .inl ⟨⟨xs, ys, q1, q2, .inl (Nat.le_refl _)⟩, hd H p⟩
def spSame (K : PySem.W.Frag) (n : Nat) : Sp := fun vs H Q _ => ∃ (x y : V) (d : PyData), vs = [x, y] ∧ Deep n d ∧ Dp K H x d ∧ Dp K H y d ∧ ∀ H', Same H H' → Q (.bl true) H'
theorem kit2 {K : PySem.W.Frag} {t : String} {r1 r2 : Bool} (h1 : kitB t "tuple" = some r1) (h2 : kitB t "list" = some r2) : PySem.W.kitAny K (.type t) [.type "tuple", .type "list"] = some (r1 || r2) := by
  refine kitAny_cons (kit_ty h1) (fun e => ?_) (fun e => by rw [e]; rfl)
  refine kitAny_cons (kit_ty h2) (fun e' => ?_) (fun e' => by rw [e, e']; rfl)
  rw [e, e']
  exact kitAny_nil
theorem SqT.same {K : PySem.W.Frag} {H H' : Hp} {a : Addr} {xs : List V} (e : Same H H') (h : SqT K H a xs) : SqT K H' a xs := by
  rcases h with (h | ⟨o, h⟩) | h
  · exact .inl (.inl (e _ _ h))
  · exact .inl (.inr ⟨o, e _ _ h⟩)
  · exact .inr h
section
variable {P : Program} {w : World} {K : PySem.W.Frag} {mg : Str → Option Value} {base : Heap}
def nSame : List Str := ["_law_found", "_law_due_here", "_law_one", "_law_other"]
theorem scSame : FnScope nSame ["_law_found", "_law_due_here"] (defScope sSame) := ⟨rfl, rfl, rfl, by decide +kernel, rfl, by decide +kernel, by decide +kernel⟩
theorem ok_same {f : Addr} {fd : FuncData} (S : Std mg) (D : Df K mg "_law_same" sSame f fd ["_law_found", "_law_due_here"]) : ∀ n, FnOk P w K mg base CX0 (n + 1) f fd ["_law_found", "_law_due_here"] (spSame K n)
  | 0 => D.F.ok scSame (fun vs H Q E h => by obtain ⟨x, y, d, _, h, _⟩ := h; exact h.elim) (fun cdv A outer s H vs Q E hr h => by obtain ⟨x, y, d, _, h, _⟩ := h; exact h.elim)
  | n + 1 => by
    have G := ok_same S D n
    refine D.F.ok scSame (fun vs H Q E h => ?_) (fun cdv A outer s H vs Q E hr h => ?_)
    · obtain ⟨x, y, d, rfl, _⟩ := h
      rfl
    · obtain ⟨x, y, d, rfl, hd, hx, hy, q⟩ := h
      have tx := TyX.of_dp hx
      have ty := TyX.of_dp hy
      refine ⟨_, pss_cons (ps_if (pt_val (pe_callB call_isiT (by rfl) S.isi (by decide +kernel) (pa_cons (pv 1) (pa_cons (pe_tup (pa_cons (pe_bltn (v := .ty "tuple") (by rfl) S.tuple (by decide +kernel) rfl) (pa_cons (pe_bltn (v := .ty "list") (by rfl) S.list (by decide +kernel) rfl) pa_nil))) pa_nil))))
        (pss_cons (ps_if (PW.pt (pw_or (pt_cmpR op_ne (pe_callB call_isi (by rfl) S.isi (by decide +kernel) (pa_cons (pv 0) (pa_cons (pe_bltn (v := .ty "tuple") (by rfl) S.tuple (by decide +kernel) rfl) pa_nil))) (pe_callB call_isi (by rfl) S.isi (by decide +kernel) (pa_cons (pv 1) (pa_cons (pe_bltn (v := .ty "tuple") (by rfl) S.tuple (by decide +kernel) rfl) pa_nil))) (nomark _))
            (pw_or1 (pt_cmpR op_ne (pe_callB call_isi (by rfl) S.isi (by decide +kernel) (pa_cons (pv 0) (pa_cons (pe_bltn (v := .ty "list") (by rfl) S.list (by decide +kernel) rfl) pa_nil))) (pe_callB call_isi (by rfl) S.isi (by decide +kernel) (pa_cons (pv 1) (pa_cons (pe_bltn (v := .ty "list") (by rfl) S.list (by decide +kernel) rfl) pa_nil))) (nomark _)))))
          (pss_one (ps_ret pe_bl)) pss_nil)
        (pss_one (ps_ret (pe_and (pe_cmpR op_eq (pe_callB call_len (by rfl) S.len PySem.boot_len (pa_cons (pv 0) pa_nil)) (pe_callB call_len (by rfl) S.len PySem.boot_len (pa_cons (pv 1) pa_nil)) (nomark _))
          (pe_one (pe_callB (cr_all rfl) (by rfl) S.all (by decide +kernel) (pa_cons (pe_lc (own := [("_law_one", 2), ("_law_other", 3)]) (g := gTup K 2 (gCons (gName 2) (gCons (gName 3) gNil))) (tt := tYes) rfl scSame.nd
            (RZ.pi_zipA (by rfl) S.zip (pa_cons (pv 0) (pa_cons (pv 1) pa_nil))) (blkOk_by (N := nSame) (sc := defScope sSame) (by decide +kernel))
            (fun _ _ _ _ _ => pg_tup rfl (pgs_cons (pg_name (i := 2) scSame.nd rfl (Or.inl rfl)) (pgs_cons (pg_name (i := 3) scSame.nd rfl (Or.inl rfl)) pgs_nil))) (fun _ _ _ _ _ => pts_nil)
            (fun _ _ _ _ _ => pe_call G hr rfl D.g D.F.kp D.b .nil pass0 (pa_cons (pv 2) (pa_cons (pv 3) pa_nil)))) pa_nil))))))) pss_nil)
        (pss_one (ps_ret (pe_and (pe_cmpR op_eq (pe_callB call_isi (by rfl) S.isi (by decide +kernel) (pa_cons (pv 0) (pa_cons (pe_bltn (v := .ty "bool") (by rfl) S.bool (by decide +kernel) rfl) pa_nil))) (pe_callB call_isi (by rfl) S.isi (by decide +kernel) (pa_cons (pv 1) (pa_cons (pe_bltn (v := .ty "bool") (by rfl) S.bool (by decide +kernel) rfl) pa_nil))) (nomark _))
          (pe_one (pe_cmpR op_eq (pv 0) (pv 1) (nomark _)))))), ?_⟩
      refine ⟨_, rfl, (by show 2 ≤ sizeLine; decide), fun p hp => ?_⟩
      have s1 : Same H (upd H p (.tup [.ty "tuple", .ty "list"])) := same_new hp
      have tx1 := TyX.of_dp (Dp.same s1 hx)
      have ty1 := TyX.of_dp (Dp.same s1 hy)
      have kp := q _ s1
      have key : (∃ bb, x = y ∧ kitB (tyD d) "tuple" = some false ∧ kitB (tyD d) "list" = some false ∧ kitB (tyD d) "bool" = some bb ∧ scal x y = true) ∨
          (∃ (a b : Addr) (xs ys : List V) (ds : List PyData) (t l : Bool), x = .ref a ∧ y = .ref b ∧ ds.length ≤ 1000 ∧ (∀ d, d ∈ ds → Deep n d) ∧ DpAll K H xs ds ∧ DpAll K H ys ds ∧ kitB (tyD d) "tuple" = some t ∧ kitB (tyD d) "list" = some l ∧ (t || l) = true ∧
            ((SqL K H a xs ∧ SqL K H b ys) ∨ (SqT K H a xs ∧ SqT K H b ys))) := by
        cases hx with
        | non =>
          cases hy
          exact .inl ⟨false, rfl, by decide +kernel, by decide +kernel, by decide +kernel, rfl⟩
        | bl b =>
          cases hy
          exact .inl ⟨true, rfl, (show kitB "bool" "tuple" = some false by decide +kernel), (show kitB "bool" "list" = some false by decide +kernel), (show kitB "bool" "bool" = some true by decide +kernel), rfl⟩
        | int i =>
          cases hy
          exact .inl ⟨false, rfl, (show kitB "int" "tuple" = some false by decide +kernel), (show kitB "int" "list" = some false by decide +kernel), (show kitB "int" "bool" = some false by decide +kernel), rfl⟩
        | str z =>
          cases hy
          exact .inl ⟨false, rfl, (show kitB "str" "tuple" = some false by decide +kernel), (show kitB "str" "list" = some false by decide +kernel), (show kitB "str" "bool" = some false by decide +kernel), rfl⟩
        | lst h a =>
          cases hy with
          | lst h' a' => exact .inr ⟨_, _, _, _, _, false, true, rfl, rfl, hd.1, hd.2, a, a', (show kitB "list" "tuple" = some false by decide +kernel), (show kitB "list" "list" = some true by decide +kernel), rfl, .inl ⟨h, h'⟩⟩
        | tup h a =>
          cases hy with
          | tup h' a' => exact .inr ⟨_, _, _, _, _, true, false, rfl, rfl, hd.1, hd.2, a, a', (show kitB "tuple" "tuple" = some true by decide +kernel), (show kitB "tuple" "list" = some false by decide +kernel), rfl, .inr ⟨h, h'⟩⟩
      rcases key with ⟨bb, exy, k1, k2, k3, hs⟩ | ⟨a, b, xs, ys, ds, t, l, rfl, rfl, hlen, hdeep, ax, ay, k1, k2, k3, hq⟩
      · refine ⟨y, p, _, _, _, _, rfl, upd_same, .cons (.ty _) (.cons (.ty _) .nil), ty1, kit2 k1 k2, _, rfl, iteF ?_⟩
        refine ⟨_, rfl, _, _, _, _, bb, rfl, .ty "bool", tx1, kit_ty k3, _, rfl, _, _, _, _, bb, rfl, .ty "bool", ty1, kit_ty k3, rfl, _, rfl, ?_⟩
        rw [decide_eq_true (show V.bl bb = V.bl bb from rfl)]
        refine iteT ⟨_, rfl, _, rfl, hs, ?_⟩
        rw [decide_eq_true exy]
        exact kp
      · refine ⟨_, p, _, _, _, _, rfl, upd_same, .cons (.ty _) (.cons (.ty _) .nil), ty1, kit2 k1 k2, _, rfl, ?_⟩
        rw [k3]
        refine iteT ?_
        refine ⟨_, rfl, _, _, _, _, t, rfl, .ty "tuple", tx1, kit_ty k1, _, rfl, _, _, _, _, t, rfl, .ty "tuple", ty1, kit_ty k1, rfl, _, rfl, ?_⟩
        rw [decide_eq_true (show V.bl t = V.bl t from rfl)]
        refine iteF ?_
        refine ⟨_, rfl, _, _, _, _, l, rfl, .ty "list", tx1, kit_ty k2, _, rfl, _, _, _, _, l, rfl, .ty "list", ty1, kit_ty k2, rfl, _, rfl, ?_⟩
        rw [decide_eq_true (show V.bl l = V.bl l from rfl)]
        refine iteF ?_
        have lx := DpAll.len ax
        have ly := DpAll.len ay
        have hxy : xs.length = ys.length := by omega
        have l1 : LenV K (V.ref a) (upd H p (.tup [.ty "tuple", .ty "list"])) xs.length := by
          rcases hq with ⟨h, _⟩ | ⟨h, _⟩
          · exact .inl ⟨_, s1.seq h, rfl⟩
          · exact .inr ⟨_, SqT.same s1 h, rfl⟩
        have l2 : LenV K (V.ref b) (upd H p (.tup [.ty "tuple", .ty "list"])) ys.length := by
          rcases hq with ⟨_, h⟩ | ⟨_, h⟩
          · exact .inl ⟨_, s1.seq h, rfl⟩
          · exact .inr ⟨_, SqT.same s1 h, rfl⟩
        refine ⟨_, rfl, _, _, rfl, l1, _, rfl, _, _, rfl, l2, rfl, _, rfl, ?_⟩
        rw [decide_eq_true (show V.int xs.length = V.int ys.length by rw [hxy])]
        refine iteT ?_
        -- all([..])
        have inv0 : ∀ D : Addr, (upd H p (.tup [.ty "tuple", .ty "list"])) D = none → Keep D H (upd (upd H p (.tup [.ty "tuple", .ty "list"])) D (.lst [])) := fun D hD => (Keep.same s1).trans (Keep.new hD)
        have turn : ∀ (D : Addr), H D = none → ∀ (i : Nat) (x y : V) (T : Addr) (H4 : Hp), xs[i]? = some x → ys[i]? = some y → (Keep D H H4 ∧ H4 D = some (.lst (List.replicate i (V.bl true)))) → H4 T = none →
            spSame K n [x, y] (upd H4 T (.tup [x, y])) (fun y H5 => ∃ acc, H5 D = some (.lst acc) ∧ acc.length < sizeLine ∧ (Keep D H (upd H5 D (.lst (acc ++ [y]))) ∧ (upd H5 D (.lst (acc ++ [y]))) D = some (.lst (List.replicate (i + 1) (V.bl true))))) E0 := by
          rintro D hD i x y T H4 hx hy ⟨k4, d4⟩ hT
          have sH : Same H H4 := fun b o e => k4 b o (ne_of_none e hD) e
          obtain ⟨d1, e1, q1⟩ := DpAll.get ax i x hx
          obtain ⟨d2, e2, q2⟩ := DpAll.get ay i y hy
          rw [e1] at e2
          cases e2
          have s4 : Same H (upd H4 T (.tup [x, y])) := sH.trans (same_new hT)
          refine ⟨x, y, d1, rfl, hdeep d1 (List.mem_of_getElem? e1), Dp.same s4 q1, Dp.same s4 q2, fun H5 s5 => ?_⟩
          have hi : i < ds.length := (List.getElem?_eq_some_iff.mp e1).1
          refine ⟨_, s5 _ _ (same_new hT _ _ d4), by rw [List.length_replicate]; exact small1000 (by omega), fun b o n e => ?_, ?_⟩
          · rw [upd_ne n]
            exact s5 _ _ (s4 b o e)
          · rw [upd_same, List.replicate_succ']
        have fin : ∀ (D : Addr), H D = none → ∀ H4 : Hp, (Keep D H H4 ∧ H4 D = some (.lst (List.replicate xs.length (V.bl true)))) → ∃ (a' : Addr) (bs : List Bool), [V.ref D] = [V.ref a'] ∧ SqL K H4 a' (bs.map V.bl) ∧ Q (.bl (bs.all id)) H4 := by
          rintro D hD H4 ⟨k4, d4⟩
          have sH : Same H H4 := fun b o e => k4 b o (ne_of_none e hD) e
          refine ⟨D, List.replicate xs.length true, rfl, SqL.of (by rw [List.map_replicate]; exact d4), ?_⟩
          have e : (List.replicate xs.length true).all id = true := by
            rw [List.all_eq_true]
            intro b hb
            exact (List.mem_replicate.mp hb).2
          rw [e]
          exact q _ sH
        refine ⟨_, rfl, _, rfl, a, b, xs, ys, rfl, ?_⟩
        rcases hq with ⟨h1, h2⟩ | ⟨h1, h2⟩
        · refine .inl ⟨s1.seq h1, s1.seq h2, fun D hD => lc_zipL hxy (fun i H4 => Keep D H H4 ∧ H4 D = some (.lst (List.replicate i (V.bl true)))) ⟨inv0 D hD, upd_same⟩
            (fun i H4 ⟨k4, _⟩ => ?_) (fun i x y T H4 hx hy pv4 hT => ?_) (fin D (s1.free hD))⟩
          · have sH : Same H H4 := fun b o e => k4 b o (ne_of_none e (s1.free hD)) e
            exact ⟨sH.seq h1, sH.seq h2⟩
          · exact ⟨T, _, rfl, SqT.of upd_same, rfl, _, _, rfl, _, _, rfl, rfl, rfl, _, rfl, _, rfl, turn D (s1.free hD) i x y T H4 hx hy pv4 hT⟩
        · refine .inr ⟨SqT.same s1 h1, SqT.same s1 h2, fun D hD => lc_zipT hxy (fun i H4 => Keep D H H4 ∧ H4 D = some (.lst (List.replicate i (V.bl true)))) ⟨inv0 D hD, upd_same⟩
            (fun i H4 ⟨k4, _⟩ => ?_) (fun i x y T H4 hx hy pv4 hT => ?_) (fin D (s1.free hD))⟩
          · have sH : Same H H4 := fun b o e => k4 b o (ne_of_none e (s1.free hD)) e
            exact ⟨SqT.same sH h1, SqT.same sH h2⟩
          · exact ⟨T, _, rfl, SqT.of upd_same, rfl, _, _, rfl, _, _, rfl, rfl, rfl, _, rfl, _, rfl, turn D (s1.free hD) i x y T H4 hx hy pv4 hT⟩
end
end LK

namespace LK
open PySem PySem.Spec PyProof.Rows L2
/-! ### the texts of terms -/
def Ch (c : Nat) : Prop := 32 ≤ c ∧ c < 127 ∧ c ≠ 60 ∧ c ≠ 61
instance (c : Nat) : Decidable (Ch c) := by unfold Ch; infer_instance
def AllCh (z : Str) : Prop := ∀ c, c ∈ TL.tl z → Ch c
def Hd (z : Str) : Prop := ∃ c r, TL.tl z = c :: r ∧ c ≠ 32
def Lst (z : Str) : Prop := ∃ r c, TL.tl z = r ++ [c] ∧ c ≠ 32
structure Side (z : Str) : Prop where
  all : AllCh z
  hd : Hd z
  lst : Lst z
theorem AllCh.app {x y : Str} (a : AllCh x) (b : AllCh y) : AllCh (x ++ y) := fun c h => by
  rw [TL.tl_append] at h
  rcases List.mem_append.mp h with h | h
  · exact a c h
  · exact b c h
theorem Hd.app {x y : Str} (a : Hd x) : Hd (x ++ y) := by
  obtain ⟨c, r, e, n⟩ := a
  exact ⟨c, r ++ TL.tl y, by rw [TL.tl_append, e]; rfl, n⟩
theorem Lst.app {x y : Str} (a : Lst y) : Lst (x ++ y) := by
  obtain ⟨r, c, e, n⟩ := a
  exact ⟨TL.tl x ++ r, c, by rw [TL.tl_append, e, List.append_assoc], n⟩
theorem len_app (x y : Str) : (x ++ y).length = x.length + y.length := by
  rw [TL.len_tl, TL.tl_append, List.length_append, ← TL.len_tl, ← TL.len_tl]
theorem NameOk.ne {z : Str} (h : NameOk z) : TL.tl z ≠ [] := fun e => by
  have := h.pos
  rw [TL.len_tl, e] at this
  exact absurd this (Nat.lt_irrefl _)
theorem NameOk.side {z : Str} (h : NameOk z) : Side z := by
  refine ⟨fun c hc => ?_, ?_, ?_⟩
  · obtain ⟨a, b⟩ := h.low c hc
    exact ⟨by omega, by omega, by omega, by omega⟩
  · obtain ⟨c, r, e⟩ := List.exists_cons_of_ne_nil h.ne
    have := h.low c (by rw [e]; exact List.mem_cons_self ..)
    exact ⟨c, r, e, by omega⟩
  · have e := List.dropLast_concat_getLast h.ne
    have := h.low _ (List.getLast_mem h.ne)
    exact ⟨_, _, e.symm, by omega⟩
def numS (n : Nat) : Str := Str.ofString (toString ((n : Nat) : Int))
theorem numS_all (n : Nat) : AllCh (numS n) := fun c h => by
  unfold numS at h
  rw [TL.tl_num] at h
  by_cases hc : c < 48 ∨ 57 < c
  · exact absurd h (TL.numL_free hc)
  · exact ⟨by omega, by omega, by omega, by omega⟩
theorem numS_len {n : Nat} (h : n < 100) : (numS n).length ≤ 2 := by
  unfold numS
  rw [TL.len_tl, TL.tl_num]
  exact TL.numL_len (k := 2) (by decide) (by omega)
theorem joinL_all {S : List Nat} {p : Nat → Prop} (hS : ∀ c, c ∈ S → p c) : ∀ {ps : List (List Nat)}, (∀ l, l ∈ ps → ∀ c, c ∈ l → p c) → ∀ c, c ∈ TL.joinL S ps → p c
  | [], _, c, h => by cases h
  | [l], hp, c, h => hp l (List.mem_singleton.mpr rfl) c h
  | l :: q :: r, hp, c, h => by
    rcases List.mem_append.mp (show c ∈ l ++ (S ++ TL.joinL S (q :: r)) from h) with h | h
    · exact hp l (List.mem_cons_self ..) c h
    · rcases List.mem_append.mp h with h | h
      · exact hS c h
      · exact joinL_all hS (fun l' h' => hp l' (List.mem_cons_of_mem _ h')) c h
theorem joinL_len {S : List Nat} {k : Nat} : ∀ {ps : List (List Nat)}, (∀ l, l ∈ ps → l.length ≤ k) → (TL.joinL S ps).length ≤ ps.length * (k + S.length)
  | [], _ => by simp [TL.joinL]
  | [l], hp => by
    have := hp l (List.mem_singleton.mpr rfl)
    show l.length ≤ 1 * (k + S.length)
    omega
  | l :: q :: r, hp => by
    have h1 := hp l (List.mem_cons_self ..)
    have h2 := joinL_len (S := S) (k := k) (ps := q :: r) fun l' h' => hp l' (List.mem_cons_of_mem _ h')
    show (l ++ (S ++ TL.joinL S (q :: r))).length ≤ _
    rw [List.length_append, List.length_append, List.length_cons (a := l), Nat.add_mul]
    omega
theorem join_all {S : Str} (hS : AllCh S) {ps : List Str} (h : ∀ p, p ∈ ps → AllCh p) : AllCh (Txt.join S ps) := fun c hc => by
  rw [TL.join_eq, TL.tl_join] at hc
  refine joinL_all (p := Ch) hS (fun l hl => ?_) c hc
  obtain ⟨z, hz, rfl⟩ := List.mem_map.mp hl
  exact h z hz
theorem join_len {S : Str} {k : Nat} {ps : List Str} (h : ∀ p, p ∈ ps → p.length ≤ k) : (Txt.join S ps).length ≤ ps.length * (k + S.length) := by
  rw [TL.len_tl, TL.join_eq, TL.tl_join]
  have := joinL_len (S := TL.tl S) (k := k) (ps := ps.map TL.tl) fun l hl => by
    obtain ⟨z, hz, rfl⟩ := List.mem_map.mp hl
    rw [← TL.len_tl]
    exact h z hz
  rw [List.length_map, ← TL.len_tl] at this
  exact this
theorem sum_le {k : Nat} : ∀ {ps : List Str}, (∀ p, p ∈ ps → p.length ≤ k) → (ps.map (·.length)).sum ≤ ps.length * k
  | [], _ => by simp
  | p :: r, h => by
    have h1 := h p (List.mem_cons_self ..)
    have h2 := sum_le (k := k) (ps := r) fun q hq => h q (List.mem_cons_of_mem _ hq)
    rw [List.map_cons, List.sum_cons, List.length_cons, Nat.add_mul]
    omega
/-- how long a term may be, so deep -/
def tb : Nat → Nat
  | 0 => 20
  | n + 1 => 2 * tb n + 12
theorem tb_mono (n : Nat) : 20 ≤ tb n := by
  induction n with
  | zero => exact Nat.le_refl _
  | succ n ih => show 20 ≤ 2 * tb n + 12; omega
/-- a list of names stands at a -/
structure Names (K : PySem.W.Frag) (H : Hp) (l a : Addr) (ns : List Str) : Prop where
  sq : H a = some (.lst (ns.map V.str))
  ne : a ≠ l
  pos : 0 < ns.length
  len : ns.length ≤ 20
  ok : ∀ z, z ∈ ns → NameOk z
theorem Names.keep {K : PySem.W.Frag} {H H' : Hp} {l a : Addr} {ns : List Str} (h : Names K H l a ns) (k : Keep l H H') : Names K H' l a ns := ⟨k _ _ h.ne h.sq, h.ne, h.pos, h.len, h.ok⟩
def spTerm (K : PySem.W.Frag) (n : Nat) : Sp := fun vs H Q _ => ∃ (l a : Addr) (ns : List Str) (dp : Nat), vs = [.ref l, .ref a, .int dp] ∧ dp < n ∧ dp ≤ 8 ∧ Feed H l ∧ Names K H l a ns ∧
  ∀ z H', Side z → z.length ≤ tb dp → Feed H' l → Keep l H H' → Q (.str z) H'
section
variable {P : Program} {w : World} {K : PySem.W.Frag} {mg : Str → Option Value} {base : Heap}
def nTerm : List Str := ["_law_feed_here", "_law_names", "_law_deep", "_law_way", "_law_name", "_law_parts", "_law_k"]
theorem scTerm : FnScope nTerm ["_law_feed_here", "_law_names", "_law_deep"] (defScope sTerm) := ⟨rfl, rfl, rfl, by decide +kernel, rfl, by decide +kernel, by decide +kernel⟩
/-- one of the names, picked -/
theorem pick_name {H : Hp} {l a : Addr} {ns : List Str} {Q : VK} (hf : Feed H l) (hn : Names K H l a ns) (q : ∀ z H', NameOk z → Feed H' l → Keep l H H' → Q (.str z) H') : spPick K [.ref l, .ref a] H Q E0 :=
  ⟨l, .ref a, (fun v => ∃ z, v = .str z ∧ NameOk z), rfl, hf, .inr ⟨a, ns.map V.str, rfl, hn.ne, SqL.of hn.sq, by rw [List.length_map]; exact hn.pos, by rw [List.length_map]; have := hn.len; omega, fun v hv => by
    obtain ⟨z, hz, rfl⟩ := List.mem_map.mp hv
    exact ⟨z, rfl, hn.ok z hz⟩⟩, fun v H' ⟨z, e, hz⟩ hf' k => by rw [e]; exact q z H' hz hf' k⟩
theorem tb8 : ∀ n, n ≤ 8 → tb n ≤ 20000 := by decide +kernel
theorem ok_term {f fD fP : Addr} {fd fdD fdP : FuncData} (S : Std mg) (T : Df K mg "_law_term" sTerm f fd ["_law_feed_here", "_law_names", "_law_deep"]) (D : Df K mg "_law_draw" sDraw fD fdD ["_law_feed_here", "_law_many"])
    (PK : Df K mg "_law_pick" sPick fP fdP ["_law_feed_here", "_law_items"]) : ∀ n, FnOk P w K mg base CX0 (n + 3) f fd ["_law_feed_here", "_law_names", "_law_deep"] (spTerm K n)
  | 0 => T.F.ok scTerm (fun vs H Q E h => by obtain ⟨_, _, _, _, _, h, _⟩ := h; exact absurd h (Nat.not_lt_zero _)) (fun cdv A outer s H vs Q E hr h => by obtain ⟨_, _, _, _, _, h, _⟩ := h; exact absurd h (Nat.not_lt_zero _))
  | n + 1 => by
    have G := ok_term S T D PK n
    have GD : FnOk P w K mg base CX0 1 fD fdD ["_law_feed_here", "_law_many"] spDraw := ok_draw S D.F
    have GP : FnOk P w K mg base CX0 2 fP fdP ["_law_feed_here", "_law_items"] (spPick K) := ok_pick S PK.F D
    refine T.F.ok scTerm (fun vs H Q E h => ?_) (fun cdv A outer s H vs Q E hr h => ?_)
    · obtain ⟨_, _, _, _, rfl, _⟩ := h
      rfl
    · obtain ⟨l, a, ns, dp, rfl, hdp, hd8, hf, hn, q⟩ := h
      have hr1 : Room 1 _ := hr.mono (by omega)
      have hr2 : Room 2 _ := hr.mono (by omega)
      have hn' : Room (n + 3) _ := hr.mono (by omega)
      refine ⟨_, pss_cons (ps_set (i := 3) scTerm.nd rfl (Or.inl rfl) (pe_call GD hr1 rfl D.g D.F.kp D.b .nil pass0 (pa_cons (pv 0) (pa_cons pe_int pa_nil))))
        (pss_cons (ps_set (i := 4) scTerm.nd rfl (Or.inl rfl) (pe_call GP hr2 rfl PK.g PK.F.kp PK.b .nil pass0 (pa_cons (pv 0) (pa_cons (pv 1) pa_nil))))
        (pss_cons (ps_if (pt_cmpR op_eq (pv 3) pe_int (nomark _)) (pss_one (ps_ret (pe_op op_add_str (pv 4) pe_str))) pss_nil)
        (pss_cons (ps_if (pt_cmpR op_eq (pv 3) pe_int (nomark _)) (pss_one (ps_ret (pe_op op_add_str (pe_op op_add_str (pe_op op_add_str (pe_op op_add_str (pe_op op_add_str (pe_op op_add_str pe_str
            (pe_callTy call_str_int (by rfl) S.str (by decide +kernel) (pa_cons (pe_call GD hr1 rfl D.g D.F.kp D.b .nil pass0 (pa_cons (pv 0) (pa_cons pe_int pa_nil))) pa_nil))) pe_str)
            (pe_callTy call_str_int (by rfl) S.str (by decide +kernel) (pa_cons (pe_call GD hr1 rfl D.g D.F.kp D.b .nil pass0 (pa_cons (pv 0) (pa_cons pe_int pa_nil))) pa_nil))) pe_str) (pv 4)) pe_str))) pss_nil)
        (pss_cons (ps_if (PW.pt (pw_or (pt_cmpR op_eq (pv 3) pe_int (nomark _)) (pw_or1 (pt_cmpR op_eq (pv 2) pe_int (nomark _))))) (pss_one (ps_ret (pv 4))) pss_nil)
        (pss_cons (ps_setLc (i := 5) (own := [("_law_k", 6)]) (g := gName 6) (tt := tYes) rfl scTerm.nd rfl rfl (sw_true rfl rfl rfl (by decide +kernel))
            (pi_range1 (by rfl) S.range (pa_cons (pe_op op_add pe_int (pe_call GD hr1 rfl D.g D.F.kp D.b .nil pass0 (pa_cons (pv 0) (pa_cons pe_int pa_nil)))) pa_nil))
            (blkOk_by (N := nTerm) (sc := defScope sTerm) (by decide +kernel)) (fun _ _ _ _ _ => pg_name (i := 6) scTerm.nd rfl (Or.inl rfl)) (fun _ _ _ _ _ => pts_nil)
            (fun _ _ _ _ _ => pe_call G hn' rfl T.g T.F.kp T.b .nil pass0 (pa_cons (pv 0) (pa_cons (pv 1) (pa_cons (pe_op op_sub (pv 2) pe_int) pa_nil)))))
        (pss_one (ps_ret (pe_op op_add_str (pe_op op_add_str (pe_op op_add_str (pe_call GP hr2 rfl PK.g PK.F.kp PK.b .nil pass0 (pa_cons (pv 0) (pa_cons (pv 1) pa_nil))) pe_str)
            (pe_join pe_str (pv 5))) pe_str)))))))), ?_⟩
      refine ⟨_, rfl, l, 5, rfl, hf, by decide, by decide, fun way H1 w0 w1 hf1 k1 => ?_⟩
      refine ⟨_, rfl, _, rfl, pick_name hf1 (hn.keep k1) fun nm H2 nok hf2 k2 => ?_⟩
      have k02 := k1.trans k2
      have sl : (4 : Nat) + 100 ≤ sizeLine := by decide
      have hln := nok.len
      have hnil := nok.side
      refine ⟨_, rfl, rfl, _, rfl, ite2 (fun c1 => ?_) (fun c1 => ?_)⟩
      · refine ⟨_, rfl, _, _, rfl, rfl, (by show nm.length + 1 ≤ sizeLine; omega), q _ _ ⟨hnil.all.app (by unfold AllCh; decide +kernel), hnil.hd.app, Lst.app ⟨[], 39, by decide +kernel, by decide⟩⟩ ?_ hf2 k02⟩
        have := tb_mono dp
        rw [len_app]
        show nm.length + 1 ≤ _
        omega
      refine ⟨_, rfl, rfl, _, rfl, ite2 (fun c2 => ?_) (fun c2 => ?_)⟩
      · refine ⟨_, rfl, l, 2, rfl, hf2, by decide, by decide, fun u H3 u0 u1 hf3 k3 => ?_⟩
        obtain ⟨un, rfl⟩ : ∃ un : Nat, u = (un : Int) := ⟨u.toNat, by omega⟩
        have lu : (numS un).length ≤ 2 := numS_len (by omega)
        refine ⟨(un : Int), rfl, ?_, _, _, rfl, rfl, ?_, _, _, rfl, rfl, ?_, _, rfl, l, 12, rfl, hf3, by decide, by decide, fun v H4 v0 v1 hf4 k4 => ?_⟩
        · have : un < 2 := by omega
          have h : ∀ m : Nat, m < 2 → ((m : Int)).natAbs.log2 < 1920 := by decide +kernel
          exact h un this
        · show (Str.ofString "end(").length + (numS un).length ≤ sizeLine
          have : (Str.ofString "end(").length = 4 := by decide +kernel
          omega
        · show (Str.ofString "end(" ++ numS un).length + (Str.ofString ", ").length ≤ sizeLine
          have : (Str.ofString "end(").length = 4 := by decide +kernel
          have : (Str.ofString ", ").length = 2 := by decide +kernel
          rw [len_app]
          omega
        obtain ⟨vn, rfl⟩ : ∃ vn : Nat, v = (vn : Int) := ⟨v.toNat, by omega⟩
        have lv : (numS vn).length ≤ 2 := numS_len (by omega)
        have e1 : (Str.ofString "end(").length = 4 := by decide +kernel
        have e2 : (Str.ofString ", ").length = 2 := by decide +kernel
        have e3 : (Str.ofString ")").length = 1 := by decide +kernel
        refine ⟨(vn : Int), rfl, ?_, _, _, rfl, rfl, ?_, _, _, rfl, rfl, ?_, _, rfl, _, _, rfl, rfl, ?_, _, _, rfl, rfl, ?_, ?_⟩
        · have : vn < 12 := by omega
          have h : ∀ m : Nat, m < 12 → ((m : Int)).natAbs.log2 < 1920 := by decide +kernel
          exact h vn this
        · show (Str.ofString "end(" ++ numS un ++ Str.ofString ", ").length + (numS vn).length ≤ sizeLine
          rw [len_app, len_app]
          omega
        · show (Str.ofString "end(" ++ numS un ++ Str.ofString ", " ++ numS vn).length + (Str.ofString ", ").length ≤ sizeLine
          rw [len_app, len_app, len_app]
          omega
        · show (Str.ofString "end(" ++ numS un ++ Str.ofString ", " ++ numS vn ++ Str.ofString ", ").length + nm.length ≤ sizeLine
          rw [len_app, len_app, len_app, len_app]
          omega
        · show (Str.ofString "end(" ++ numS un ++ Str.ofString ", " ++ numS vn ++ Str.ofString ", " ++ nm).length + (Str.ofString ")").length ≤ sizeLine
          rw [len_app, len_app, len_app, len_app, len_app]
          omega
        · show Q (.str (Str.ofString "end(" ++ numS un ++ Str.ofString ", " ++ numS vn ++ Str.ofString ", " ++ nm ++ Str.ofString ")")) H4
          have a1 : AllCh (Str.ofString "end(") := by unfold AllCh; decide +kernel
          have a2 : AllCh (Str.ofString ", ") := by unfold AllCh; decide +kernel
          have a3 : AllCh (Str.ofString ")") := by unfold AllCh; decide +kernel
          refine q _ _ ⟨((((((a1.app (numS_all _)).app a2).app (numS_all _)).app a2).app hnil.all).app a3), Hd.app (Hd.app (Hd.app (Hd.app (Hd.app (Hd.app ⟨101, [110, 100, 40], by decide +kernel, by decide⟩))))), Lst.app ⟨[], 41, by decide +kernel, by decide⟩⟩ ?_ hf4 ((k02.trans k3).trans k4)
          have := tb_mono dp
          rw [len_app, len_app, len_app, len_app, len_app, len_app]
          omega
      refine ⟨_, rfl, rfl, _, rfl, ite2 (fun c3 => ?_) (fun c3 => ?_)⟩
      · refine iteT ⟨_, rfl, q _ _ hnil ?_ hf2 k02⟩
        have := tb_mono dp
        omega
      refine ⟨_, rfl, rfl, _, rfl, ?_⟩
      refine ite2 (fun c4 => ?_) (fun c4 => ?_)
      · refine ⟨_, rfl, q _ _ hnil ?_ hf2 k02⟩
        have := tb_mono dp
        omega
      have dpos : 0 < dp := by
        rcases Nat.eq_zero_or_pos dp with e | e
        · exact absurd (decide_eq_true (by rw [e]; rfl)) c4
        · exact e
      obtain ⟨m, rfl⟩ : ∃ m, dp = m + 1 := ⟨dp - 1, by omega⟩
      refine ⟨_, rfl, l, 2, rfl, hf2, by decide, by decide, fun e H3 u0 u1 hf3 k3 => ⟨_, _, rfl, rfl, 1 + e, rfl, by omega, by omega, fun C hC => ?_⟩⟩
      have hlC := hf3.ne hC
      have haC : a ≠ C := ne_of_none ((hn.keep (k02.trans k3)).sq) hC
      have k03 := k02.trans k3
      refine lc_range (lo := 0) (n := (1 + e).toNat) (fun i H4 => Feed H4 l ∧ Keep l H H4 ∧ ∃ ys : List Str, ys.length = i ∧ H4 C = some (.lst (ys.map V.str)) ∧ ∀ y, y ∈ ys → AllCh y ∧ y.length ≤ tb m)
        ⟨hf3.same (same_new hC), k03.trans (Keep.new hC), [], rfl, upd_same, fun y hy => by simp at hy⟩ ?_ ?_
      · rintro i H4 hi ⟨hf4, k4, ys, el, hy, hys⟩
        refine ⟨rfl, _, rfl, _, rfl, _, rfl, _, _, rfl, rfl, l, a, ns, m, by show [V.ref l, V.ref a, V.int (((m + 1 : Nat) : Int) - 1)] = _; rw [show ((m + 1 : Nat) : Int) - 1 = (m : Int) by omega], by omega, by omega, hf4, hn.keep k4, fun z H5 sz lz hf5 k5 => ?_⟩
        refine ⟨ys.map V.str, k5 _ _ hlC.symm hy, ?_, hf5.keep (m := C) Keep.put hlC, fun b o nb eb => ?_, ys ++ [z], by simp [el], by rw [upd_same]; simp, fun y hy' => ?_⟩
        · rw [List.length_map]
          exact small1000 (by omega)
        · have e3 := k03 b o nb eb
          rw [upd_ne (ne_of_none e3 hC)]
          exact k5 b o nb (k4 b o nb eb)
        · rcases List.mem_append.mp hy' with h | h
          · exact hys y h
          · have ey : y = z := by simpa using h
            rw [ey]
            exact ⟨sz.all, lz⟩
      · rintro H4 ⟨hf4, k4, ys, el, hy, hys⟩
        have hl2 : ys.length ≤ 2 := by omega
        have b8 := tb8 m (by omega)
        have hj1 := sum_le (k := tb m) fun p hp => (hys p hp).2
        have hj2 := join_len (S := Str.ofString ", ") (k := tb m) fun p hp => (hys p hp).2
        have hj3 := join_all (S := Str.ofString ", ") (by unfold AllCh; decide +kernel) fun p hp => (hys p hp).1
        have e2 : (Str.ofString ", ").length = 2 := by decide +kernel
        have e1 : (Str.ofString "(").length = 1 := by decide +kernel
        have e3 : (Str.ofString ")").length = 1 := by decide +kernel
        have sz : (16777216 : Nat) ≤ sizeLine := by decide
        refine ⟨_, rfl, _, rfl, pick_name hf4 (hn.keep k4) fun nm' H5 nok' hf5 k5 => ?_⟩
        have hln' := nok'.len
        have m1 : ys.length * tb m ≤ 2 * tb m := Nat.mul_le_mul_right _ hl2
        have m2 : ys.length * (tb m + 2) ≤ 2 * (tb m + 2) := Nat.mul_le_mul_right _ hl2
        have m3 : ys.length * (Str.ofString ", ").length ≤ 4 := by rw [e2]; omega
        rw [e2] at hj2
        refine ⟨_, _, rfl, rfl, (by show nm'.length + (Str.ofString "(").length ≤ sizeLine; omega), ⟨_, rfl⟩, _, rfl, _, _, ys, rfl, rfl, .inl (SqL.of (k5 _ _ hlC.symm hy)), by omega, _, _, rfl, rfl, ?_, _, _, rfl, rfl, ?_, ?_⟩
        · show (nm' ++ Str.ofString "(").length + (Txt.join (Str.ofString ", ") ys).length ≤ sizeLine
          rw [len_app]
          omega
        · show (nm' ++ Str.ofString "(" ++ Txt.join (Str.ofString ", ") ys).length + (Str.ofString ")").length ≤ sizeLine
          rw [len_app, len_app]
          omega
        · refine q _ _ ⟨((nok'.side.all.app (by unfold AllCh; decide +kernel)).app hj3).app (by unfold AllCh; decide +kernel), nok'.side.hd.app.app.app, Lst.app ⟨[], 41, by decide +kernel, by decide⟩⟩ ?_ hf5 (k4.trans k5)
          show (nm' ++ Str.ofString "(" ++ Txt.join (Str.ofString ", ") ys ++ Str.ofString ")").length ≤ 2 * tb m + 12
          rw [len_app, len_app, len_app]
          omega
end
end LK

namespace LK
open PySem PySem.Spec PyProof.Rows L2
/-! ### trees -/
inductive Tr where
  | leaf
  | node (l r : Str) (a b : Tr)
namespace Tr
def enc : Tr → PyData
  | leaf => .tuple []
  | node l r a b => .tuple [.str l, .str r, a.enc, b.enc]
def Ok : Tr → Prop
  | leaf => True
  | node l r a b => (Side l ∧ l.length ≤ 200) ∧ (Side r ∧ r.length ≤ 200) ∧ a.Ok ∧ b.Ok
def depth : Tr → Nat
  | leaf => 0
  | node _ _ a b => max a.depth b.depth + 1
def knots : Tr → Nat
  | leaf => 0
  | node _ _ a b => a.knots + b.knots + 1
theorem depth_knots : ∀ t : Tr, t.depth ≤ t.knots
  | leaf => Nat.le_refl _
  | node _ _ a b => by
    have h1 := depth_knots a
    have h2 := depth_knots b
    show max a.depth b.depth + 1 ≤ a.knots + b.knots + 1
    omega
theorem deep : ∀ (t : Tr) (n : Nat), t.depth + 2 ≤ n → Deep n t.enc
  | leaf, n + 1, _ => ⟨Nat.zero_le _, fun d h => by cases h⟩
  | node l r a b, 0, h => by omega
  | node l r a b, 1, h => by omega
  | node l r a b, n + 2, h => by
    have h' : max a.depth b.depth + 1 + 2 ≤ n + 2 := h
    have ha := deep a (n + 1) (by omega)
    have hb := deep b (n + 1) (by omega)
    refine ⟨by show 4 ≤ 1000; decide, fun d hd => ?_⟩
    rcases List.mem_cons.mp hd with rfl | hd
    · exact True.intro
    rcases List.mem_cons.mp hd with rfl | hd
    · exact True.intro
    rcases List.mem_cons.mp hd with rfl | hd
    · exact ha
    rcases List.mem_cons.mp hd with rfl | hd
    · exact hb
    cases hd
end Tr
theorem SqT.keepL {K : PySem.W.Frag} {H H' : Hp} {l a : Addr} {xs ys : List V} (hl : H l = some (.lst ys)) (k : Keep l H H') (h : SqT K H a xs) : SqT K H' a xs := by
  rcases h with (h | ⟨o, h⟩) | h
  · exact .inl (.inl (k _ _ (fun e => by rw [e, hl] at h; cases h) h))
  · exact .inl (.inr ⟨o, k _ _ (fun e => by rw [e, hl] at h; cases h) h⟩)
  · exact .inr h
theorem Tr.keep {K : PySem.W.Frag} {H H' : Hp} {l : Addr} {ys : List V} (hl : H l = some (.lst ys)) (k : Keep l H H') : ∀ {t : Tr} {v : V}, Dp K H v t.enc → Dp K H' v t.enc
  | leaf, v, h => by
    cases h with
    | tup h a =>
      cases a
      exact .tup (SqT.keepL hl k h) .nil
  | node x y a b, v, h => by
    cases h with
    | tup h q =>
      cases q with
      | cons q1 q =>
        cases q with
        | cons q2 q =>
          cases q with
          | cons q3 q =>
            cases q with
            | cons q4 q =>
              cases q
              cases q1
              cases q2
              exact .tup (SqT.keepL hl k h) (.cons (.str _) (.cons (.str _) (.cons (Tr.keep hl k q3) (.cons (Tr.keep hl k q4) .nil))))
theorem Tr.keepF {K : PySem.W.Frag} {H H' : Hp} {l : Addr} (hf : Feed H l) (k : Keep l H H') {t : Tr} {v : V} (h : Dp K H v t.enc) : Dp K H' v t.enc := by
  obtain ⟨a, b, e, _⟩ := hf
  exact Tr.keep e k h
theorem Tr.mkLeaf {K : PySem.W.Frag} {H : Hp} {p : Addr} (h : H p = some (.tup [])) : Dp K H (.ref p) Tr.leaf.enc := .tup (SqT.of h) .nil
theorem Tr.mkNode {K : PySem.W.Frag} {H : Hp} {p : Addr} {l r : Str} {a b : Tr} {va vb : V} (h : H p = some (.tup [.str l, .str r, va, vb])) (ha : Dp K H va a.enc) (hb : Dp K H vb b.enc) : Dp K H (.ref p) (Tr.node l r a b).enc :=
  .tup (SqT.of h) (.cons (.str _) (.cons (.str _) (.cons ha (.cons hb .nil))))
def spTree (K : PySem.W.Frag) (n : Nat) : Sp := fun vs H Q _ => ∃ (l a : Addr) (ns : List Str) (room dp : Nat), vs = [.ref l, .ref a, .int room, .int dp] ∧ dp < n ∧ room ≤ 1000 ∧ Feed H l ∧ Names K H l a ns ∧
  ∀ v (t : Tr) H', Dp K H' v t.enc → t.Ok → t.depth ≤ dp → t.knots ≤ room → Feed H' l → Keep l H H' → Q v H'
section
variable {P : Program} {w : World} {K : PySem.W.Frag} {mg : Str → Option Value} {base : Heap}
def nTree : List Str := ["_law_feed_here", "_law_names", "_law_room", "_law_deep", "_law_left", "_law_sides", "_law_one", "_law_other"]
theorem scTree : FnScope nTree ["_law_feed_here", "_law_names", "_law_room", "_law_deep"] (defScope sTree) := ⟨rfl, rfl, rfl, by decide +kernel, rfl, by decide +kernel, by decide +kernel⟩
theorem tb2 : tb 2 ≤ 200 := by decide
theorem ok_tree {f fD fT : Addr} {fd fdD fdT : FuncData} (S : Std mg) (T : Df K mg "_law_tree" sTree f fd ["_law_feed_here", "_law_names", "_law_room", "_law_deep"]) (D : Df K mg "_law_draw" sDraw fD fdD ["_law_feed_here", "_law_many"])
    (TE : Df K mg "_law_term" sTerm fT fdT ["_law_feed_here", "_law_names", "_law_deep"]) (GT : FnOk P w K mg base CX0 6 fT fdT ["_law_feed_here", "_law_names", "_law_deep"] (spTerm K 3)) :
    ∀ n, FnOk P w K mg base CX0 (n + 7) f fd ["_law_feed_here", "_law_names", "_law_room", "_law_deep"] (spTree K n)
  | 0 => T.F.ok scTree (fun vs H Q E h => by obtain ⟨_, _, _, _, _, _, h, _⟩ := h; exact absurd h (Nat.not_lt_zero _)) (fun cdv A outer s H vs Q E hr h => by obtain ⟨_, _, _, _, _, _, h, _⟩ := h; exact absurd h (Nat.not_lt_zero _))
  | n + 1 => by
    have G := ok_tree S T D TE GT n
    have GD : FnOk P w K mg base CX0 1 fD fdD ["_law_feed_here", "_law_many"] spDraw := ok_draw S D.F
    refine T.F.ok scTree (fun vs H Q E h => ?_) (fun cdv A outer s H vs Q E hr h => ?_)
    · obtain ⟨_, _, _, _, _, rfl, _⟩ := h
      rfl
    · obtain ⟨l, a, ns, room, dp, rfl, hdp, hroom, hf, hn, q⟩ := h
      have hr1 : Room 1 _ := hr.mono (by omega)
      have hr6 : Room 6 _ := hr.mono (by omega)
      refine ⟨_, pss_cons (ps_if (PW.pt (pw_or (pt_cmpR op_eq (pv 2) pe_int (nomark _)) (pw_or1 (pt_cmpR op_eq (pv 3) pe_int (nomark _))))) (pss_one (ps_ret (pe_tup pa_nil))) pss_nil)
        (pss_cons (ps_set (i := 4) scTree.nd rfl (Or.inl rfl) (pe_call GD hr1 rfl D.g D.F.kp D.b .nil pass0 (pa_cons (pv 0) (pa_cons (pv 2) pa_nil))))
        (pss_cons (ps_set (i := 5) scTree.nd rfl (Or.inl rfl) (pe_tup (pa_cons (pe_call GT hr6 rfl TE.g TE.F.kp TE.b .nil pass0 (pa_cons (pv 0) (pa_cons (pv 1) (pa_cons pe_int pa_nil))))
          (pa_cons (pe_call GT hr6 rfl TE.g TE.F.kp TE.b .nil pass0 (pa_cons (pv 0) (pa_cons (pv 1) (pa_cons pe_int pa_nil)))) pa_nil))))
        (pss_cons (ps_set (i := 6) scTree.nd rfl (Or.inl rfl) (pe_call G hr rfl T.g T.F.kp T.b .nil pass0 (pa_cons (pv 0) (pa_cons (pv 1) (pa_cons (pv 4) (pa_cons (pe_op op_sub (pv 3) pe_int) pa_nil))))))
        (pss_cons (ps_set (i := 7) scTree.nd rfl (Or.inl rfl) (pe_call G hr rfl T.g T.F.kp T.b .nil pass0 (pa_cons (pv 0) (pa_cons (pv 1) (pa_cons (pe_op op_sub (pe_op op_sub (pv 2) pe_int) (pv 4)) (pa_cons (pe_op op_sub (pv 3) pe_int) pa_nil))))))
        (pss_one (ps_ret (pe_op op_catT (pv 5) (pe_tup (pa_cons (pv 6) (pa_cons (pv 7) pa_nil)))))))))), ?_⟩
      have leafE : ∀ p, H p = none → Q (.ref p) (upd H p (.tup [])) := fun p hp => q _ .leaf _ (Tr.mkLeaf upd_same) True.intro (Nat.zero_le _) (Nat.zero_le _) (hf.same (same_new hp)) (Keep.new hp)
      refine ⟨_, rfl, rfl, _, rfl, ite2 (fun c1 => ?_) (fun c1 => ?_)⟩
      · exact iteT ⟨(by show 0 ≤ sizeLine; decide), leafE⟩
      refine ⟨_, rfl, rfl, _, rfl, ?_⟩
      refine ite2 (fun c2 => ?_) (fun c2 => ?_)
      · exact ⟨(by show 0 ≤ sizeLine; decide), leafE⟩
      have rpos : 0 < room := by
        rcases Nat.eq_zero_or_pos room with e | e
        · exact absurd (decide_eq_true (by rw [e]; rfl)) c1
        · exact e
      have dpos : 0 < dp := by
        rcases Nat.eq_zero_or_pos dp with e | e
        · exact absurd (decide_eq_true (by rw [e]; rfl)) c2
        · exact e
      refine ⟨_, rfl, _, rfl, l, (room : Int), rfl, hf, by omega, by omega, fun d H1 d0 d1 hf1 k1 => ?_⟩
      obtain ⟨left, rfl⟩ : ∃ left : Nat, d = (left : Int) := ⟨d.toNat, by omega⟩
      refine ⟨_, rfl, _, rfl, l, a, ns, 2, rfl, by omega, by omega, hf1, hn.keep k1, fun x H2 sx lx hf2 k2 => ?_⟩
      refine ⟨_, rfl, _, rfl, l, a, ns, 2, rfl, by omega, by omega, hf2, hn.keep (k1.trans k2), fun y H3 sy ly hf3 k3 => ?_⟩
      refine ⟨(by show 2 ≤ sizeLine; decide), fun p hp => ?_⟩
      have hlp := hf3.ne hp
      have k03 : Keep l H (upd H3 p (.tup [.str x, .str y])) := ((k1.trans k2).trans k3).trans (Keep.new hp)
      have hf3' : Feed (upd H3 p (.tup [.str x, .str y])) l := hf3.same (same_new hp)
      refine ⟨_, rfl, _, rfl, _, rfl, _, rfl, _, _, rfl, rfl, l, a, ns, left, dp - 1, by show [V.ref l, V.ref a, V.int left, V.int ((dp : Int) - 1)] = _; rw [show (dp : Int) - 1 = ((dp - 1 : Nat) : Int) by omega], by omega, by omega, hf3', hn.keep k03, fun va ta H4 da oka dta kna hf4 k4 => ?_⟩
      have k04 := k03.trans k4
      refine ⟨_, rfl, _, rfl, _, rfl, _, _, rfl, rfl, _, rfl, _, _, rfl, rfl, _, rfl, _, _, rfl, rfl, l, a, ns, room - 1 - left, dp - 1, ?_, by omega, by omega, hf4, hn.keep k04, fun vb tb' H5 db okb dtb knb hf5 k5 => ?_⟩
      · show [V.ref l, V.ref a, V.int ((room : Int) - 1 - left), V.int ((dp : Int) - 1)] = _
        rw [show (dp : Int) - 1 = ((dp - 1 : Nat) : Int) by omega, show (room : Int) - 1 - left = ((room - 1 - left : Nat) : Int) by omega]
      have k05 := k04.trans k5
      have hp5 : H5 p = some (.tup [.str x, .str y]) := k5 _ _ hlp.symm (k4 _ _ hlp.symm upd_same)
      refine ⟨_, rfl, _, rfl, _, rfl, (by show 2 ≤ sizeLine; decide), fun p2 hp2 => ?_⟩
      refine ⟨p, p2, _, _, rfl, rfl, SqT.of (same_new hp2 _ _ hp5), SqT.of upd_same, by simp, (by show 2 + 2 ≤ sizeLine; decide), fun e => by simp at e, fun _ p3 hp3 => ?_⟩
      have s6 : Same H5 (upd (upd H5 p2 (.tup [va, vb])) p3 (.tup [.str x, .str y, va, vb])) := (same_new hp2).trans (same_new hp3)
      have b2 := tb2
      refine q (.ref p3) (.node x y ta tb') _ (Tr.mkNode upd_same (Dp.same s6 (Tr.keepF hf4 k5 da)) (Dp.same s6 db)) ⟨⟨sx, by omega⟩, ⟨sy, by omega⟩, oka, okb⟩ ?_ ?_ (hf5.same s6) (k05.trans (Keep.same s6))
      · show max ta.depth tb'.depth + 1 ≤ dp
        omega
      · show ta.knots + tb'.knots + 1 ≤ room
        omega
end
end LK

namespace LK
open PySem PySem.Spec PyProof.Rows L2
namespace Tr
def ind (s : Str) : Str := Str.ofString "  " ++ s
def lines : Tr → List Str
  | leaf => [Str.ofString "so"]
  | node l r a b => [l ++ Str.ofString " <= " ++ r] ++ a.lines.map ind ++ [r ++ Str.ofString " < " ++ l] ++ b.lines.map ind
theorem lines_len : ∀ t : Tr, t.lines.length = 3 * t.knots + 1
  | leaf => rfl
  | node l r a b => by
    show ([l ++ Str.ofString " <= " ++ r] ++ a.lines.map ind ++ [r ++ Str.ofString " < " ++ l] ++ b.lines.map ind).length = 3 * (a.knots + b.knots + 1) + 1
    rw [List.length_append, List.length_append, List.length_append, List.length_map, List.length_map, lines_len a, lines_len b]
    show 1 + (3 * a.knots + 1) + 1 + (3 * b.knots + 1) = _
    omega
theorem ind_len (s : Str) : (ind s).length = 2 + s.length := by
  unfold ind
  rw [len_app]
  have : (Str.ofString "  ").length = 2 := by decide +kernel
  omega
theorem line_len : ∀ (t : Tr), t.Ok → ∀ s, s ∈ t.lines → s.length ≤ 404 + 2 * t.depth
  | leaf, _, s, h => by
    have e : s = Str.ofString "so" := by simpa [lines] using h
    rw [e]
    have : (Str.ofString "so").length = 2 := by decide +kernel
    omega
  | node l r a b, ⟨⟨_, hl⟩, ⟨_, hr⟩, oa, ob⟩, s, h => by
    have e1 : (Str.ofString " <= ").length = 4 := by decide +kernel
    have e2 : (Str.ofString " < ").length = 3 := by decide +kernel
    show s.length ≤ 404 + 2 * (max a.depth b.depth + 1)
    rcases List.mem_append.mp h with h | h
    · rcases List.mem_append.mp h with h | h
      · rcases List.mem_append.mp h with h | h
        · have e : s = l ++ Str.ofString " <= " ++ r := by simpa using h
          rw [e, len_app, len_app]
          omega
        · obtain ⟨u, hu, rfl⟩ := List.mem_map.mp h
          have := line_len a oa u hu
          rw [ind_len]
          omega
      · have e : s = r ++ Str.ofString " < " ++ l := by simpa using h
        rw [e, len_app, len_app]
        omega
    · obtain ⟨u, hu, rfl⟩ := List.mem_map.mp h
      have := line_len b ob u hu
      rw [ind_len]
      omega
theorem strOk {z : Str} (h : AllCh z) : PyData.strOk z = true := by
  unfold PyData.strOk
  rw [Array.all_eq_true]
  intro i hi
  have := h z.cps[i] (by show _ ∈ z.cps.toList; simp)
  exact decide_eq_true (Nat.lt_trans this.2.1 (by decide))
theorem canLay : ∀ t : Tr, t.Ok → t.enc.canLay0 = true
  | leaf, _ => rfl
  | node l r a b, ⟨⟨hl, _⟩, ⟨hr, _⟩, oa, ob⟩ => by
    have ha := canLay a oa
    have hb := canLay b ob
    simp [enc, PyData.canLay0, PyData.canLayAll0, ha, hb, strOk hl.all, strOk hr.all]
theorem encDepth : ∀ t : Tr, t.enc.depth ≤ t.depth + 2
  | leaf => by decide
  | node l r a b => by
    have ha := encDepth a
    have hb := encDepth b
    simp only [enc, PyData.depth, PyData.depthAll, depth]
    omega
theorem shaped {t : Tr} (o : t.Ok) (h : t.depth ≤ 60) : SeqAt.shaped t.enc = true := by
  unfold SeqAt.shaped
  have := encDepth t
  rw [canLay t o, decide_eq_true (by omega)]
  rfl
def isLeaf : Tr → Bool
  | leaf => true
  | _ => false
theorem eq_leaf : ∀ t : Tr, PyData.eqv t.enc (.tuple []) = t.isLeaf
  | leaf => by decide +kernel
  | node l r a b => by simp [enc, PyData.eqv, isLeaf, PyData.eqvAll]
theorem parts {K : PySem.W.Frag} {H : Hp} {l r : Str} {a b : Tr} {v : V} (h : Dp K H v (node l r a b).enc) : ∃ (p : Addr) (va vb : V), v = .ref p ∧ SqT K H p [.str l, .str r, va, vb] ∧ Dp K H va a.enc ∧ Dp K H vb b.enc := by
  cases h with
  | tup h q =>
    cases q with
    | cons q1 q =>
      cases q with
      | cons q2 q =>
        cases q with
        | cons q3 q =>
          cases q with
          | cons q4 q =>
            cases q
            cases q1
            cases q2
            exact ⟨_, _, _, rfl, h, q3, q4⟩
end Tr
end LK

namespace LK
open PySem PySem.Spec PyProof.Rows L2
/-! ### the program: texts -/
theorem has_blank (c : Nat) : (Str.ofString " ").cps.contains c = (c == 32) := by
  have e : (Str.ofString " ").cps = #[32] := by decide +kernel
  rw [e, Bool.eq_iff_iff]
  simp
theorem strip_same {z : Str} (h : Hd z) (l : Lst z) : Txt.stripChars z (Str.ofString " ") = z := by
  obtain ⟨c, r, e, n⟩ := h
  obtain ⟨r', c', e', n'⟩ := l
  have g : (Str.ofString " ").cps.contains = fun c => c == 32 := funext has_blank
  have n1 : (c == 32) = false := by simpa using n
  have n2 : (c' == 32) = false := by simpa using n'
  unfold Txt.stripChars Txt.stripBy stripSame
  rw [g]
  have lo : stripLo (fun c => c == 32) true z = 0 := by
    unfold stripLo
    rw [if_pos rfl]
    show ((TL.tl z).takeWhile _).length = 0
    rw [e, List.takeWhile_cons_of_neg (by simp [n])]
    rfl
  have hi : stripHi (fun c => c == 32) true z 0 = z.length := by
    unfold stripHi
    rw [if_pos rfl]
    show z.length - (((TL.tl z).drop 0).reverse.takeWhile _).length = _
    rw [List.drop_zero, e', List.reverse_append]
    show z.length - (List.takeWhile _ (c' :: r'.reverse)).length = _
    rw [List.takeWhile_cons_of_neg (by simp [n'])]
    rfl
  rw [lo, hi]
  simp
def mayB (z : Str) : Bool := (!decide (V.str z = V.str (Str.ofString ""))) && (decide (V.str z = V.str (Txt.stripChars z (Str.ofString " "))) && ((!decide (60 ∈ z.cps.toList)) && !decide (61 ∈ z.cps.toList)))
theorem may_side {z : Str} (h : Side z) : mayB z = true := by
  obtain ⟨c, r, e, n⟩ := h.hd
  have h1 : V.str z ≠ V.str (Str.ofString "") := fun q => by
    have q' : z = Str.ofString "" := by injection q
    rw [q'] at e
    have : TL.tl (Str.ofString "") = [] := by decide +kernel
    rw [this] at e
    cases e
  have h2 := strip_same h.hd h.lst
  have h3 : 60 ∉ z.cps.toList := fun q => (h.all 60 q).2.2.1 rfl
  have h4 : 61 ∉ z.cps.toList := fun q => (h.all 61 q).2.2.2 rfl
  unfold mayB
  rw [h2, decide_eq_false h1, decide_eq_false h3, decide_eq_false h4]
  simp
def spMay : Sp := fun vs H Q _ => ∃ z : Str, vs = [.str z] ∧ z.length ≤ sizeLine ∧ Q (.bl (mayB z)) H
section
variable {P : Program} {w : World} {K : PySem.W.Frag} {mg : Str → Option Value} {base : Heap}
theorem scMay : FnScope ["text"] ["text"] (defScope pMay) := ⟨rfl, rfl, rfl, by decide +kernel, rfl, by decide +kernel, by decide +kernel⟩
theorem ok_may {f : Addr} {fd : FuncData} (T : Df K mg "_may_be_term" pMay f fd ["text"]) : FnOk P w K mg base CX0 1 f fd ["text"] spMay := by
  refine T.F.ok scMay (fun vs H Q E h => ?_) (fun cdv A outer s H vs Q E hr h => ?_)
  · obtain ⟨_, rfl, _⟩ := h
    rfl
  · obtain ⟨z, rfl, hz, q⟩ := h
    refine ⟨_, pss_one (ps_ret (pe_and (pe_cmpR op_ne (pv 0) pe_str (nomark _)) (pe_and (pe_cmpR op_eq (pv 0) (pe_bm PySem.F.plainAttrs_str PySem.F.slot_str_strip PySem.F.type_str_strip mt_stripChars (pv 0) (pa_cons pe_str pa_nil)) (nomark _))
      (pe_and (pe_cmpR op_notIn_sign pe_str (pv 0) (by rfl)) (pe_one (pe_cmpR op_notIn_sign pe_str (pv 0) (by rfl))))))), ?_⟩
    unfold mayB at q
    refine ⟨_, rfl, rfl, _, rfl, ?_⟩
    cases h1 : (!decide (V.str z = V.str (Str.ofString "")))
    · rw [h1] at q
      exact q
    rw [h1, Bool.true_and] at q
    refine iteT ⟨_, rfl, _, rfl, rfl, ?_⟩
    refine ⟨_, _, rfl, rfl, hz, rfl, _, rfl, ?_⟩
    cases h2 : (decide (V.str z = V.str (Txt.stripChars z (Str.ofString " "))))
    · rw [h2] at q
      exact q
    rw [h2, Bool.true_and] at q
    refine iteT ⟨_, rfl, 60, z, rfl, rfl, _, rfl, ?_⟩
    cases h3 : (!decide (60 ∈ z.cps.toList))
    · rw [h3] at q
      exact q
    rw [h3, Bool.true_and] at q
    refine iteT ⟨_, rfl, 61, z, rfl, rfl, ?_⟩
    exact q
end
end LK

namespace LK
open PySem PySem.Spec PyProof.Rows L2
/-! ### the program: the lines of a tree -/
structure Cs (mg : Str → Option Value) (t1 t2 : Tok) : Prop where
  leaf : mg "LEAF" = some (.str "so" t1)
  ind : mg "INDENT" = some (.str "  " t2)
/-- the lines of a tree, behind so much -/
def Tr.linesA (t : Tr) (a : Str) : List Str := t.lines.map (a ++ ·)
theorem empty_app (a : Str) : Str.ofString "" ++ a = a := Str.empty_append a
theorem Tr.linesA_nil (t : Tr) : t.linesA (Str.ofString "") = t.lines := by
  unfold linesA
  rw [List.map_congr_left (g := id) fun s _ => empty_app s]
  exact List.map_id _
theorem Tr.linesA_ind (t : Tr) (a : Str) : (t.lines.map Tr.ind).map (a ++ ·) = t.linesA (a ++ Str.ofString "  ") := by
  unfold linesA
  rw [List.map_map]
  exact List.map_congr_left fun s _ => (Str.append_assoc a _ s).symm
theorem Tr.linesA_node (l r : Str) (x y : Tr) (a : Str) : (Tr.node l r x y).linesA a = [a ++ l ++ Str.ofString " <= " ++ r] ++ (x.linesA (a ++ Str.ofString "  ") ++ ([a ++ r ++ Str.ofString " < " ++ l] ++ y.linesA (a ++ Str.ofString "  "))) := by
  rw [← linesA_ind, ← linesA_ind]
  show (([l ++ Str.ofString " <= " ++ r] ++ x.lines.map ind ++ [r ++ Str.ofString " < " ++ l] ++ y.lines.map ind).map (a ++ ·)) = _
  rw [List.map_append, List.map_append, List.map_append, List.append_assoc, List.append_assoc]
  simp only [List.map_cons, List.map_nil, Str.append_assoc]
theorem Tr.linesA_len (t : Tr) (a : Str) : (t.linesA a).length = 3 * t.knots + 1 := by
  unfold linesA
  rw [List.length_map, lines_len]
/-- sides that aren't too long -/
def Tr.Bd : Tr → Prop
  | leaf => True
  | node l r a b => l.length ≤ 100000 ∧ r.length ≤ 100000 ∧ a.Bd ∧ b.Bd
theorem Tr.Ok.bd : ∀ {t : Tr}, t.Ok → t.Bd
  | .leaf, _ => True.intro
  | .node l r a b, ⟨⟨_, hl⟩, ⟨_, hr⟩, oa, ob⟩ => ⟨by omega, by omega, oa.bd, ob.bd⟩
def spLinesOf (K : PySem.W.Frag) (n : Nat) : Sp := fun vs H Q _ => ∃ (v : V) (t : Tr) (a : Str), vs = [v, .str a] ∧ Dp K H v t.enc ∧ t.Bd ∧ t.depth < n ∧ t.knots ≤ 60 ∧ a.length + 2 * t.depth ≤ 1000 ∧
  ∀ p H', H p = none → H' p = some (.lst ((t.linesA a).map V.str)) → Same H H' → Q (.ref p) H'
section
variable {P : Program} {w : World} {K : PySem.W.Frag} {mg : Str → Option Value} {base : Heap} {t1 t2 : Tok}
def nLinesOf : List Str := ["told", "ahead", "left", "right", "one", "other"]
theorem scLinesOf : FnScope nLinesOf ["told", "ahead"] (defScope pLinesOf) := ⟨rfl, rfl, rfl, by decide +kernel, rfl, by decide +kernel, by decide +kernel⟩
theorem ok_lines_of {f : Addr} {fd : FuncData} (C : Cs mg t1 t2) (T : Df K mg "_lines_of" pLinesOf f fd ["told", "ahead"]) : ∀ n, FnOk P w K mg base CX0 (n + 1) f fd ["told", "ahead"] (spLinesOf K n)
  | 0 => T.F.ok scLinesOf (fun vs H Q E h => by obtain ⟨_, _, _, _, _, _, h, _⟩ := h; exact absurd h (Nat.not_lt_zero _)) (fun cdv A outer s H vs Q E hr h => by obtain ⟨_, _, _, _, _, _, h, _⟩ := h; exact absurd h (Nat.not_lt_zero _))
  | n + 1 => by
    have G := ok_lines_of C T n
    refine T.F.ok scLinesOf (fun vs H Q E h => ?_) (fun cdv A outer s H vs Q E hr h => ?_)
    · obtain ⟨_, _, _, rfl, _⟩ := h
      rfl
    · obtain ⟨v, t, a, rfl, hv, ok, hdp, hkn, hal, q⟩ := h
      refine ⟨_, pss_cons (ps_if (pt_not (pt_truth (pv 0) (by intro _; rfl))) (pss_one (ps_ret (pe_lst (pa_cons (pe_op op_add_str (pv 1) (pe_glob (v := .str "so") rfl C.leaf ⟨_, rfl⟩)) pa_nil)))) pss_nil)
        (pss_cons (ps_asg (pv 0) (pg_tup (by rfl) (pgs_cons (pg_name (i := 2) scLinesOf.nd rfl (.inl rfl)) (pgs_cons (pg_name (i := 3) scLinesOf.nd rfl (.inl rfl)) (pgs_cons (pg_name (i := 4) scLinesOf.nd rfl (.inl rfl)) (pgs_cons (pg_name (i := 5) scLinesOf.nd rfl (.inl rfl)) pgs_nil))))))
        (pss_one (ps_ret (pe_lst (pa_cons (pe_joined (.cons (pe_fmt (pv 1)) (.cons (pe_fmt (pv 2)) (.cons pe_str (.cons (pe_fmt (pv 3)) .nil)))))
          (StX.pa_star (pe_call G hr rfl T.g T.F.kp T.b .nil pass0 (pa_cons (pv 4) (pa_cons (pe_op op_add_str (pv 1) (pe_glob (v := .str "  ") rfl C.ind ⟨_, rfl⟩)) pa_nil)))
          (pa_cons (pe_joined (.cons (pe_fmt (pv 1)) (.cons (pe_fmt (pv 3)) (.cons pe_str (.cons (pe_fmt (pv 2)) .nil)))))
          (StX.pa_star (pe_call G hr rfl T.g T.F.kp T.b .nil pass0 (pa_cons (pv 5) (pa_cons (pe_op op_add_str (pv 1) (pe_glob (v := .str "  ") rfl C.ind ⟨_, rfl⟩)) pa_nil))) pa_nil)))))))), ?_⟩
      have sz : (16777216 : Nat) ≤ sizeLine := by decide
      have e4 : (Str.ofString " <= ").length = 4 := by decide +kernel
      have e3 : (Str.ofString " < ").length = 3 := by decide +kernel
      have e2 : (Str.ofString "  ").length = 2 := by decide +kernel
      have es : (Str.ofString "so").length = 2 := by decide +kernel
      cases t with
      | leaf =>
        cases hv with
        | tup h0 b =>
          cases b
          refine ⟨_, rfl, false, .inr (.inl ⟨_, h0, rfl⟩), iteT ?_⟩
          refine ⟨_, rfl, _, _, rfl, rfl, (by show a.length + (Str.ofString "so").length ≤ sizeLine; omega), (by show 1 ≤ sizeLine; decide), fun p hp => ?_⟩
          exact q p _ hp upd_same (same_new hp)
      | node l r x y =>
        obtain ⟨p0, va, vb, rfl, hp0, ha, hb⟩ := Tr.parts hv
        obtain ⟨ll, lr, oa, ob⟩ := id ok
        have hdp' : max x.depth y.depth + 1 < n + 1 := hdp
        have hal' : a.length + 2 * (max x.depth y.depth + 1) ≤ 1000 := hal
        have hkn' : x.knots + y.knots + 1 ≤ 60 := hkn
        refine ⟨_, rfl, true, .inr (.inl ⟨_, hp0, rfl⟩), iteF ?_⟩
        refine ⟨_, rfl, p0, _, rfl, hp0, rfl, ?_⟩
        have le : (Str.empty ++ a).length = a.length := by rw [Str.empty_append]
        refine ⟨_, _, rfl, _, _, rfl, _, _, rfl, _, _, rfl, rfl, ?_⟩
        refine ⟨_, rfl, .inl ⟨_, rfl, by omega, _, rfl, by omega, ?_⟩⟩
        refine ⟨_, rfl, .inl ⟨_, rfl, by omega, _, rfl, (by rw [len_app]; omega), ?_⟩⟩
        refine ⟨_, rfl, (by rw [len_app, len_app, e4]; omega), ?_⟩
        refine ⟨_, rfl, .inl ⟨_, rfl, by omega, _, rfl, (by rw [len_app, len_app, len_app, e4]; omega), ?_⟩⟩
        refine ⟨_, rfl, _, rfl, _, _, rfl, rfl, (by show a.length + (Str.ofString "  ").length ≤ sizeLine; omega), va, x, _, rfl, ha, oa, by omega, by omega, (by rw [len_app, e2]; omega), fun p1 H1 hp1 h1 s1 => ?_⟩
        refine ⟨p1, _, rfl, .inr (SqL.of h1), ?_⟩
        refine ⟨_, rfl, .inl ⟨_, rfl, by omega, _, rfl, by omega, ?_⟩⟩
        refine ⟨_, rfl, .inl ⟨_, rfl, by omega, _, rfl, (by rw [len_app]; omega), ?_⟩⟩
        refine ⟨_, rfl, (by rw [len_app, len_app, e3]; omega), ?_⟩
        refine ⟨_, rfl, .inl ⟨_, rfl, by omega, _, rfl, (by rw [len_app, len_app, len_app, e3]; omega), ?_⟩⟩
        refine ⟨_, rfl, _, rfl, _, _, rfl, rfl, (by show a.length + (Str.ofString "  ").length ≤ sizeLine; omega), vb, y, _, rfl, Dp.same s1 hb, ob, by omega, by omega, (by rw [len_app, e2]; omega), fun p2 H2 hp2 h2 s2 => ?_⟩
        refine ⟨p2, _, rfl, .inr (SqL.of h2), ?_⟩
        have lx := Tr.linesA_len x (a ++ Str.ofString "  ")
        have ly := Tr.linesA_len y (a ++ Str.ofString "  ")
        refine ⟨?_, fun p3 hp3 => ?_⟩
        · simp only [List.length_append, List.length_map, List.length_cons, List.length_nil, lx, ly]
          omega
        · refine q p3 _ ((s1.trans s2).free hp3) ?_ ((s1.trans s2).trans (same_new hp3))
          rw [upd_same, Tr.linesA_node]
          simp only [List.map_append, List.map_cons, List.map_nil, Str.empty_append, List.append_nil, List.singleton_append, List.cons_append, List.nil_append]
theorem Tr.bd_line : ∀ (t : Tr), t.Bd → ∀ s, s ∈ t.lines → s.length ≤ 200004 + 2 * t.depth
  | leaf, _, s, h => by
    have e : s = Str.ofString "so" := by simpa [lines] using h
    rw [e]
    have : (Str.ofString "so").length = 2 := by decide +kernel
    omega
  | node l r a b, ⟨hl, hr, oa, ob⟩, s, h => by
    have e1 : (Str.ofString " <= ").length = 4 := by decide +kernel
    have e2 : (Str.ofString " < ").length = 3 := by decide +kernel
    show s.length ≤ 200004 + 2 * (max a.depth b.depth + 1)
    rcases List.mem_append.mp h with h | h
    · rcases List.mem_append.mp h with h | h
      · rcases List.mem_append.mp h with h | h
        · have e : s = l ++ Str.ofString " <= " ++ r := by simpa using h
          rw [e, len_app, len_app]
          omega
        · obtain ⟨u, hu, rfl⟩ := List.mem_map.mp h
          have := bd_line a oa u hu
          rw [ind_len]
          omega
      · have e : s = r ++ Str.ofString " < " ++ l := by simpa using h
        rw [e, len_app, len_app]
        omega
    · obtain ⟨u, hu, rfl⟩ := List.mem_map.mp h
      have := bd_line b ob u hu
      rw [ind_len]
      omega
def text (t : Tr) : Str := Txt.join (Str.ofString "\n") t.lines
def spShow (K : PySem.W.Frag) : Sp := fun vs H Q _ => ∃ (v : V) (t : Tr), vs = [v] ∧ Dp K H v t.enc ∧ t.Bd ∧ t.knots ≤ 12 ∧ ∀ H', Same H H' → Q (.str (text t)) H'
theorem scShow : FnScope ["told"] ["told"] (defScope pShow) := ⟨rfl, rfl, rfl, by decide +kernel, rfl, by decide +kernel, by decide +kernel⟩
theorem ok_show {f fL : Addr} {fd fdL : FuncData} (C : Cs mg t1 t2) (F : Fun K "show_tree" "show_tree" pShow f fd) (L : Df K mg "_lines_of" pLinesOf fL fdL ["told", "ahead"]) : FnOk P w K mg base CX0 23 f fd ["told"] (spShow K) := by
  have G : FnOk P w K mg base CX0 22 fL fdL ["told", "ahead"] (spLinesOf K 21) := ok_lines_of C L 21
  refine F.ok scShow (fun vs H Q E h => ?_) (fun cdv A outer s H vs Q E hr h => ?_)
  · obtain ⟨_, _, rfl, _⟩ := h
    rfl
  · obtain ⟨v, t, rfl, hv, bt, gk, q⟩ := h
    have dk := t.depth_knots
    refine ⟨_, pss_one (ps_ret (pe_join pe_str (pe_call G hr rfl L.g L.F.kp L.b .nil pass0 (pa_cons (pv 0) (pa_cons pe_str pa_nil))))), ?_⟩
    have e0 : (Str.ofString "").length = 0 := by decide +kernel
    refine ⟨⟨_, rfl⟩, _, rfl, v, t, _, rfl, hv, bt, by omega, by omega, by rw [e0]; omega, fun p H1 hp h1 s1 => ?_⟩
    rw [Tr.linesA_nil] at h1
    have ll := Tr.lines_len t
    have lb : ∀ s, s ∈ t.lines → s.length ≤ 201000 := fun s hs => by
      have := Tr.bd_line t bt s hs
      omega
    have hsum := sum_le lb
    refine ⟨_, p, t.lines, rfl, rfl, .inl (SqL.of h1), ?_, q _ s1⟩
    have e1 : (Str.ofString "\n").length = 1 := by decide +kernel
    have m1 : t.lines.length * 201000 ≤ 37 * 201000 := Nat.mul_le_mul_right _ (by omega)
    show (t.lines.map (·.length)).sum + t.lines.length * (Str.ofString "\n").length ≤ 16777216
    rw [e1]
    omega
end
end LK

namespace LK
open PySem PySem.Spec PyProof.Rows L2
/-! ### texts: what a tree's text is read as -/
theorem starts_app (a x : Str) : Txt.startswith (a ++ x) a = true := by
  unfold Txt.startswith
  rw [PySem.StrLaws.subAt_eq]
  have e : (a ++ x).cps.toList = a.cps.toList ++ x.cps.toList := TL.tl_append a x
  have n : a.length = a.cps.toList.length := TL.len_tl a
  rw [len_app, e, n, List.drop_zero, List.take_left' rfl]
  simp
theorem cut_app (a x : Str) : cutS (a ++ x) (some (a.length : Int)) none = x := by
  refine TL.ext_tl ?_
  unfold cutS
  show ((TL.tl (a ++ x)).drop _).take _ = _
  rw [HT.sIx_nat, HT.sIx_none, len_app, Nat.min_eq_left (Nat.le_add_right _ _), TL.tl_append, TL.len_tl a, TL.len_tl x, List.drop_left' rfl]
  exact List.take_of_length_le (by omega)
/-- what stands behind a -/
def behind (x a : Str) : Str := cutS x (some (a.length : Int)) none
theorem starts_eq {x a : Str} (h : Txt.startswith x a = true) : x = a ++ behind x a := by
  unfold Txt.startswith at h
  rw [PySem.StrLaws.subAt_eq, Bool.and_eq_true, decide_eq_true_eq, beq_iff_eq, List.drop_zero] at h
  obtain ⟨h1, h2⟩ := h
  refine TL.ext_tl ?_
  rw [TL.tl_append]
  have e : TL.tl (behind x a) = (TL.tl x).drop a.length := by
    unfold behind cutS
    show ((TL.tl x).drop _).take _ = _
    rw [HT.sIx_nat, HT.sIx_none, Nat.min_eq_left (by omega)]
    refine List.take_of_length_le ?_
    rw [List.length_drop, ← TL.len_tl]
    exact Nat.le_refl _
  rw [e]
  have h3 : (TL.tl x).take a.length = TL.tl a := h2
  rw [← h3]
  exact (List.take_append_drop _ _).symm
theorem starts_iff (x a : Str) : Txt.startswith x a = true ↔ x = a ++ behind x a := ⟨starts_eq, fun e => by rw [e]; exact starts_app _ _⟩
theorem head_eq (x a : Str) : cutS x none (some (a.length : Int)) = a ↔ Txt.startswith x a = true := by
  have e : TL.tl (cutS x none (some (a.length : Int))) = (TL.tl x).take a.length := by
    unfold cutS
    show ((TL.tl x).drop _).take _ = _
    rw [HT.sIx_nat, HT.sIx_none, List.drop_zero, Nat.sub_zero]
    rcases Nat.le_total a.length x.length with h | h
    · rw [Nat.min_eq_left h]
    · rw [Nat.min_eq_right h, TL.len_tl x, List.take_length, List.take_of_length_le]
      rw [← TL.len_tl x]
      exact h
  constructor
  · intro h
    rw [h] at e
    rw [starts_iff]
    refine TL.ext_tl ?_
    rw [TL.tl_append, e]
    have l1 : a.length ≤ x.length := by
      have := congrArg List.length e
      rw [List.length_take, ← TL.len_tl, ← TL.len_tl] at this
      omega
    have e2 : TL.tl (behind x a) = (TL.tl x).drop a.length := by
      unfold behind cutS
      show ((TL.tl x).drop _).take _ = _
      rw [HT.sIx_nat, HT.sIx_none, Nat.min_eq_left l1]
      refine List.take_of_length_le ?_
      rw [List.length_drop, ← TL.len_tl]
      exact Nat.le_refl _
    rw [e2]
    exact (List.take_append_drop _ _).symm
  · intro h
    have q := starts_eq h
    refine TL.ext_tl ?_
    rw [e]
    conv => lhs; rw [q]
    rw [TL.tl_append, TL.len_tl a, List.take_left' rfl]
theorem behind_len (x a : Str) : (behind x a).length ≤ x.length := cutS_length _ _ _
theorem leaf_iff (x a : Str) : x = a ++ Str.ofString "so" ↔ Txt.startswith x a = true ∧ behind x a = Str.ofString "so" := by
  constructor
  · intro e
    rw [e]
    exact ⟨starts_app _ _, cut_app _ _⟩
  · rintro ⟨h1, h2⟩
    have := starts_eq h1
    rw [h2] at this
    exact this
/-- both sides of a comparison -/
def sidesOf (s : Str) : Option (Str × Str) :=
  match Txt.split s (Str.ofString " <= ") with
  | [l, r] => if (mayB l && mayB r) = true then some (l, r) else none
  | _ => none
inductive Rd where
  | bad (n : Nat)
  | ok (t : Tr) (stop : Nat)
/-- what stands from a line on -/
def rd (ls : List Str) : Nat → Nat → Str → Rd
  | 0, i, _ => .bad i
  | f + 1, i, a =>
    match ls[i]? with
    | none => .bad i
    | some x =>
      if Txt.startswith x a = true then
        if behind x a = Str.ofString "so" then .ok .leaf (i + 1)
        else
          match sidesOf (behind x a) with
          | none => .bad i
          | some (l, r) =>
            match rd ls f (i + 1) (a ++ Str.ofString "  ") with
            | .bad n => .bad n
            | .ok one stop =>
              if ls[stop]? = some (a ++ r ++ Str.ofString " < " ++ l) then
                match rd ls f (stop + 1) (a ++ Str.ofString "  ") with
                | .bad n => .bad n
                | .ok other stop2 => .ok (.node l r one other) stop2
              else .bad stop
      else .bad i
theorem joinL_spl1 : ∀ (l acc : List Nat), TL.joinL [10] (TL.spl [10] 0 acc l) = acc ++ l
  | [], acc => by rw [TL.spl_nil]; simp [TL.joinL]
  | c :: r, acc => by
    by_cases h : TL.pre [10] (c :: r) = true
    · rw [TL.spl_hit h]
      have ih := joinL_spl1 r []
      have hc : c = 10 := by
        unfold TL.pre at h
        simpa using h
      subst hc
      have hne : TL.spl [10] 0 [] r ≠ [] := fun e => by
        cases r with
        | nil => rw [TL.spl_nil] at e; cases e
        | cons c' r' =>
          by_cases h' : TL.pre [10] (c' :: r') = true
          · rw [TL.spl_hit h'] at e; cases e
          · rw [TL.spl_miss (by simpa using h')] at e
            have ih' := ih
            rw [TL.spl_miss (by simpa using h'), e] at ih'
            cases ih'
      show TL.joinL [10] (acc :: TL.spl [10] 0 [] r) = _
      obtain ⟨q, m, e⟩ := List.exists_cons_of_ne_nil hne
      rw [e] at ih ⊢
      show acc ++ ([10] ++ TL.joinL [10] (q :: m)) = _
      rw [ih]
      simp
    · rw [TL.spl_miss (by simpa using h), joinL_spl1 r (acc ++ [c]), List.append_assoc]
      rfl
theorem tl_nl : TL.tl (Str.ofString "\n") = [10] := by decide +kernel
theorem split_spl1 (z : Str) : (Txt.split z (Str.ofString "\n")).map TL.tl = TL.spl [10] 0 [] (TL.tl z) := by
  rw [TL.split_spl _ _ (by rw [tl_nl]; simp) (TL.kind_ok (by decide +kernel)), tl_nl]
theorem join_split (z : Str) : Txt.join (Str.ofString "\n") (Txt.split z (Str.ofString "\n")) = z := by
  refine TL.ext_tl ?_
  rw [TL.join_eq, TL.tl_join, split_spl1, tl_nl, joinL_spl1]
  rfl
end LK

namespace LK
open PySem PySem.Spec PyProof.Rows L2
theorem blanks : (Str.ofString " ").cps.contains = fun c => c == 32 := funext has_blank
theorem strip_only {z : Str} (h : Txt.stripChars z (Str.ofString " ") = z) : stripLo (fun c => c == 32) true z = 0 ∧ stripHi (fun c => c == 32) true z 0 = z.length := by
  unfold Txt.stripChars Txt.stripBy at h
  rw [blanks] at h
  by_cases c : stripSame (fun c => c == 32) true true z = true
  · unfold stripSame at c
    rw [Bool.and_eq_true, beq_iff_eq, beq_iff_eq] at c
    obtain ⟨c1, c2⟩ := c
    rw [c1] at c2
    exact ⟨c1, c2⟩
  · rw [if_neg c] at h
    exfalso
    apply c
    unfold stripped at h
    have e := congrArg TL.tl h
    rw [TL.tl_strSub] at e
    have l := congrArg List.length e
    rw [List.length_take, List.length_drop, ← TL.len_tl] at l
    have hlo : stripLo (fun c => c == 32) true z ≤ z.length := by
      unfold stripLo
      rw [if_pos rfl]
      show ((TL.tl z).takeWhile _).length ≤ _
      rw [TL.len_tl z]
      exact (List.takeWhile_prefix _).length_le
    have hhi : stripHi (fun c => c == 32) true z (stripLo (fun c => c == 32) true z) ≤ z.length := by
      unfold stripHi
      rw [if_pos rfl]
      omega
    unfold stripSame
    rw [Bool.and_eq_true, beq_iff_eq, beq_iff_eq]
    rcases Nat.eq_zero_or_pos (stripLo (fun c => c == 32) true z) with z0 | z0
    · rw [z0] at l hhi ⊢
      exact ⟨rfl, by omega⟩
    · exfalso
      omega
theorem takeW_nil {p : Nat → Bool} {c : Nat} {r : List Nat} (h : ((c :: r).takeWhile p).length = 0) : p c = false := by
  rw [List.takeWhile_cons] at h
  cases e : p c
  · rfl
  · rw [e] at h
    cases h
theorem strip_iff {z : Str} {c d : Nat} {r q : List Nat} (h1 : TL.tl z = c :: r) (h2 : TL.tl z = q ++ [d]) : Txt.stripChars z (Str.ofString " ") = z ↔ c ≠ 32 ∧ d ≠ 32 := by
  constructor
  · intro h
    obtain ⟨a, b⟩ := strip_only h
    unfold stripLo at a
    rw [if_pos rfl] at a
    have a' : ((TL.tl z).takeWhile fun c => c == 32).length = 0 := a
    rw [h1] at a'
    unfold stripHi at b
    rw [if_pos rfl] at b
    have b' : z.length - (((TL.tl z).drop 0).reverse.takeWhile fun c => c == 32).length = z.length := b
    rw [List.drop_zero, h2, List.reverse_append] at b'
    have hz : 0 < z.length := by rw [TL.len_tl, h1]; exact Nat.zero_lt_succ _
    have b2 : ((d :: q.reverse).takeWhile fun c => c == 32).length = 0 := by
      have b3 : z.length - ((d :: q.reverse).takeWhile fun c => c == 32).length = z.length := b'
      omega
    exact ⟨by simpa using takeW_nil a', by simpa using takeW_nil b2⟩
  · rintro ⟨a, b⟩
    exact strip_same ⟨c, r, h1, a⟩ ⟨q, d, h2, b⟩
/-- the signs < and = of a text, each a text -/
def bads (z : Str) : List Str := ((TL.tl z).filter fun c => c == 60 || c == 61).map fun c => (⟨#[c]⟩ : Str)
theorem bads_nil (z : Str) : bads z = [] ↔ 60 ∉ TL.tl z ∧ 61 ∉ TL.tl z := by
  unfold bads
  rw [List.map_eq_nil_iff, List.filter_eq_nil_iff]
  constructor
  · intro h
    exact ⟨fun m => absurd (h 60 m) (by decide), fun m => absurd (h 61 m) (by decide)⟩
  · rintro ⟨a, b⟩ c hc
    intro e
    rw [Bool.or_eq_true, beq_iff_eq, beq_iff_eq] at e
    rcases e with rfl | rfl
    · exact a hc
    · exact b hc
theorem may_iff {z : Str} {c d : Nat} {r q : List Nat} (h1 : TL.tl z = c :: r) (h2 : TL.tl z = q ++ [d]) : mayB z = true ↔ bads z = [] ∧ c ≠ 32 ∧ d ≠ 32 := by
  have ne : V.str z ≠ V.str (Str.ofString "") := fun e => by
    injection e with e
    rw [e] at h1
    have : TL.tl (Str.ofString "") = [] := by decide +kernel
    rw [this] at h1
    cases h1
  unfold mayB
  rw [decide_eq_false ne, bads_nil, ← strip_iff h1 h2]
  simp only [Bool.not_false, Bool.true_and, Bool.and_eq_true, decide_eq_true_eq, Bool.not_eq_true', decide_eq_false_iff_not]
  constructor
  · rintro ⟨a, b, c'⟩
    injection a with a
    exact ⟨⟨b, c'⟩, a.symm⟩
  · rintro ⟨⟨b, c'⟩, a⟩
    exact ⟨by rw [a], b, c'⟩
theorem may_empty : mayB (Str.ofString "") = false := by decide +kernel
theorem split_len (s : Str) : ∀ p, p ∈ Txt.split s (Str.ofString " <= ") → p.length ≤ s.length := by
  have e : TL.tl (Str.ofString " <= ") = [32, 60, 61, 32] := by decide +kernel
  have h := TL.split_spl s (Str.ofString " <= ") (by rw [e]; simp) (TL.kind_ok (by decide +kernel))
  rw [e] at h
  have key : ∀ (l acc : List Nat) (k : Nat), ∀ p, p ∈ TL.spl [32, 60, 61, 32] k acc l → p.length ≤ acc.length + l.length := by
    intro l
    induction l with
    | nil =>
      intro acc k p hp
      rw [TL.spl_nil] at hp
      rw [List.mem_singleton.mp hp]
      exact Nat.le_add_right _ _
    | cons c r ih =>
      intro acc k p hp
      cases k with
      | succ k =>
        have hp' : p ∈ TL.spl [32, 60, 61, 32] k acc r := hp
        have := ih acc k p hp'
        rw [List.length_cons]
        omega
      | zero =>
        by_cases hc : TL.pre [32, 60, 61, 32] (c :: r) = true
        · rw [TL.spl_hit hc] at hp
          rcases List.mem_cons.mp hp with rfl | hp
          · exact Nat.le_add_right _ _
          · have := ih [] _ p hp
            rw [List.length_cons]
            rw [List.length_nil] at this
            omega
        · rw [TL.spl_miss (by simpa using hc)] at hp
          have := ih _ _ p hp
          rw [List.length_append] at this
          rw [List.length_cons]
          simp at this
          omega
  intro p hp
  have := key (TL.tl s) [] 0 (TL.tl p) (by rw [← h]; exact List.mem_map_of_mem hp)
  rw [← TL.len_tl, ← TL.len_tl] at this
  simpa using this
theorem sides_of {s l r : Str} (h : sidesOf s = some (l, r)) : Txt.split s (Str.ofString " <= ") = [l, r] ∧ mayB l = true ∧ mayB r = true := by
  unfold sidesOf at h
  split at h
  · rename_i l' r' e
    split at h
    · rename_i c
      rw [Bool.and_eq_true] at c
      have h' := Option.some.inj h
      cases h'
      exact ⟨e, c.1, c.2⟩
    · cases h
  · cases h
theorem behind_split {x a l r : Str} (h1 : Txt.startswith x a = true) (h : sidesOf (behind x a) = some (l, r)) : x = a ++ l ++ Str.ofString " <= " ++ r := by
  obtain ⟨e, _⟩ := sides_of h
  have e4 : TL.tl (Str.ofString " <= ") = [32, 60, 61, 32] := by decide +kernel
  have hs := TL.split_spl (behind x a) (Str.ofString " <= ") (by rw [e4]; simp) (TL.kind_ok (by decide +kernel))
  rw [e, e4] at hs
  have key : ∀ (l acc : List Nat) (k : Nat), TL.spl [32, 60, 61, 32] k acc l ≠ [] := by
    intro l
    induction l with
    | nil => intro acc k; rw [TL.spl_nil]; simp
    | cons c r ih =>
      intro acc k
      cases k with
      | succ k => exact ih acc k
      | zero =>
        by_cases hc : TL.pre [32, 60, 61, 32] (c :: r) = true
        · rw [TL.spl_hit hc]; simp
        · rw [TL.spl_miss (by simpa using hc)]; exact ih _ _
  have joins : ∀ (n : Nat) (l acc : List Nat), l.length ≤ n → TL.joinL [32, 60, 61, 32] (TL.spl [32, 60, 61, 32] 0 acc l) = acc ++ l := by
    intro n
    induction n with
    | zero =>
      intro l acc hl
      have : l = [] := List.length_eq_zero_iff.mp (by omega)
      rw [this, TL.spl_nil]
      simp [TL.joinL]
    | succ n ih =>
      intro l acc hl
      cases l with
      | nil => rw [TL.spl_nil]; simp [TL.joinL]
      | cons c r =>
        rw [List.length_cons] at hl
        by_cases hc : TL.pre [32, 60, 61, 32] (c :: r) = true
        · rw [TL.spl_hit hc, TL.spl_pass]
          have hd : c :: r = [32, 60, 61, 32] ++ r.drop 3 := by
            unfold TL.pre at hc
            rw [beq_iff_eq] at hc
            have := List.take_append_drop 4 (c :: r)
            rw [show (c :: r).take 4 = [32, 60, 61, 32] from hc] at this
            exact this.symm
          have i2 := ih (r.drop 3) [] (by rw [List.length_drop]; omega)
          obtain ⟨q, m, eq⟩ := List.exists_cons_of_ne_nil (key (r.drop 3) [] 0)
          show TL.joinL [32, 60, 61, 32] (acc :: TL.spl [32, 60, 61, 32] 0 [] (r.drop 3)) = _
          rw [eq] at i2 ⊢
          show acc ++ ([32, 60, 61, 32] ++ TL.joinL [32, 60, 61, 32] (q :: m)) = _
          rw [i2, hd]
          rfl
        · rw [TL.spl_miss (by simpa using hc), ih r _ (by omega), List.append_assoc]
          rfl
  have j := joins _ (TL.tl (behind x a)) [] (Nat.le_refl _)
  rw [← hs] at j
  have x1 := starts_eq h1
  have b : behind x a = l ++ Str.ofString " <= " ++ r := by
    refine TL.ext_tl ?_
    rw [TL.tl_append, TL.tl_append, e4, List.append_assoc]
    have j' : TL.tl l ++ ([32, 60, 61, 32] ++ TL.tl r) = [] ++ TL.tl (behind x a) := j
    rw [j']
    rfl
  rw [b] at x1
  rw [x1]
  simp only [Str.append_assoc]
structure RdOk (ls : List Str) (f i : Nat) (a : Str) (t : Tr) (stop : Nat) : Prop where
  lt : i < stop
  le : stop ≤ ls.length
  eq : ls.drop i = t.linesA a ++ ls.drop stop
  dp : t.depth < f
  bd : (∀ s, s ∈ ls → s.length ≤ 100000) → t.Bd
theorem drop_get {α : Type} {ls : List α} {i : Nat} {x : α} (h : ls[i]? = some x) : ls.drop i = x :: ls.drop (i + 1) := by
  obtain ⟨hl, e⟩ := List.getElem?_eq_some_iff.mp h
  rw [List.drop_eq_getElem_cons hl, e]
theorem rd_ok {ls : List Str} : ∀ (f i : Nat) (a : Str) (t : Tr) (stop : Nat), rd ls f i a = .ok t stop → RdOk ls f i a t stop
  | 0, i, a, t, stop, h => by cases h
  | f + 1, i, a, t, stop, h => by
    unfold rd at h
    split at h
    · cases h
    · rename_i x hx
      have hi := (List.getElem?_eq_some_iff.mp hx).1
      have hm := List.mem_of_getElem? hx
      split at h
      · rename_i hs
        split at h
        · rename_i hb
          cases h
          refine ⟨Nat.lt_succ_self _, hi, ?_, Nat.zero_lt_succ _, fun _ => True.intro⟩
          rw [drop_get hx, (leaf_iff x a).mpr ⟨hs, hb⟩]
          rfl
        · split at h
          · cases h
          · rename_i l r hlr
            have hx' := behind_split hs hlr
            obtain ⟨hsp, _, _⟩ := sides_of hlr
            split at h
            · cases h
            · rename_i one stop1 h1
              have r1 := rd_ok f (i + 1) _ one stop1 h1
              split at h
              · rename_i he
                have he1 := (List.getElem?_eq_some_iff.mp he).1
                split at h
                · cases h
                · rename_i other stop2 h2
                  have r2 := rd_ok f (stop1 + 1) _ other stop2 h2
                  cases h
                  refine ⟨by have := r1.lt; have := r2.lt; omega, r2.le, ?_, ?_, fun hB => ?_⟩
                  · rw [Tr.linesA_node, drop_get hx, r1.eq, drop_get he, r2.eq, hx']
                    simp only [List.singleton_append, List.cons_append, List.append_assoc, List.nil_append]
                  · show max one.depth other.depth + 1 < f + 1
                    have := r1.dp
                    have := r2.dp
                    omega
                  · have hbl := behind_len x a
                    have hxl := hB x hm
                    have s1 := split_len (behind x a) l (by rw [hsp]; simp)
                    have s2 := split_len (behind x a) r (by rw [hsp]; simp)
                    exact ⟨by omega, by omega, r1.bd hB, r2.bd hB⟩
              · cases h
      · cases h
end LK

/-! error objects of own classes as plain values: made, kept, read, asked for their class -/
namespace LR
open PySem PySem.Spec PyProof.Rows L2
/-- Err(e, ..), by the __init__ that keeps sp; the object stays a value -/
def tErrV (C : Addr) (sp : Sp) (ta : TA) : TE := fun σ H Q => ta σ H fun vs H1 => vs.length ≤ 1000 ∧ ∀ a, H1 a = none → sp (.ref a :: vs) (upd H1 a (exo a C none)) (fun _ H2 => Q (.ref a) H2) E0
/-- Err(), where nothing keeps arguments -/
def tErr0 (C : Addr) : TE := fun _ H Q => ∀ a, H a = none → Q (.ref a) (upd H a (exo a C none))
/-- (..).n of such an object -/
def tErrF (K : PySem.W.Frag) (n : Str) (te : TE) : TE := fun σ H Q => te σ H fun x H1 => ∃ (a C dx : Addr) (fs : List (Str × V)) (v : V), x = .ref a ∧ XfC K C ∧ PySem.W.findIn K (.ref C) n = some none ∧
  H1 a = some (exo a C (some dx)) ∧ H1 dx = some (exd dx fs) ∧ fs.lookup n = some v ∧ Q v H1
/-- isinstance of such an object -/
def rIsErr (K : PySem.W.Frag) : List V → Hp → VK → Prop := fun xs H Q => ∃ (a D : Addr) (d : Option Addr) (c : V) (cv : Value) (b : Bool), xs = [.ref a, c] ∧ H a = some (exo a D d) ∧ (∀ dx, d = some dx → ∃ fs, H dx = some (exd dx fs)) ∧ ExcC K D ∧ ClsV c cv ∧
  PySem.W.kitOne K (.ref D) cv = some b ∧ Q (.bl b) H
section
variable {X : Cx} {pins : List (Addr × Obj)} {σ : L2.St} {H : Hp} {s : Shared}
/-- where it stands -/
theorem err_inst {a D : Addr} {d : Option Addr} (I : Inv X pins σ H s) (ha : H a = some (exo a D d)) (hd : ∀ dx, d = some dx → ∃ fs, H dx = some (exd dx fs)) : ∃ (ox : Obj) (od : Option Obj), PySem.W.InstAt s.heap a ox D od ∧
    ∀ dx fs n v, d = some dx → H dx = some (exd dx fs) → fs.lookup n = some v → ∃ o u, od = some o ∧ PySem.W.lookIn n o = some (some u) ∧ RelV v u := by
  obtain ⟨t1, ho⟩ := exo_at I.hok ha
  cases d with
  | none => exact ⟨_, none, ⟨ho, rfl, rfl, trivial⟩, fun dx fs n v e => nomatch e⟩
  | some dx =>
    obtain ⟨fs0, h0⟩ := hd dx rfl
    obtain ⟨m0, hn0, _⟩ := exd_at I.hok h0
    obtain ⟨od, hod, look⟩ := lookIn_ns hn0
    refine ⟨_, some od, ⟨ho, rfl, rfl, hod⟩, fun dx' fs n v e hx hl => ?_⟩
    obtain rfl : dx = dx' := Option.some.inj e
    obtain ⟨m1, hn1, rel⟩ := exd_at I.hok hx
    obtain ⟨od1, hod1, look1⟩ := lookIn_ns hn1
    rw [hod] at hod1
    obtain rfl : od = od1 := Option.some.inj hod1
    obtain ⟨u, hu, ru⟩ := RelO.some_of (v := v) (o := m1 n) (by rw [← hl]; exact rel n)
    exact ⟨od, u, rfl, by rw [look1, hu], ru⟩
theorem pe_errF {e : Expr} {te : TE} {n : Str} {pos : Pos} (he : PE X e te) (hb : attributeBase e n X.env (eval e X.env) = eval e X.env := by rfl) : PE X (.Attribute e n pos) (tErrF X.K n te) := by
  refine ⟨fun pins s σ H Q I h => attr_of hb (thn (he.run pins s σ H _ I h) fun u s1 hh => ?_)⟩
  obtain ⟨x, H1, I1, rx, a, C, dx, fs, v, ex, T, hno, ha, hx, hl, q⟩ := hh
  subst ex
  obtain rfl : u = Value.ref a := rx
  obtain ⟨ox, od, J, field⟩ := err_inst I1 ha fun dx' e => ⟨fs, by rw [← Option.some.inj e]; exact hx⟩
  obtain ⟨o, u, rfl, hlk, ru⟩ := field dx fs n v rfl hx hl
  exact HandSPX.exc_get I1.kIn J T.ga T.gg T.exC (PySem.W.findObj_own T.hdC hno rfl hlk) (handed_of ru) ⟨v, H1, I1.tok _, ru, q⟩
theorem call_isErr : CallR X (.builtin "isinstance") (rIsErr X.K) := by
  intro pins s σ H xs us Q I r h
  obtain ⟨a, D, d, c, cv, b, rfl, ha, hd, T, k, e, q⟩ := h
  obtain ⟨u1, u2, rfl, r1, r2⟩ := vals2 r
  obtain rfl := k.eq r2
  obtain rfl : u1 = Value.ref a := r1
  obtain ⟨ox, od, J, _⟩ := err_inst I ha hd
  refine PySem.W.kia_one (PySem.W.kitx_exc ?_ T.hg T.hk T.hs T.ha T.hn T.ht T.hm) I.kIn J e (fun z => nomatch z) fun tk => ⟨.bl b, H, I.tok tk, rfl, q⟩
  obtain ⟨cd, hc, _⟩ := PySem.W.any_some T.hd
  rw [hc]
  rfl
end
section
variable {X : Cx} {e : Expr} {es : List Expr} {ta : TA} {p pos : Pos}
/-- the exception's plain form is the tracked one -/
theorem exo_new {P : Program} {w : World} {H : Hp} {h : Heap} {a t C : Addr} (he : h.get? a = some ({ cls := .ref C, dict := none, data := .fields #[.ref t, .none, .none, .none, .bool false, .none] } : Obj)) : ObjOk P w H h a (exo a C none) := exo_ok he
theorem pe_errV {CX : CXT} {x : Str} {C fI : Addr} {k : Nat} {fd : FuncData} {ps : List Str} {sp : Sp} (T : OexC X.K C) (iC : PySem.W.findIn X.K (.ref C) "__init__" = some (some (.ref fI))) (tI : PySem.W.typeIn X.K (.ref fI) = some (.type "function"))
    (F1 : FnOk X.prog X.w X.K X.mg X.base CX k fI fd ps sp) (ret : ∀ vs H Q, sp vs H Q E0 → sp vs H (fun v H' => v = .non ∧ Q v H') E0) (hr : Room (k + 1) X.A) (hb : Binds X.K fd ps []) (hx : Passes CX X E0) (hg : Gl X x) (hm : X.mg x = some (.ref C)) (ha : PA X (e :: es) ta)
    (hdb : (x == ("__debug__" : Str)) = false := by decide) (he : starEach (e :: es) X.env = (false, eval e X.env) :: starEach es X.env := by rfl) (hpl : (backTo pos (starEach es X.env)).any (·.1) = false := by rfl) :
    PE X (.Call (.Name x p) (e :: es) [] pos) (tErrV C sp ta) := by
  refine ⟨fun pins s σ H Q I h => ?_⟩
  obtain ⟨nm, q, N, bs, bm, sn, sub, ab, col, dd, k0, k1, k2, k3, k5, hC, hbm⟩ := T.cls
  refine wpAny_Call_Name_kw (ld_glob I hg hm ?_ hdb)
  refine PySem.W.callWith_K (h₀ := X.base) I.ok.mod.kin T.kC (thn (ha.run pos pins s σ H _ I h) fun us s1 ⟨vs, H1, I1, r1, hz, q1⟩ => ⟨I1.kIn, ?_⟩) he hpl
  obtain ⟨hp, g, dr, tk, os⟩ := s1
  have new := q1 (hp.objs.size + 1) (I1.hok.fresh (Nat.le_succ _))
  have run := ret _ _ _ new
  have J := I1.laid (t' := tk) (h' := (hp.push (PySem.W.kdv_tup us)).push (PySem.HandSPX.excO C hp.objs.size)) (fun b o z => Heap.get?_push_of_some _ (Heap.get?_push_of_some _ z)) (Nat.le_succ hp.objs.size) (exo_ok (C := C) (d := none) (t1 := hp.objs.size) (by heap_get))
  have rels : Vals (V.ref (hp.objs.size + 1) :: vs) (Value.ref (hp.objs.size + 1) :: us) := .cons rfl r1
  have many : (Value.ref (hp.objs.size + 1) :: us).length = ps.length := by rw [← rels.length, F1.len _ _ _ _ new]
  have few : us.length ≤ sizeLine := by rw [← Paired.length r1, sizeLine_eq]; omega
  have bound := hb _ (Value.ref (hp.objs.size + 1) :: us) J.kIn (by simpa using many)
  rw [List.append_nil] at bound
  refine wpAny_call (PySem.HandSPX.call_own F.excBase_ValueError (fun Y => PySem.HandSPX.refsVE_contains Y bm hbm) (I1.kIn _ _ hC) (PySem.W.looks_findIn I1.kIn iC) (fun self => PySem.W.bind_fn I1.kIn self tI) few
    (codeAny_mono (F1.run _ X.stack _ _ _ _ _ _ E0 (hr.make C us []) (J.env0.make C us []) bound rels run) fun r s' out => ?_))
  cases r with
  | error er => exact hx pins σ _ _ er s' J out
  | ok fl =>
    cases fl with
    | ret u =>
      have out' := out
      obtain ⟨v, H2, _, _, _, _, rv, ev, _⟩ := out'
      subst ev
      obtain ⟨v', H3, J3, r3, e3, q3⟩ := J.after out
      exact ⟨rv, ⟨.ref (hp.objs.size + 1), H3, J3, rfl, q3⟩⟩
    | next => exact False.elim out
    | brk => exact False.elim out
    | cont => exact False.elim out
/-- Err(), by ValueError's own __init__ -/
theorem pe_err0 {x : Str} {C : Addr} (T : OexC X.K C) (iC : PySem.W.findIn X.K (.ref C) "__init__" = some (some (.builtin "ValueError.__init__"))) (hg : Gl X x) (hm : X.mg x = some (.ref C)) (hdb : (x == ("__debug__" : Str)) = false := by decide) :
    PE X (.Call (.Name x p) [] [] pos) (tErr0 C) := by
  refine ⟨fun pins s σ H Q I h => ?_⟩
  obtain ⟨nm, q, N, bs, bm, sn, sub, ab, col, dd, k0, k1, k2, k3, k5, hC, hbm⟩ := T.cls
  refine wpAny_Call_Name_kw (ld_glob I hg hm ?_ hdb)
  obtain ⟨hp, g, dr, tk, os⟩ := s
  refine PySem.W.callWith_K0 I.kIn T.kC ?_
  refine PySem.W.call_B F.excBase_ValueError (fun Y => PySem.HandSPX.refsVE_contains Y bm hbm) (I.kIn _ _ hC) (PySem.W.looks_findIn I.kIn iC) (Nat.zero_le _) fun h' keep at1 at2 => ?_
  exact ⟨.ref (hp.objs.size + 1), _, I.laid (t' := tk) keep (Nat.le_succ _) (exo_ok at1), rfl, h _ (I.hok.fresh (Nat.le_succ _))⟩
end
end LR

/-! a comprehension over an enumerated list while an exception is handled -/
namespace LR
open PySem PySem.Spec PyProof.Rows L2 HotX
section
variable {prog : Program} {w : World} {A : Around} {E : Value → Shared → Prop} {s : Shared} {it l x1 : Addr} {i : Nat} {items : Array Value}
/-- a list's iterator that is at its end, asked by enumerate -/
theorem listEnd_hot {Q : Value → Shared → Prop} (hot : HotAt A x1 s.heap) (ne : x1 ≠ it) (hit : s.heap.IsListIter it l i) (hl : s.heap.IsList l items) (hx : items[i]? = none)
    (stop : ∀ h' e, Heap.ExtBut it s.heap h' → (∃ o, h'.get? e = some o ∧ o.cls = .type "StopIteration") → E (.ref e) { s with heap := h' }) : wpAny (model prog w) A (Builtin.SmallTypes.nextOf (.ref it)) Q E s := by
  obtain ⟨oi, get_i, _, data_i⟩ := id hit
  obtain ⟨os, get_l, _, k, data_l⟩ := hl
  obtain ⟨hh, o1, f1, get_1, data_1, none_1⟩ := hot
  unfold Builtin.SmallTypes.nextOf
  refine wpAny_bind (wpAny_callSpecial?_slot (name := Str.ofString "__next__") hit.typeIs slot_listiter_next (wpAny_call_entry slot_listiter_next hit.typeIs entry_listiter_next ?_ (args_listiter_next _)))
  change wpAny _ _ (field (.ref it) 0 >>= _) _ _ _
  apply wpAny_bind
  apply wpAny_field get_i data_i (x := .ref l) rfl
  change wpAny _ _ (if (Value.ref l == Value.none) = true then _ else _) _ _ _
  have ll : ¬ ((Value.ref l == Value.none) = true) := Bool.false_ne_true
  rw [if_neg ll]
  change wpAny _ _ (field (.ref it) 1 >>= _) _ _ _
  apply wpAny_bind
  apply wpAny_field get_i data_i (x := .int i 0) rfl
  change wpAny _ _ (seqItems? (.ref l) >>= _) _ _ _
  apply wpAny_bind
  apply wpAny_seqItems get_l data_l
  simp only [Int.toNat_natCast, hx]
  refine wpAny_bind (wpAny_rule (wpAny_bind (wpAny_setField get_i data_i (by simp) ?_)))
  change wpAny _ _ (newExc (.type "StopIteration") [] >>= _) _ _ _
  apply wpAny_bind
  simp only [newExc, newTuple]
  apply wpAny_bind
  refine wpAny_newObj_type ?_ (by size_fits)
  refine wpAny_bind (m := firstArgMember _ _) (wpAny_of_eq (a := Value.none) (by simp only [firstArgMember]; rfl) ?_)
  refine wpAny_newObj_type ?_ (by size_fits)
  have old : ∀ {h : Heap} {u v : Obj}, h.get? x1 = some o1 → ((h.push u).push v).get? x1 = some o1 := fun q => Heap.get?_push_of_some _ (Heap.get?_push_of_some _ q)
  refine raiseNew_hot ⟨hh, o1, f1, old ((Heap.get?_update_other _ _ (Ne.symm ne)).trans get_1), data_1, none_1⟩ ?_ (Heap.get?_push_size _ rfl) rfl (by simp; omega) ?_
  · exact Nat.ne_of_lt (Heap.lt_size (Heap.get?_push_of_some _ ((Heap.get?_update_other _ _ (Ne.symm ne)).trans get_1)))
  · refine stop _ _ ?_ ⟨_, Heap.get?_update_self _ (Heap.get?_push_size _ rfl) rfl, rfl⟩
    intro b o nb e
    have e1 := (Heap.get?_update_other s.heap (Obj.mapFields (·.setIfInBounds 0 .none)) (Ne.symm nb)).trans e
    exact (Heap.get?_update_other _ _ (Nat.ne_of_gt (Heap.lt_size (Heap.get?_push_of_some _ e1)))).trans (Heap.get?_push_of_some _ (Heap.get?_push_of_some _ e1))
/-- enumerate at its end -/
theorem enumEnd_hot {e : Addr} {old : Value} {Q : Option Value → Shared → Prop} (hot : HotAt A x1 s.heap) (ne : x1 ≠ it) (he : IsEnum s.heap e it i old) (hit : s.heap.IsListIter it l i) (hl : s.heap.IsList l items) (hx : items[i]? = none)
    (hQ : ∀ h', Heap.ExtBut it s.heap h' → Q none { s with heap := h' }) : wpAny (model prog w) A (pyNext (.ref e)) Q E s := by
  have ty : s.TypeIs (.ref e) "enumerate" := ⟨_, he, rfl⟩
  unfold pyNext
  apply wpAny_bind
  apply wpAny_attempt
  refine wpAny_callSpecial?_slot (name := Str.ofString "__next__") ty F.slot_enumerate_next (wpAny_call_entry F.slot_enumerate_next ty F.entry_enumerate_next ?_ (F.args_enumerate_next_1 _))
  change wpAny _ _ (field (.ref e) 2 >>= _) _ _ _
  apply wpAny_bind
  apply wpAny_field he rfl (x := .ref it) rfl
  apply wpAny_bind
  refine listEnd_hot hot ne hit hl hx fun h' x ext end_ => ?_
  obtain ⟨o, at_o, cls_o⟩ := end_
  apply wpAny_bind
  exact wpAny_isInstance (T := "StopIteration") (b := true) ⟨o, at_o, cls_o⟩ isSubtype_stop (wpAny_pure (hQ _ ext))
/-- a tuple's iterator at its end -/
theorem tupEnd_hot {t : Addr} {Q : Option Value → Shared → Prop} (hot : HotAt A x1 s.heap) (ne : x1 ≠ it) (hit : IsTupIter s.heap it t i) (ht : IsTup s.heap t items) (hx : items[i]? = none)
    (stop : ∀ h', Heap.ExtBut it s.heap h' → Q none { s with heap := h' }) : wpAny (model prog w) A (pyNext (.ref it)) Q E s := by
  obtain ⟨oi, get_i, _, data_i⟩ := id hit
  obtain ⟨os, get_l, _, k, data_l⟩ := ht
  obtain ⟨hh, o1, f1, get_1, data_1, none_1⟩ := hot
  unfold pyNext
  apply wpAny_bind
  apply wpAny_attempt
  refine wpAny_callSpecial?_slot (name := Str.ofString "__next__") hit.typeIs slot_tupleiter_next (wpAny_call_entry slot_tupleiter_next hit.typeIs entry_tupleiter_next ?_ (args_tupleiter_next _))
  change wpAny _ _ (field (.ref it) 0 >>= _) _ _ _
  apply wpAny_bind
  apply wpAny_field get_i data_i (x := .ref t) rfl
  change wpAny _ _ (if (Value.ref t == Value.none) = true then _ else _) _ _ _
  have ll : ¬ ((Value.ref t == Value.none) = true) := Bool.false_ne_true
  rw [if_neg ll]
  change wpAny _ _ (field (.ref it) 1 >>= _) _ _ _
  apply wpAny_bind
  apply wpAny_field get_i data_i (x := .int i 0) rfl
  change wpAny _ _ (seqItems? (.ref t) >>= _) _ _ _
  apply wpAny_bind
  apply wpAny_seqItems get_l data_l
  simp only [Int.toNat_natCast, hx]
  refine wpAny_bind (wpAny_rule (wpAny_bind (wpAny_setField get_i data_i (by simp) ?_)))
  change wpAny _ _ (newExc (.type "StopIteration") [] >>= _) _ _ _
  apply wpAny_bind
  simp only [newExc, newTuple]
  apply wpAny_bind
  refine wpAny_newObj_type ?_ (by size_fits)
  refine wpAny_bind (m := firstArgMember _ _) (wpAny_of_eq (a := Value.none) (by simp only [firstArgMember]; rfl) ?_)
  refine wpAny_newObj_type ?_ (by size_fits)
  have old : ∀ {h : Heap} {u v : Obj}, h.get? x1 = some o1 → ((h.push u).push v).get? x1 = some o1 := fun q => Heap.get?_push_of_some _ (Heap.get?_push_of_some _ q)
  refine raiseNew_hot ⟨hh, o1, f1, old ((Heap.get?_update_other _ _ (Ne.symm ne)).trans get_1), data_1, none_1⟩ ?_ (Heap.get?_push_size _ rfl) rfl (by simp; omega) ?_
  · exact Nat.ne_of_lt (Heap.lt_size (Heap.get?_push_of_some _ ((Heap.get?_update_other _ _ (Ne.symm ne)).trans get_1)))
  · apply wpAny_bind
    refine wpAny_isInstance (T := "StopIteration") (b := true) ⟨_, Heap.get?_update_self _ (Heap.get?_push_size _ rfl) rfl, rfl⟩ isSubtype_stop (wpAny_pure (stop _ ?_))
    intro b o nb e
    have e1 := (Heap.get?_update_other s.heap (Obj.mapFields (·.setIfInBounds 0 .none)) (Ne.symm nb)).trans e
    exact (Heap.get?_update_other _ _ (Nat.ne_of_gt (Heap.lt_size (Heap.get?_push_of_some _ e1)))).trans (Heap.get?_push_of_some _ (Heap.get?_push_of_some _ e1))
/-- a tuple taken apart -/
theorem unpack_hot {t : Addr} {Q : List Value → Shared → Prop} (hot : HotAt A x1 s.heap) (ht : IsTup s.heap t items) (hQ : ∀ h', Heap.ExtBut s.heap.objs.size s.heap h' → Q items.toList { s with heap := h' }) : wpAny (model prog w) A (unpackItems (.ref t) items.size none) Q E s := by
  have tlt : t ≠ s.heap.objs.size := by
    obtain ⟨o, z, _⟩ := ht
    exact Nat.ne_of_lt (Heap.lt_size z)
  obtain ⟨hh, o1, f1, get_1, data_1, none_1⟩ := hot
  have xlt : x1 ≠ s.heap.objs.size := Nat.ne_of_lt (Heap.lt_size get_1)
  unfold unpackItems notIterableAtAll
  refine wpAny_bind (wpAny_bind (wpAny_specialOf ht.typeIs slot_tuple_iter.lookup (wpAny_pure ?_)))
  simp only [Bool.false_eq_true, if_false]
  refine wpAny_bind (wpAny_holding (iter_tuple ht (wpAny_bind (wpAny_holding (draw_tuple tlt items.size 0 _ _ ⟨_, Heap.get?_push_size _ rfl, rfl, rfl⟩ (ht.push _) (by omega) fun h1 it1 same1 => ?_)))))
  rw [show List.take items.size (List.drop 0 items.toList) = items.toList by rw [List.drop_zero]; exact List.take_of_length_le (by simp), if_neg (by simp)]
  have here : h1.get? x1 = some o1 := same1.extBut x1 o1 xlt (Heap.get?_push_of_some _ get_1)
  refine wpAny_bind (wpAny_holding (tupEnd_hot ⟨hh, o1, f1, here, data_1, none_1⟩ xlt it1 ((ht.push _).extBut same1.extBut tlt) (by simp) fun h2 ext2 => ?_))
  simp only [Option.isSome_none, Bool.false_eq_true, if_false]
  exact wpAny_pure (hQ h2 fun b o nb e => ext2 b o nb (same1.extBut b o nb (Heap.get?_push_of_some _ e)))
end
end LR
namespace LR
open PySem PySem.Spec PyProof.Rows L2 HotX
/-- an enumerate object over the list at a, with i behind it -/
structure EnumAt (a en it : Addr) (i : Nat) (h : Heap) : Prop where
  enum : ∃ old, IsEnum h en it ((i : Nat) : Int) old
  iter : h.IsListIter it a i
  ne : en ≠ it
theorem EnumAt.keep {a en it : Addr} {i : Nat} {h h' : Heap} (t : EnumAt a en it i h) (k : ∀ b, b ∈ [en, it] → ∀ o, h.get? b = some o → h'.get? b = some o) : EnumAt a en it i h' := by
  obtain ⟨old, e⟩ := t.enum
  exact ⟨⟨old, k en (by simp) _ e⟩, t.iter.at fun o q => k it (by simp) o q, t.ne⟩
theorem EnumAt.obj {a en it : Addr} {i : Nat} {h : Heap} (t : EnumAt a en it i h) : ∀ b, b ∈ [en, it] → ∃ o, h.get? b = some o ∧ ∀ v, o.data ≠ .cell v := fun b hb => by
  rcases List.mem_cons.mp hb with z | z
  · obtain ⟨old, e⟩ := t.enum
    subst z
    refine ⟨_, e, fun v q => ?_⟩
    cases q
  · obtain ⟨o, q1, _, q3⟩ := t.iter
    exact ⟨o, by rw [List.mem_singleton.mp z]; exact q1, fun v q => by rw [q3] at q; cases q⟩
/-- what `enumerate(e)` has left, ready to be walked -/
def Begun (X : Cx) (pins : List (Addr × Obj)) (σ : L2.St) (R : It → Hp → Prop) (itv : Value) (s : Shared) : Prop :=
  ∃ en it a xs H, itv = .ref en ∧ Inv X pins σ H s ∧ EnumAt a en it 0 s.heap ∧ (∀ b, b ∈ [en, it] → FpOk X pins H b) ∧ SqL X.K H a xs ∧ R (Ite X.K a) H
theorem enum_begun {X : Cx} {e : Expr} {ta : TA} {p pos : Pos} {pins : List (Addr × Obj)} {s : Shared} {σ : L2.St} {H : Hp} {R : It → Hp → Prop} (hg : Gl X "enumerate") (hm : X.mg "enumerate" = none) (ha : PA X [e] ta) (I : Inv X pins σ H s) (h : iEnum X.K ta σ H R)
    (hs : starEach [e] X.env = [(false, eval e X.env)] := by rfl) : wpAny (model X.prog X.w) X.A (eval (.Call (.Name "enumerate" p) [e] [] pos) X.env) (fun v s1 => wpAny (model X.prog X.w) X.A (pyIter v) (Begun X pins σ R) X.xe s1) X.xe s := by
  refine Call_ (ld_blt I hg hm boot_enumerate (PyProof.Rows.callWith_type1 (thn (ha.run pos pins s σ H _ I h) fun us s1 got => ?_) hs rfl))
  obtain ⟨vs, H1, I1, r1, a, xs, rfl, sq, q⟩ := got
  obtain rfl := Vals.ref1 r1
  obtain ⟨its, _, pl, _⟩ := I1.list sq
  refine call_enumerate_list pl.isList fun h' en it _ old => wpAny_pyIter_enum en ?_
  have I2 : Inv X pins σ H1 { s1 with heap := h' } := I1.kept (t' := s1.toks) old
  refine ⟨s1.heap.objs.size + 1, s1.heap.objs.size, a, xs, H1, rfl, I2, ⟨⟨.none, en⟩, it, Nat.succ_ne_self _⟩, fun b hb => ?_, sq, q⟩
  have big : s1.heap.objs.size ≤ b := by
    rcases List.mem_cons.mp hb with z | z
    · rw [z]
      exact Nat.le_succ _
    · rw [List.mem_singleton.mp z]
      exact Nat.le_refl _
  exact I1.fpOk big (I1.hok.fresh big)
/-- the context began with a handled exception that it can't reach -/
def HotB (B : Cx) : Prop := ∃ r : Addr × Obj, L2H.Hot1 B.A r ∧ B.s_0.heap.get? r.1 = some r.2 ∧ B.H_0 r.1 = none ∧ r.1 ∉ B.fs ∧ r.1 ∉ B.ex
theorem HotB.at {B : Cx} {pins : List (Addr × Obj)} {σ : L2.St} {H : Hp} {s : Shared} (c : HotB B) (J : Inv B pins σ H s) : ∃ x1, HotAt B.A x1 s.heap ∧ ∀ b, b ∈ B.ex → x1 ≠ b := by
  obtain ⟨r, ⟨hh, v1, e1, c1⟩, get, free, nf, nx⟩ := c
  exact ⟨r.1, ⟨hh, r.2, v1, J.base.keep r.1 r.2 get free nf nx, e1, c1⟩, fun b hb z => nx (by rw [z]; exact hb)⟩
/-- so does a block of a context that bears one -/
theorem hotB_blk {X : Cx} {pins : List (Addr × Obj)} {σ : L2.St} {H : Hp} {s : Shared} {scope : Scope} {ce : Env} {fp : List Addr} (c : L2H.HotC X) (I : Inv X pins σ H s) (off : ∀ b, b ∈ fp → FpOk X pins H b) : HotB (X.blk s H scope ce fp) := by
  obtain ⟨r, hot, hr⟩ := c
  obtain ⟨get, free, nl, nf, _⟩ := I.pin r (List.mem_append_left _ hr)
  refine ⟨r, hot, get, free, fun m => ?_, fun m => (off _ m).2.2.2.2.2 r (List.mem_append_left _ hr) rfl⟩
  exact (List.mem_cons.mp (I.stkSub r.1 m)).elim nl nf
/-- a, b = t where an exception is handled -/
theorem pg_tupH {B : Cx} {es : List Expr} {k n : Nat} {t : TGs} {pos : Pos} (c : HotB B) (h : PGs B es t) (many : (assignEach es B.env).length = n := by rfl) (plain : (assignEach es B.env).findIdx? (·.1) = none := by rfl) : PG B (.Tuple es k pos) (gTup B.K n t) := by
  refine ⟨fun pins s σ H v u Q I r asked => ?_⟩
  obtain ⟨a, xs, rfl, sq, len, asked⟩ := asked
  obtain rfl : u = Value.ref a := r
  obtain ⟨its, rv, ht, _⟩ := I.tuple sq
  obtain ⟨x1, hot, _⟩ := c.at I
  have size : (assignEach es B.env).length = its.toArray.size := by rw [many, ← len, rv.length, List.size_toArray]
  rw [assign_Tuple]
  refine wpAny_bind (wpAny_standAt ?_)
  unfold unpack
  rw [size, plain]
  refine wpAny_bind (wpAny_holding (unpack_hot hot ht fun h' ext => ?_))
  have J : Inv B pins σ H { s with heap := h' } := I.kept (t' := s.toks) fun b o z => ext b o (Nat.ne_of_lt (Heap.lt_size z)) z
  exact h.run pins _ σ H xs _ Q J (by simpa using rv) asked
end LR
namespace LR
open PySem PySem.Spec PyProof.Rows L2 HotX
section
variable {X : Cx} {elt e : Expr} {elts ifs : List Expr} {kk : Nat} {scope : Scope} {own : List (Str × Nat)} {pos p ipos tpos : Pos} {ta : TA} {g : TG} {tt : TT} {te : TE}
/-- one turn's item: a new pair, in the block B -/
theorem enum_item {B : Cx} {σ : L2.St} {H : Hp} {s : Shared} {a en it : Addr} {i : Nat} {xs : List V} {x : V} {E : Value → Shared → Prop} {Q : Option Value → Shared → Prop} (I : Inv B [] σ H s) (t : EnumAt a en it i s.heap) (off : ∀ b, b ∈ [en, it] → FpOk B [] H b)
    (sq : SqL B.K H a xs) (hx : xs[i]? = some x)
    (q : ∀ u s1, (∀ E' Q', (∀ T s2, H T = none → Inv B [] σ (upd H T (.tup [.int (i : Nat), x])) s2 → u = .ref T → EnumAt a en it (i + 1) s2.heap → T ≠ en → T ≠ it → Q' () s2) → wpAny (model B.prog B.w) B.A (letOwnedTupleGo (.Tuple elts kk tpos) (.ref en) u) Q' E' s1) → Q (some u) s1) :
    wpAny (model B.prog B.w) B.A (pyNext (.ref en)) Q E s := by
  obtain ⟨old, he⟩ := t.enum
  obtain ⟨its, rv, pl, _⟩ := I.list sq
  obtain ⟨u, hu, ru⟩ := rv.get hx
  have le : en < s.heap.objs.size := Heap.lt_size he
  have li : it < s.heap.objs.size := by
    obtain ⟨_, z, _⟩ := t.iter
    exact Heap.lt_size z
  refine wpAny_pyNext_enum_item he t.iter pl.isList (x := u) (by simpa using hu) t.ne fun h1 ho hi hT _ old1 => q _ _ fun E' Q' k => ?_
  refine wpAny_letOwnedTupleGo_enum (s := { s with heap := h1, toks := s.toks + 1 }) ho fun h2 en2 but => ?_
  have pair : h2.get? s.heap.objs.size = some { cls := .type "tuple", data := .seq #[.int i s.toks, u] } := (but.2 _ (Nat.ne_of_gt le)).trans hT
  have fresh : H s.heap.objs.size = none := I.hok.fresh (Nat.le_refl _)
  have stay : ∀ b o, b ∉ [en, it] → s.heap.get? b = some o → h2.get? b = some o := fun b o nb z => by
    have n1 : b ≠ en := fun y => nb (by simp [y])
    have n2 : b ≠ it := fun y => nb (by simp [y])
    exact (but.2 b n1).trans (old1 b o n1 n2 z)
  have laid : ObjOk B.prog B.w (upd H s.heap.objs.size (.tup [.int (i : Nat), x])) h2 s.heap.objs.size (.tup [.int (i : Nat), x]) := ⟨by show 2 ≤ sizeLine; decide, [.int i s.toks, u], .cons ⟨_, rfl⟩ (.cons ru .nil), ⟨_, pair, rfl, _, rfl⟩⟩
  have J := I.turnedNew (ch := [en, it]) (t' := s.toks + 1) stay off (Nat.le_refl _) laid
  refine k s.heap.objs.size _ fresh J rfl ⟨⟨u, ?_⟩, hi.at fun o z => (but.2 it t.ne.symm).trans z, t.ne⟩ (Nat.ne_of_gt le) (Nat.ne_of_gt li)
  rw [show ((i + 1 : Nat) : Int) = (i : Int) + 1 by omega]
  exact en2
end
end LR
namespace LR
open PySem PySem.Spec PyProof.Rows L2 HotX
section
variable {X : Cx} {elt e : Expr} {elts ifs : List Expr} {kk : Nat} {scope : Scope} {own : List (Str × Nat)} {pos p ipos tpos : Pos} {ta : TA} {g : TG} {tt : TT} {te : TE}
/-- [elt for a, b in enumerate(e) if ..] where an exception is handled -/
theorem pe_lcEH (hot : L2H.HotC X) (nd : X.N.Nodup) (hg : Gl X "enumerate") (hm : X.mg "enumerate" = none) (ha : PA X [e] ta) (ok : BlkOk X.N X.env.scope scope own)
    (pg : ∀ (s : Shared) (H : Hp) (C : Addr) (cl : List (Str × Addr)) (fp : List Addr), HotB (X.blk s H scope (compEnvC scope cl C X.env) fp) → PG (X.blk s H scope (compEnvC scope cl C X.env) fp) (.Tuple elts kk tpos) g)
    (pt : ∀ (s : Shared) (H : Hp) (C : Addr) (cl : List (Str × Addr)) (fp : List Addr), PTs (X.blk s H scope (compEnvC scope cl C X.env) fp) ifs tt)
    (pe : ∀ (s : Shared) (H : Hp) (C : Addr) (cl : List (Str × Addr)) (fp : List Addr), PE (X.blk s H scope (compEnvC scope cl C X.env) fp) elt te)
    (st : starEach [e] X.env = [(false, eval e X.env)] := by rfl) (fold : ∀ x, foldedSetIterable (.Call (.Name "enumerate" p) [e] [] ipos) X.env x = pure x := by intro _; rfl) :
    PE X (.ListComp elt [⟨.Tuple elts kk tpos, .Call (.Name "enumerate" p) [e] [] ipos, ifs, 0⟩] scope pos) (tLc (iEnum X.K ta) g tt te (own.map (·.2))) := by
  refine ⟨fun pins s σ H Q I h => ?_⟩
  rw [eval_ListComp]
  have cells : ∀ y ∈ scope.names, y.2 = .free → ∃ c, X.env.cells.lookup y.1 = some c := fun y hy z => (ok.free y hy z).elim (fun k => I.ok.has _ (.inl k)) fun k => I.ok.has _ (.inr k)
  refine wpAny_comprehension_free (use := none) rfl fold (closure_ok cells) ok.kind (fun y hy z => by rw [ok.uniq y hy, z]) (thn (enum_begun hg hm ha I h st) fun v1 s1 b1 => thn b1 fun v2 s2 b2 => ?_)
  obtain ⟨en, it, a, xs0, H2, rfl, I2, at0, off, _, q⟩ := b2
  refine wpAny_newObj_type (newEnv_comp ?_) (by show 0 ≤ sizeLine; decide)
  have freshD : H2 s2.heap.objs.size = none := I2.hok.fresh (Nat.le_refl _)
  obtain ⟨W, ⟨m0, w0⟩, turn⟩ := q s2.heap.objs.size freshD
  generalize eD : s2.heap.objs.size = D at freshD w0 turn ⊢
  have offD : ∀ b, b ∈ [en, it] → b ≠ D := fun b hb => by
    obtain ⟨o, z, _⟩ := at0.obj b hb
    rw [← eD]
    exact Nat.ne_of_lt (Heap.lt_size z)
  generalize e3 : ({ s2 with heap := s2.heap.push { cls := .type "list", data := .seq ([] : List Value).toArray } } : Shared) = s3
  have push3 : ∀ {b : Addr} {o : Obj}, s2.heap.get? b = some o → s3.heap.get? b = some o := fun {b o} z => by
    rw [← e3]
    exact Heap.get?_push_of_some _ z
  have size3 : s3.heap.objs.size = s2.heap.objs.size + 1 := by
    rw [← e3]
    exact Heap.size_push _ _
  have I3 : Inv X pins σ (upd H2 D (.lst [])) s3 := by
    subst e3
    refine I2.laid (t' := s2.toks) (fun b o z => Heap.get?_push_of_some _ z) (Nat.le_of_eq eD) ⟨Nat.zero_le _, [], 0, .nil, ?_⟩
    subst eD
    exact Heap.get?_push_size _ rfl
  have off3 : ∀ b, b ∈ [en, it] → FpOk X pins (upd H2 D (.lst [])) b ∧ b < s3.heap.objs.size := fun b hb => by
    obtain ⟨f0, f1⟩ := off b hb
    obtain ⟨o, z, _⟩ := at0.obj b hb
    exact ⟨⟨by rw [upd_ne (offD b hb)]; exact f0, f1⟩, Heap.lt_size (push3 z)⟩
  have J0 := block_start I3 ok nd off3
  have hotB := hotB_blk (scope := scope) (ce := compEnvC scope (cellsFrom (s3.heap.objs.size + 1) scope.names (cloFrom X.env.cells scope.names [])) s3.heap.objs.size X.env) hot I3 fun b hb => (off3 b hb).1
  have pg' := pg s3 (upd H2 D (.lst [])) s3.heap.objs.size (cellsFrom (s3.heap.objs.size + 1) scope.names (cloFrom X.env.cells scope.names [])) [en, it] (hotB_blk hot I3 fun b hb => (off3 b hb).1)
  have pt' := pt s3 (upd H2 D (.lst [])) s3.heap.objs.size (cellsFrom (s3.heap.objs.size + 1) scope.names (cloFrom X.env.cells scope.names [])) [en, it]
  have pe' := pe s3 (upd H2 D (.lst [])) s3.heap.objs.size (cellsFrom (s3.heap.objs.size + 1) scope.names (cloFrom X.env.cells scope.names [])) [en, it]
  change codeAny _ _ (.compStart (.ListComp elt [⟨.Tuple elts kk tpos, .Call (.Name "enumerate" p) [e] [] ipos, ifs, 0⟩] scope pos) 0 (.ref en) (.ref D)
    (compEnvC scope (cellsFrom (s3.heap.objs.size + 1) scope.names (cloFrom X.env.cells scope.names [])) s3.heap.objs.size X.env))
    (compPost (model X.prog X.w) X.A X.xe none (EP X pins σ Q) (.ref D) s3.heap.objs.size)
    { s3 with heap := pushCells (s3.heap.push { cls := .type "dict", data := .dict #[] }) scope.names }
  have locs : (compEnvC scope (cellsFrom (s3.heap.objs.size + 1) scope.names (cloFrom X.env.cells scope.names [])) s3.heap.objs.size X.env).locals = s3.heap.objs.size := rfl
  generalize compEnvC scope (cellsFrom (s3.heap.objs.size + 1) scope.names (cloFrom X.env.cells scope.names [])) s3.heap.objs.size X.env = ce at J0 hotB pg' pt' pe' locs ⊢
  generalize e4 : ({ s3 with heap := pushCells (s3.heap.push { cls := .type "dict", data := .dict #[] }) scope.names } : Shared) = s4 at J0 ⊢
  have at4 : EnumAt a en it 0 s4.heap := at0.keep fun b _ o z => by
    rw [← e4]
    exact pushCells_keeps _ _ _ _ (Heap.get?_push_of_some _ (push3 z))
  generalize upd H2 D (.lst []) = H3 at I3 off3 J0 hotB pg' pt' pe' w0 ⊢
  -- seen from the block the walker's two objects are no one's
  have offB : ∀ {σ' : L2.St} {H' : Hp} {s' : Shared}, Inv (X.blk s3 H3 scope ce [en, it]) [] σ' H' s' → (∀ b, b ∈ [en, it] → H' b = none) → ∀ b, b ∈ [en, it] → FpOk (X.blk s3 H3 scope ce [en, it]) [] H' b := fun J free b hb => by
    obtain ⟨z1, z2⟩ := J.ok.exf b hb
    refine ⟨free b hb, z1, J.ok.exfs b hb, .inl hb, z2, fun r hr => ?_⟩
    simp at hr
  have loop : codeAny (model X.prog X.w) X.A (.compLoop (.ListComp elt [⟨.Tuple elts kk tpos, .Call (.Name "enumerate" p) [e] [] ipos, ifs, 0⟩] scope pos) 0 (.ref en) (.ref D) ce) (compPost (model X.prog X.w) X.A X.xe none (EP X pins σ Q) (.ref D) s3.heap.objs.size) s4 := by
    refine compLoop_any (fun n s' => ∃ i H', Inv (X.blk s3 H3 scope ce [en, it]) [] (wipe σ (own.map (·.2))) H' s' ∧ EnumAt a en it i s'.heap ∧ (∀ b, b ∈ [en, it] → H' b = none) ∧ W i n H') (fun n s5 inv => ?_) m0 ⟨0, H3, J0, at4, fun b hb => (off3 b hb).1.1, w0⟩
    obtain ⟨i, H5, J5, at5, free5, w5⟩ := inv
    rcases turn i n H5 w5 with ⟨stop, done⟩ | ⟨go, Nx, again, step⟩
    · obtain ⟨xs, sq, len⟩ := stop
      obtain ⟨its, rv, pl, _⟩ := J5.list sq
      obtain ⟨x1, hx1, ne1⟩ := hotB.at J5
      obtain ⟨old, he⟩ := at5.enum
      have few := rv.length
      refine enumEnd_hot hx1 (ne1 it (by simp)) he at5.iter pl.isList (by simp; omega) fun h' ext => ?_
      obtain ⟨f0, f1, f2, f3, f4, f5⟩ := offB J5 free5 it (by simp)
      have J6 := J5.turned (t' := s5.toks) (fun b o nb z => ext b o nb z) f0 f1 f3 f4 f5
      have I7 : Inv X pins σ H5 { s5 with heap := h' } := I3.call' (ch := [en, it]) J6.os J6.base J6.hok J6.bare fun b hb => by
        obtain ⟨_, o1, _, o3, o4, o5⟩ := (off3 b hb).1
        exact ⟨o3, o1, o4, o5⟩
      have noC : H5 s3.heap.objs.size = none := by
        have z : H5 ce.locals = none := J6.free
        rwa [locs] at z
      obtain ⟨m, ns, _⟩ := J6.loc
      have ns' : h'.Ns ce.locals m := ns
      rw [locs] at ns'
      obtain ⟨c0, c1, _, c3, c4, c5⟩ := I3.fpOk (Nat.le_refl _) noC
      exact ⟨m, ns', fun h2 but => ⟨.ref D, H5, I7.turned (t' := s5.toks) (fun b o nb z => (but.2 b nb).trans z) c0 c1 c3 c4 c5, rfl, done⟩⟩
    · obtain ⟨xs, x, sq, hx⟩ := go
      refine enum_item (elts := elts) (kk := kk) (tpos := tpos) (B := X.blk s3 H3 scope ce [en, it]) J5 at5 (offB J5 free5) sq hx fun u s6 own6 => ?_
      refine own6 _ _ fun T s7 fT J7 eu at7 nT1 nT2 => ?_
      subst eu
      have free7 : ∀ b, b ∈ [en, it] → upd H5 T (.tup [.int (i : Nat), x]) b = none := fun b hb => by
        have nb : b ≠ T := by
          rcases List.mem_cons.mp hb with z | z
          · rw [z]
            exact nT1.symm
          · rw [List.mem_singleton.mp z]
            exact nT2.symm
        rw [upd_ne nb]
        exact free5 b hb
      have now := step (.ref T) _ ⟨T, x, rfl, fT, rfl, fun ys hy => by rw [J5.list_inj hy sq]; exact hx⟩
      have P7 := J7.pinned (offB J7 free7) at7.obj
      refine thnF (pg'.run _ s7 _ _ (.ref T) (.ref T) _ P7 rfl now) fun _ s8 r8 => ?_
      obtain ⟨σ8, H8, J8, w8, q8⟩ := r8
      refine thnF (pt'.run _ s8 σ8 H8 _ J8 q8) fun b s9 r9 => ?_
      obtain ⟨H9, J9, q9⟩ := r9
      have close : ∀ {s' : Shared} {H' : Hp}, Inv (X.blk s3 H3 scope ce [en, it]) ([] ++ pinsAt [en, it] s7.heap) σ8 H' s' → Nx H' → ∃ m, m < n ∧ ∃ i H', Inv (X.blk s3 H3 scope ce [en, it]) [] (wipe σ (own.map (·.2))) H' s' ∧ EnumAt a en it i s'.heap ∧ (∀ b, b ∈ [en, it] → H' b = none) ∧ W i m H' := fun {s' H'} J' nx => by
        obtain ⟨m', lt, w'⟩ := again H' nx
        have kept : ∀ b, b ∈ [en, it] → ∀ o, s7.heap.get? b = some o → s'.heap.get? b = some o ∧ H' b = none := fun b hb o z => by
          have r := J'.pin (b, o) (List.mem_append_right _ (List.mem_append_right _ (mem_pinsAt hb z)))
          exact ⟨r.1, r.2.1⟩
        refine ⟨m', lt, i + 1, H', (J'.unpinned (pins := [])).weak (by rw [← w8, wipe_length]) (fun j v z => (wipe_some (by rwa [← w8] at z)).1), at7.keep fun b hb o z => (kept b hb o z).1, fun b hb => ?_, w'⟩
        obtain ⟨o, z, _⟩ := at7.obj b hb
        exact (kept b hb o z).2
      cases b with
      | false => exact close J9 (by simpa using q9)
      | true =>
        rw [if_pos rfl] at q9 ⊢
        refine thnF (pe'.run _ s9 σ8 H9 _ J9 q9) fun z s10 r10 => ?_
        obtain ⟨yv, H10, J10, ry, acc, hD, few, nx⟩ := r10
        exact app_ok (X := X.blk s3 H3 scope ce [en, it]) J10 hD few ry fun s11 J11 => close J11 nx
  exact codeAny_compStart_list loop (by
    obtain ⟨old, z⟩ := at4.enum
    exact wpAny_pyIter_enum z loop)
end
end LR

/-! a def that is handed the exception that is handled -/
namespace LR
open PySem PySem.Spec PyProof.Rows L2 HotX
/-- a promise that speaks of the handled exception: where it stands, how -/
structure FnE (P : Program) (w : World) (K : PySem.W.Frag) (mg : Str → Option Value) (base : Heap) (k : Nat) (f : Addr) (fd : FuncData) (ps : List Str) (sp : Addr → Obj → Sp) : Prop where
  len : ∀ a oe vs H Q E, sp a oe vs H Q E → vs.length = ps.length
  run : ∀ (A : Around) (outer : List Env) (s : Shared) (H : Hp) (args : Args) (us : List Value) (vs : List V) (Q : VK) (p : Addr × Obj), L2H.RoomH k A → L2H.Hot1 A p → L2H.PinOk outer H s p → Env0 P w K mg base A outer s H → BindsTo s fd args (ps.zip us) → Vals vs us → sp p.1 p.2 vs H Q E0 →
    codeAny (model P w) A (.call (.ref f) args) (CR CX0 outer P w H s Q E0) s
section
variable {P : Program} {w : World} {K : PySem.W.Frag} {mg : Str → Option Value} {base : Heap} {k : Nat} {f : Addr} {fd : FuncData} {x qual : Str} {st : Stmt} {N ps : List Str} {sp : Addr → Obj → Sp}
theorem okE (F : Fun K x qual st f fd) (S : FnScope N ps (defScope st)) (len : ∀ a oe vs H Q E, sp a oe vs H Q E → vs.length = ps.length)
    (walk : ∀ (cdv : Value) (A : Around) (outer : List Env) (s : Shared) (H : Hp) (vs : List V) (Q : VK) (p : Addr × Obj), L2H.Hot1 A p → L2H.RoomH k (A.deeper (envOfC qual (defScope st) s.heap.objs.size f cdv)) → sp p.1 p.2 vs H Q E0 →
      ∃ t, PSs (L2H.cxH CX0 P w K mg base N qual (defScope st) f cdv A outer s H E0 p) (defBody st) t ∧ t { nx := fun _ H' => Q .non H', rt := Q } (L2.start N vs) H) : FnE P w K mg base (k + 1) f fd ps sp := by
  obtain ⟨oc, od, kV, doc, pm, an, cdv, ct, osl, rfl, lk, code⟩ := F.ex
  refine ⟨len, fun A outer s H args us vs Q p room hot pin e0 bind rel asked => ?_⟩
  have inK : K.In s.heap := e0.mod.kin.keeps fun b o z => (e0.bs b o z).1
  have free : s.heap.NoLimit := e0.mod.nolimit.keeps fun b o z => (e0.bs b o z).1
  refine codeAny_call_function room.depth (inK _ _ lk) rfl S.co S.gen rfl (PySem.W.codeRec_of inK code) (bind _ _ _ _ ?_)
  refine wpAny_newFunctionEnv_cells S.kind (fun y hy => ?_) fun env he s1 made => ?_
  · rcases S.par y.1 (List.of_mem_zip hy).1 with z | z
    · exact .inl z
    · exact .inr ⟨z, PySem.W.cellsFrom_some _ _ _ (.inl z)⟩
  · subst he
    refine ⟨free.keeps made.toInCall.keep, codeAny_func ?_⟩
    obtain ⟨t, body, read⟩ := walk cdv A outer s H vs Q p hot (room.deeper _) asked
    have I := L2H.inv_startH (CX := CX0) (E := E0) (P := P) (w := w) S pin e0 (len _ _ _ _ _ _ asked) rel made
    refine wpAny_mono (body.run [] s1 _ H _ I read) (fun fl s' out => ?_) fun _ _ z => z
    cases fl with
    | ret u =>
      obtain ⟨v, σ', H', J, rv, q⟩ := out
      exact ⟨v, H', J.os, J.bare, J.base, J.hok, rv, q⟩
    | next =>
      obtain ⟨σ', H', J, q⟩ := out
      exact ⟨V.non, H', J.os, J.bare, J.base, J.hok, rfl, q⟩
    | brk =>
      obtain ⟨_, _, _, q⟩ := out
      exact q.elim
    | cont =>
      obtain ⟨_, _, _, q⟩ := out
      exact q.elim
end
section
variable {X : Cx} {k : Nat} {f a : Addr} {oe : Obj} {fd : FuncData} {ps : List Str} {sp : Addr → Obj → Sp} {x : Str} {q pos : Pos} {e : Expr} {es : List Expr} {t : TA}
/-- such a def called where p is handled -/
theorem pe_callE (F : FnE X.prog X.w X.K X.mg X.base k f fd ps sp) (room : L2H.RoomH k X.A) (hot : L2H.Hot1 X.A (a, oe)) (mem : (a, oe) ∈ X.pn) (hg : Gl X x) (hm : X.mg x = some (.ref f)) (kp : PySem.W.keepIn X.K (.ref f) = true) (bind : Binds X.K fd ps [])
    (ha : PA X (e :: es) t) (dbg : (x == ("__debug__" : Str)) = false := by decide) (he : starEach (e :: es) X.env = (false, eval e X.env) :: starEach es X.env := by rfl) (plain : (backTo pos (starEach es X.env)).any (·.1) = false := by rfl) :
    PE X (.Call (.Name x q) (e :: es) [] pos) (fun σ H Q => t σ H fun vs H1 => sp a oe vs H1 Q E0) := by
  refine ⟨fun pins s σ H Q I h => wpAny_Call_Name_kw (ld_glob I hg hm (PySem.W.callWith_K (h₀ := X.base) I.ok.mod.kin kp (thn (ha.run pos pins s σ H _ I h) fun us s1 got => ?_) he plain) dbg)⟩
  obtain ⟨vs, H1, I1, rel, asked⟩ := got
  refine ⟨I1.kIn, ?_⟩
  obtain ⟨g, fr, nl, nf, nc⟩ := I1.pin (a, oe) (List.mem_append_left _ mem)
  have pin : L2H.PinOk X.stack H1 s1 (a, oe) := ⟨g, fr, fun m => (List.mem_cons.mp (I1.stkSub a m)).elim nl nf, nc⟩
  have many : us.length = ps.length := by rw [← rel.length, F.len _ _ _ _ _ _ asked]
  have b := bind s1 us I1.kIn (by rw [List.append_nil]; exact many)
  rw [List.append_nil] at b
  refine wpAny_call (codeAny_mono (F.run X.A X.stack s1 H1 ⟨us, []⟩ us vs Q (a, oe) room hot pin I1.env0 b rel asked) fun r s' out => ?_)
  cases r with
  | error er => exact out.elim
  | ok fl =>
    cases fl with
    | ret u => exact I1.after out
    | next => exact False.elim out
    | brk => exact False.elim out
    | cont => exact False.elim out
/-- isinstance of a pinned exception -/
def rIsPin (K : PySem.W.Frag) (a D : Addr) (d : Option Addr) : List V → Hp → VK → Prop := fun xs H Q => ∃ (c : V) (cv : Value) (b : Bool), xs = [.ref a, c] ∧ (∀ dx, d = some dx → ∃ fs, H dx = some (.xd fs)) ∧ ClsV c cv ∧ PySem.W.kitOne K (.ref D) cv = some b ∧ Q (.bl b) H
theorem call_isPin {D : Addr} {d : Option Addr} (mem : (a, oe) ∈ X.pn) (z : Zc (.ref D) d oe) (fl : ∃ vs, oe.data = .fields vs) (T : ExcC X.K D) : CallR X (.builtin "isinstance") (rIsPin X.K a D d) := by
  intro pins s σ H xs us Q I r h
  obtain ⟨c, cv, b, rfl, hd, kc, ans, q⟩ := h
  obtain ⟨u1, u2, rfl, r1, r2⟩ := vals2 r
  obtain rfl := kc.eq r2
  obtain rfl : u1 = Value.ref a := r1
  obtain ⟨get, _⟩ := I.pin (a, oe) (List.mem_append_left _ mem)
  obtain ⟨vs, dv⟩ := fl
  have known : (PySem.W.clsIn X.K D).isSome = true := by
    obtain ⟨cd, hc, _⟩ := PySem.W.any_some T.hd
    rw [hc]
    rfl
  have J : ∃ od, PySem.W.InstAt s.heap a oe D od := by
    cases d with
    | none => exact ⟨none, get, z.1, by unfold PySem.W.notCls; rw [dv] <;> rfl, by rw [z.2]; trivial⟩
    | some dx =>
      obtain ⟨fs, hx⟩ := hd dx rfl
      obtain ⟨mA, hns, _⟩ := (show ObjOk X.prog X.w H s.heap dx (.xd fs) from I.hok dx _ hx)
      obtain ⟨o, ho, _⟩ := lookIn_ns hns
      exact ⟨some o, get, z.1, by unfold PySem.W.notCls; rw [dv] <;> rfl, by rw [z.2]; exact ho⟩
  obtain ⟨od, J⟩ := J
  exact PySem.W.kia_one (PySem.W.kitx_exc known T.hg T.hk T.hs T.ha T.hn T.ht T.hm) I.kIn J ans (fun z => nomatch z) fun tk => ⟨.bl b, H, I.tok tk, rfl, q⟩
end
end LR

/-! own errors with an __init__, raised and let out; instances whose __init__ may raise -/
namespace LR
open PySem PySem.Spec PyProof.Rows L2
/-- a def that may let an error out -/
theorem okN {P : Program} {w : World} {K : PySem.W.Frag} {mg : Str → Option Value} {base : Heap} {x qual : Str} {st : Stmt} {f : Addr} {fd : FuncData} {N ps : List Str} {k : Nat} {sp : Sp} (F : Fun K x qual st f fd) (S : FnScope N ps (defScope st)) (len : ∀ vs H Q E, sp vs H Q E → vs.length = ps.length)
    (walk : ∀ (cdv : Value) (A : Around) (outer : List Env) (s : Shared) (H : Hp) (vs : List V) (Q : VK) (E : XK), Room k (A.deeper (envOfC qual (defScope st) s.heap.objs.size f cdv)) → sp vs H Q E →
      ∃ t, PSs (cxOf (L2N.CX P w) P w K mg base N qual (defScope st) f cdv A outer s H E) (defBody st) t ∧ t { nx := fun _ H' => Q .non H', rt := Q } (start N vs) H) : FnOk P w K mg base (L2N.CX P w) (k + 1) f fd ps sp := by
  obtain ⟨oc, od, kV, doc, pm, an, cdv, ct, osl, rfl, lk, code⟩ := F.ex
  exact fn_of lk code S len fun A outer s H vs Q E room asked => walk cdv A outer s H vs Q E room asked
section
variable {X : Cx} {e : Expr} {es : List Expr} {ta : TA} {p pos : Pos} {x : Str} {C fI : Addr} {k : Nat} {fd : FuncData} {ps : List Str} {sp : Sp}
/-- raise Err(e, ..): the object is let go -/
theorem pmk_errN (T : OexC X.K C) (iC : PySem.W.findIn X.K (.ref C) "__init__" = some (some (.ref fI))) (tI : PySem.W.typeIn X.K (.ref fI) = some (.type "function")) (F1 : FnOk X.prog X.w X.K X.mg X.base CX0 k fI fd ps sp) (room : Room (k + 1) X.A) (bind : Binds X.K fd ps [])
    (hg : Gl X x) (hm : X.mg x = some (.ref C)) (ha : PA X (e :: es) ta) (dbg : (x == ("__debug__" : Str)) = false := by decide) (he : starEach (e :: es) X.env = (false, eval e X.env) :: starEach es X.env := by rfl) (plain : (backTo pos (starEach es X.env)).any (·.1) = false := by rfl) :
    L2N.PMk X (.Call (.Name x p) (e :: es) [] pos) (tMkO C sp [] ta) := by
  intro pins s σ H Q I h
  obtain ⟨nm, q, N, bs, bm, sn, sub, ab, col, dd, k0, k1, k2, k3, k5, hC, hbm⟩ := T.cls
  refine wpAny_Call_Name_kw (ld_glob I hg hm (PySem.W.callWith_K (h₀ := X.base) I.ok.mod.kin T.kC (thn (ha.run pos pins s σ H _ I h) fun us s1 got => ?_) he plain) dbg)
  obtain ⟨vs, H1, I1, r1, few1, q1⟩ := got
  refine ⟨I1.kIn, ?_⟩
  obtain ⟨hp, g, dr, tk, os⟩ := s1
  have new := q1 (hp.objs.size + 1) (I1.hok.fresh (Nat.le_succ _))
  rw [List.append_nil] at new
  have keep : ∀ b o, hp.get? b = some o → ((hp.push (PySem.W.kdv_tup us)).push (PySem.HandSPX.excO C hp.objs.size)).get? b = some o := fun b o z => Heap.get?_push_of_some _ (Heap.get?_push_of_some _ z)
  have J := I1.laid (t' := tk) keep (Nat.le_succ hp.objs.size) (exo_ok (C := C) (d := none) (t1 := hp.objs.size) (by heap_get))
  have rels : Vals (V.ref (hp.objs.size + 1) :: vs) (Value.ref (hp.objs.size + 1) :: us) := .cons rfl r1
  have many : (Value.ref (hp.objs.size + 1) :: us).length = ps.length := by rw [← rels.length, F1.len _ _ _ _ new]
  have few : us.length ≤ sizeLine := by rw [← Paired.length r1, sizeLine_eq]; omega
  have bound := bind _ (Value.ref (hp.objs.size + 1) :: us) J.kIn (by simpa using many)
  rw [List.append_nil] at bound
  refine wpAny_call (PySem.HandSPX.call_own F.excBase_ValueError (fun Y => PySem.HandSPX.refsVE_contains Y bm hbm) (I1.kIn _ _ hC) (PySem.W.looks_findIn I1.kIn iC) (fun self => PySem.W.bind_fn I1.kIn self tI) few
    (codeAny_mono (F1.run _ X.stack _ _ _ _ _ _ E0 (room.make C us []) (J.env0.make C us []) bound rels new) fun r s' out => ?_))
  cases r with
  | error er => exact out.elim
  | ok fl =>
    cases fl with
    | ret u =>
      obtain ⟨v, H2, os2, bare2, un2, hok2, rv, ev, d, fs, ea, ed, hd1, q2⟩ := out
      subst ev
      obtain ⟨h2, g2, d2, t2, os'⟩ := s'
      obtain ⟨t0, G, J2, kG, ge, hoe, na⟩ := mk_end0 (d2 := d2) (t2 := t2) I1 (Nat.le_succ hp.objs.size) keep un2 hok2 os2 bare2 ea ed hd1
      refine ⟨rv, hp.objs.size + 1, _, _, ⟨G, g2, d2, t2, os'⟩, _, .ref C, some d, rfl, J2, kG, ge, hoe, ⟨rfl, rfl, fun vs hv => ?_⟩, rfl, rfl, na, rfl, bare2, raises_own T.exC T.tyC, q2⟩
      cases hv
      rfl
    | next => exact False.elim out
    | brk => exact False.elim out
    | cont => exact False.elim out
end
/-- C(e, ..), whose __init__ may let an error out at the slots that stand -/
def tMakeS (C : Addr) (sp : Sp) (E : L2.St → XK) (t : TA) : TE := fun σ H Q => t σ H fun vs H1 => ∀ x dx, H1 x = none → H1 dx = none → dx ≠ x → sp (.ref x :: vs) (upd (upd H1 dx (.own x)) x (.ins C dx [])) (fun v H2 => v = .non ∧ Q (.ref x) H2) (E σ)
section
variable {X : Cx} {CX : CXT} {e : Expr} {es : List Expr} {t : TA} {p pos : Pos} {x : Str} {C f : Addr} {k : Nat} {fd : FuncData} {ps : List Str} {sp : Sp} {E : L2.St → XK}
theorem pe_makeS (M : Mk X.K C f) (F : FnOk X.prog X.w X.K X.mg X.base CX k f fd ps sp) (room : Room (k + 1) X.A) (hg : Gl X x) (hm : X.mg x = some (.ref C)) (bind : Binds X.K fd ps []) (out : ∀ σ, PassesAt CX X σ (E σ))
    (ha : PA X (e :: es) t) (dbg : (x == ("__debug__" : Str)) = false := by decide) (he : starEach (e :: es) X.env = (false, eval e X.env) :: starEach es X.env := by rfl) (plain : (backTo pos (starEach es X.env)).any (·.1) = false := by rfl) :
    PE X (.Call (.Name x p) (e :: es) [] pos) (tMakeS C sp E t) := by
  refine ⟨fun pins s σ H Q I h => wpAny_Call_Name_kw (ld_glob I hg hm (PySem.W.callWith_K (h₀ := X.base) I.ok.mod.kin M.kp (thn (ha.run pos pins s σ H _ I h) fun us s1 got => ?_) he plain) dbg)⟩
  obtain ⟨vs, H1, I1, r1, q1⟩ := got
  refine ⟨I1.kIn, ?_⟩
  have asked := q1 (s1.heap.objs.size + 1) s1.heap.objs.size (I1.hok.fresh (Nat.le_succ _)) (I1.hok.fresh (Nat.le_refl _)) (Nat.ne_of_lt (Nat.lt_succ_self _))
  have J := Inv.made (C := C) I1
  have rels : Vals (V.ref (s1.heap.objs.size + 1) :: vs) (Value.ref (s1.heap.objs.size + 1) :: us) := .cons rfl r1
  have many : (Value.ref (s1.heap.objs.size + 1) :: us).length = ps.length := by rw [← rels.length, F.len _ _ _ _ asked]
  have bound := bind _ (Value.ref (s1.heap.objs.size + 1) :: us) J.kIn (by simpa using many)
  rw [List.append_nil] at bound
  refine wpAny_call (make_map (f := f) I1.kIn M.makes M.init (beq_iff_eq.mp M.fn) (codeAny_mono (F.run _ X.stack _ _ ⟨Value.ref (s1.heap.objs.size + 1) :: us, []⟩ _ _ _ (E σ) (room.make C us []) (J.env0.make C us []) bound rels asked) fun r s' res => ?_))
  cases r with
  | error er => exact out σ pins _ _ er s' J res
  | ok fl =>
    cases fl with
    | ret u =>
      obtain ⟨v, H2, J2, rv, ev, q3⟩ := J.after res
      subst ev
      exact ⟨rv, ⟨V.ref (s1.heap.objs.size + 1), H2, J2, rfl, q3⟩⟩
    | next => exact False.elim res
    | brk => exact False.elim res
    | cont => exact False.elim res
end
end LR

namespace LK
open PySem PySem.Spec PyProof.Rows L2
/-! ### the errors -/
def eN : Nat → Str
  | 0 => "InvalidStep"
  | 1 => "InvalidTrait"
  | 2 => "InvalidExpr"
  | 3 => "InvalidRow"
  | 4 => "InvalidText"
  | 5 => "InvalidWorld"
  | 6 => "InvalidStart"
  | 7 => "InvalidClaim"
  | 8 => "NoName"
  | 9 => "NoStep"
  | _ => "NoRow"
def eQ : Nat → Str
  | 0 => "InvalidStep.__init__"
  | 1 => "InvalidTrait.__init__"
  | 2 => "InvalidExpr.__init__"
  | 3 => "InvalidRow.__init__"
  | 4 => "InvalidText.__init__"
  | 5 => "InvalidWorld.__init__"
  | 6 => "InvalidStart.__init__"
  | 7 => "InvalidClaim.__init__"
  | 8 => "NoName.__init__"
  | 9 => "NoStep.__init__"
  | _ => "NoRow.__init__"
def eF : Nat → Str
  | 4 => "at"
  | 10 => "at"
  | 6 => "name"
  | 8 => "name"
  | 9 => "name"
  | _ => "word"
def eS (i : Nat) : Stmt := inClass (top (i + 2)) 0
/-- one of the errors that keep an argument -/
structure Er (K : PySem.W.Frag) (mg : Str → Option Value) (i : Nat) (C f : Addr) (fd : FuncData) : Prop where
  g : mg (eN i) = some (.ref C)
  T : OexC K C
  X : XfC K C
  E : ExcC K C
  ini : PySem.W.findIn K (.ref C) "__init__" = some (some (.ref f))
  ti : PySem.W.typeIn K (.ref f) = some (.type "function")
  F : Fun K "__init__" (eQ i) (eS i) f fd
  b : Binds K fd ["self", eF i] []
  no : PySem.W.findIn K (.ref C) (eF i) = some none
/-- one of the two that keep none -/
structure Er0 (K : PySem.W.Frag) (mg : Str → Option Value) (x : Str) (C : Addr) : Prop where
  g : mg x = some (.ref C)
  T : OexC K C
  E : ExcC K C
  ini : PySem.W.findIn K (.ref C) "__init__" = some (some (.builtin "ValueError.__init__"))
structure Errs (K : PySem.W.Frag) (mg : Str → Option Value) (C : Nat → Addr) (B : Addr) (f : Nat → Addr) (fd : Nat → FuncData) : Prop where
  er : ∀ i, i < 11 → Er K mg i (C i) (f i) (fd i)
  imp : Er0 K mg "Impossible" (C 11)
  base : Er0 K mg "WaysError" B
  k1 : ∀ i j, i < 12 → j < 12 → PySem.W.kitOne K (.ref (C i)) (.ref (C j)) = some (decide (i = j))
  k2 : ∀ j, j < 12 → PySem.W.kitOne K (.ref B) (.ref (C j)) = some false
  k3 : ∀ i, i < 12 → PySem.W.kitOne K (.ref (C i)) (.type "ValueError") = some true
  k4 : ∀ i, i < 12 → PySem.W.kitOne K (.ref (C i)) (.ref B) = some true
  k5 : PySem.W.kitOne K (.ref B) (.type "ValueError") = some true
/-- an error of the class C at a, that keeps v -/
def ErrAt (C : Addr) (x : Str) (H : Hp) (a : Addr) (v : V) : Prop := ∃ dx, H a = some (exo a C (some dx)) ∧ H dx = some (exd dx [(x, v)])
theorem ErrAt.same {C a : Addr} {x : Str} {H H' : Hp} {v : V} (s : Same H H') (h : ErrAt C x H a v) : ErrAt C x H' a v := by
  obtain ⟨dx, h1, h2⟩ := h
  exact ⟨dx, s _ _ h1, s _ _ h2⟩
def spErr (C : Addr) (x : Str) : Sp := fun vs H Q _ => ∃ (a : Addr) (v : V), vs = [.ref a, v] ∧ H a = some (exo a C none) ∧ ∀ H2, ErrAt C x H2 a v → Keep a H H2 → Q .non H2
theorem spErr_ret {C : Addr} {x : Str} : ∀ vs H Q, spErr C x vs H Q E0 → spErr C x vs H (fun v H' => v = .non ∧ Q v H') E0 := fun vs H Q h => by
  obtain ⟨a, v, e, ha, q⟩ := h
  exact ⟨a, v, e, ha, fun H2 h2 k => ⟨rfl, q H2 h2 k⟩⟩
theorem errV {C : Addr} {x : Str} {H : Hp} {v : V} {Q : Addr → Hp → Prop} (q : ∀ a H2, H a = none → ErrAt C x H2 a v → Same H H2 → Q a H2) : ([v] : List V).length ≤ 1000 ∧ ∀ a, H a = none → spErr C x (.ref a :: [v]) (upd H a (exo a C none)) (fun _ H2 => Q a H2) E0 :=
  ⟨by show 1 ≤ 1000; decide, fun a ha => ⟨a, v, rfl, upd_same, fun H2 e k => q a H2 ha e fun b o z => k b o (ne_of_none z ha) (by rw [upd_ne (ne_of_none z ha)]; exact z)⟩⟩
/-- a list by a comprehension over an enumerated list -/
theorem lc_enum {K : PySem.W.Frag} {a : Addr} {xs : List V} {g : TG} {tt : TT} {te : TE} {vs : List Nat} {σ : L2.St} {H1 : Hp} {D : Addr} {Qd : Hp → Prop} (Pv : Nat → Hp → Prop) (h0 : Pv 0 (upd H1 D (.lst []))) (hq : ∀ i H, Pv i H → SqL K H a xs)
    (hs : ∀ (i : Nat) (x : V) (T : Addr) (H : Hp), xs[i]? = some x → Pv i H → H T = none → g (.ref T) (wipe σ vs) (upd H T (.tup [.int (i : Nat), x])) fun σ2 H2 => wipe σ2 vs = wipe σ vs ∧ tt σ2 H2 fun b H3 =>
      if b = true then te σ2 H3 fun y H4 => ∃ acc, H4 D = some (.lst acc) ∧ acc.length < sizeLine ∧ Pv (i + 1) (upd H4 D (.lst (acc ++ [y]))) else Pv (i + 1) H3) (hd : ∀ H, Pv xs.length H → Qd H) :
    ∃ W : Nat → Nat → Hp → Prop, (∃ m, W 0 m (upd H1 D (.lst []))) ∧ ∀ i m H, W i m H →
      ((Ite K a).stop i H ∧ Qd H) ∨ ((Ite K a).go i H ∧ ∃ Nx : Hp → Prop, (∀ H', Nx H' → ∃ m', m' < m ∧ W (i + 1) m' H') ∧ ∀ x H', (Ite K a).yld i H x H' → g x (wipe σ vs) H' fun σ2 H2 => wipe σ2 vs = wipe σ vs ∧ tt σ2 H2 fun b H3 =>
        if b = true then te σ2 H3 fun y H4 => ∃ acc, H4 D = some (.lst acc) ∧ acc.length < sizeLine ∧ Nx (upd H4 D (.lst (acc ++ [y]))) else Nx H3) := by
  refine ⟨fun i m H => m + i = xs.length ∧ Pv i H, ⟨xs.length, rfl, h0⟩, fun i m H w => ?_⟩
  obtain ⟨e, p⟩ := w
  have q := hq i H p
  by_cases lt : i < xs.length
  · refine .inr ⟨⟨xs, xs[i], q, by simp [lt]⟩, Pv (i + 1), fun H' p' => ⟨m - 1, by omega, by omega, p'⟩, fun v H' y => ?_⟩
    obtain ⟨T, x, rfl, hT, rfl, hx⟩ := y
    exact hs i x T H (hx xs q) p hT
  · refine .inl ⟨⟨xs, q, by omega⟩, hd H ?_⟩
    rw [show xs.length = i by omega]
    exact p
/-- where the trues stand -/
def ix : List Bool → Nat → List Int
  | [], _ => []
  | b :: r, i => (if b = true then [(i : Int)] else []) ++ ix r (i + 1)
theorem ix_add : ∀ (bs : List Bool) (b : Bool) (i : Nat), ix (bs ++ [b]) i = ix bs i ++ (if b = true then [((i + bs.length : Nat) : Int)] else [])
  | [], b, i => by
    show (if b = true then [(i : Int)] else []) ++ [] = [] ++ _
    rw [List.append_nil, List.nil_append]
    rfl
  | c :: r, b, i => by
    show (if c = true then [(i : Int)] else []) ++ ix (r ++ [b]) (i + 1) = ((if c = true then [(i : Int)] else []) ++ ix r (i + 1)) ++ _
    rw [ix_add r b (i + 1), List.append_assoc, List.length_cons, show i + 1 + r.length = i + (r.length + 1) by omega]
theorem ix_len : ∀ (bs : List Bool) (i : Nat), (ix bs i).length ≤ bs.length
  | [], _ => Nat.le_refl _
  | c :: r, i => by
    show ((if c = true then [(i : Int)] else []) ++ ix r (i + 1)).length ≤ r.length + 1
    rw [List.length_append]
    have := ix_len r (i + 1)
    cases c <;> simp <;> omega
def spRef (K : PySem.W.Frag) (C : Nat → Addr) : Sp := fun vs H Q _ => ∃ (a D : Addr) (d : Option Addr) (b : Nat → Bool), vs = [.ref a] ∧ H a = some (exo a D d) ∧ (∀ dx, d = some dx → ∃ fs, H dx = some (exd dx fs)) ∧ ExcC K D ∧ (∀ j, j < 12 → PySem.W.kitOne K (.ref D) (.ref (C j)) = some (b j)) ∧
  ∀ p H', Same H H' → H' p = some (.lst ((ix ((List.range 12).map b) 0).map V.int)) → Q (.ref p) H'
section
variable {P : Program} {w : World} {K : PySem.W.Frag} {mg : Str → Option Value} {base : Heap}
theorem scErr0 : FnScope ["self", "word"] ["self", "word"] (defScope (eS 0)) := ⟨rfl, rfl, rfl, by decide +kernel, rfl, by decide +kernel, by decide +kernel⟩
theorem scErr1 : FnScope ["self", "word"] ["self", "word"] (defScope (eS 1)) := ⟨rfl, rfl, rfl, by decide +kernel, rfl, by decide +kernel, by decide +kernel⟩
theorem scErr2 : FnScope ["self", "word"] ["self", "word"] (defScope (eS 2)) := ⟨rfl, rfl, rfl, by decide +kernel, rfl, by decide +kernel, by decide +kernel⟩
theorem scErr3 : FnScope ["self", "word"] ["self", "word"] (defScope (eS 3)) := ⟨rfl, rfl, rfl, by decide +kernel, rfl, by decide +kernel, by decide +kernel⟩
theorem scErr4 : FnScope ["self", "at"] ["self", "at"] (defScope (eS 4)) := ⟨rfl, rfl, rfl, by decide +kernel, rfl, by decide +kernel, by decide +kernel⟩
theorem scErr5 : FnScope ["self", "word"] ["self", "word"] (defScope (eS 5)) := ⟨rfl, rfl, rfl, by decide +kernel, rfl, by decide +kernel, by decide +kernel⟩
theorem scErr6 : FnScope ["self", "name"] ["self", "name"] (defScope (eS 6)) := ⟨rfl, rfl, rfl, by decide +kernel, rfl, by decide +kernel, by decide +kernel⟩
theorem scErr7 : FnScope ["self", "word"] ["self", "word"] (defScope (eS 7)) := ⟨rfl, rfl, rfl, by decide +kernel, rfl, by decide +kernel, by decide +kernel⟩
theorem scErr8 : FnScope ["self", "name"] ["self", "name"] (defScope (eS 8)) := ⟨rfl, rfl, rfl, by decide +kernel, rfl, by decide +kernel, by decide +kernel⟩
theorem scErr9 : FnScope ["self", "name"] ["self", "name"] (defScope (eS 9)) := ⟨rfl, rfl, rfl, by decide +kernel, rfl, by decide +kernel, by decide +kernel⟩
theorem scErr10 : FnScope ["self", "at"] ["self", "at"] (defScope (eS 10)) := ⟨rfl, rfl, rfl, by decide +kernel, rfl, by decide +kernel, by decide +kernel⟩
theorem err_put {C a : Addr} {x : Str} {H : Hp} {v : V} {Q : VK} (ha : H a = some (exo a C none)) (q : ∀ H2, ErrAt C x H2 a v → Keep a H H2 → Q .non H2) (dx : Addr) (hdx : H dx = none) (ne : dx ≠ a) : Q .non (upd (upd H dx (exd dx [(x, v)])) a (exo a C (some dx))) := by
  refine q _ ⟨dx, upd_same, ?_⟩ fun b o n e => ?_
  · rw [upd_ne ne]
    exact upd_same
  · rw [upd_ne n, upd_ne (ne_of_none e hdx)]
    exact e
theorem ok_err0 {C f : Addr} {fd : FuncData} (e : Er K mg 0 C f fd) : FnOk P w K mg base CX0 1 f fd ["self", "word"] (spErr C "word") := by
  refine e.F.ok scErr0 (fun vs H Q E h => ?_) (fun cdv A outer s H vs Q E hr h => ?_)
  · obtain ⟨_, _, rfl, _⟩ := h
    rfl
  · obtain ⟨a, v, rfl, ha, q⟩ := h
    exact ⟨_, pss_one (ps_ost (pv 0) (pv 1)), _, rfl, _, rfl, a, C, rfl, e.T, e.no, .inl ⟨ha, err_put ha q⟩⟩
theorem ok_err1 {C f : Addr} {fd : FuncData} (e : Er K mg 1 C f fd) : FnOk P w K mg base CX0 1 f fd ["self", "word"] (spErr C "word") := by
  refine e.F.ok scErr1 (fun vs H Q E h => ?_) (fun cdv A outer s H vs Q E hr h => ?_)
  · obtain ⟨_, _, rfl, _⟩ := h
    rfl
  · obtain ⟨a, v, rfl, ha, q⟩ := h
    exact ⟨_, pss_one (ps_ost (pv 0) (pv 1)), _, rfl, _, rfl, a, C, rfl, e.T, e.no, .inl ⟨ha, err_put ha q⟩⟩
theorem ok_err2 {C f : Addr} {fd : FuncData} (e : Er K mg 2 C f fd) : FnOk P w K mg base CX0 1 f fd ["self", "word"] (spErr C "word") := by
  refine e.F.ok scErr2 (fun vs H Q E h => ?_) (fun cdv A outer s H vs Q E hr h => ?_)
  · obtain ⟨_, _, rfl, _⟩ := h
    rfl
  · obtain ⟨a, v, rfl, ha, q⟩ := h
    exact ⟨_, pss_one (ps_ost (pv 0) (pv 1)), _, rfl, _, rfl, a, C, rfl, e.T, e.no, .inl ⟨ha, err_put ha q⟩⟩
theorem ok_err3 {C f : Addr} {fd : FuncData} (e : Er K mg 3 C f fd) : FnOk P w K mg base CX0 1 f fd ["self", "word"] (spErr C "word") := by
  refine e.F.ok scErr3 (fun vs H Q E h => ?_) (fun cdv A outer s H vs Q E hr h => ?_)
  · obtain ⟨_, _, rfl, _⟩ := h
    rfl
  · obtain ⟨a, v, rfl, ha, q⟩ := h
    exact ⟨_, pss_one (ps_ost (pv 0) (pv 1)), _, rfl, _, rfl, a, C, rfl, e.T, e.no, .inl ⟨ha, err_put ha q⟩⟩
theorem ok_err4 {C f : Addr} {fd : FuncData} (e : Er K mg 4 C f fd) : FnOk P w K mg base CX0 1 f fd ["self", "at"] (spErr C "at") := by
  refine e.F.ok scErr4 (fun vs H Q E h => ?_) (fun cdv A outer s H vs Q E hr h => ?_)
  · obtain ⟨_, _, rfl, _⟩ := h
    rfl
  · obtain ⟨a, v, rfl, ha, q⟩ := h
    exact ⟨_, pss_one (ps_ost (pv 0) (pv 1)), _, rfl, _, rfl, a, C, rfl, e.T, e.no, .inl ⟨ha, err_put ha q⟩⟩
theorem ok_err5 {C f : Addr} {fd : FuncData} (e : Er K mg 5 C f fd) : FnOk P w K mg base CX0 1 f fd ["self", "word"] (spErr C "word") := by
  refine e.F.ok scErr5 (fun vs H Q E h => ?_) (fun cdv A outer s H vs Q E hr h => ?_)
  · obtain ⟨_, _, rfl, _⟩ := h
    rfl
  · obtain ⟨a, v, rfl, ha, q⟩ := h
    exact ⟨_, pss_one (ps_ost (pv 0) (pv 1)), _, rfl, _, rfl, a, C, rfl, e.T, e.no, .inl ⟨ha, err_put ha q⟩⟩
theorem ok_err6 {C f : Addr} {fd : FuncData} (e : Er K mg 6 C f fd) : FnOk P w K mg base CX0 1 f fd ["self", "name"] (spErr C "name") := by
  refine e.F.ok scErr6 (fun vs H Q E h => ?_) (fun cdv A outer s H vs Q E hr h => ?_)
  · obtain ⟨_, _, rfl, _⟩ := h
    rfl
  · obtain ⟨a, v, rfl, ha, q⟩ := h
    exact ⟨_, pss_one (ps_ost (pv 0) (pv 1)), _, rfl, _, rfl, a, C, rfl, e.T, e.no, .inl ⟨ha, err_put ha q⟩⟩
theorem ok_err7 {C f : Addr} {fd : FuncData} (e : Er K mg 7 C f fd) : FnOk P w K mg base CX0 1 f fd ["self", "word"] (spErr C "word") := by
  refine e.F.ok scErr7 (fun vs H Q E h => ?_) (fun cdv A outer s H vs Q E hr h => ?_)
  · obtain ⟨_, _, rfl, _⟩ := h
    rfl
  · obtain ⟨a, v, rfl, ha, q⟩ := h
    exact ⟨_, pss_one (ps_ost (pv 0) (pv 1)), _, rfl, _, rfl, a, C, rfl, e.T, e.no, .inl ⟨ha, err_put ha q⟩⟩
theorem ok_err8 {C f : Addr} {fd : FuncData} (e : Er K mg 8 C f fd) : FnOk P w K mg base CX0 1 f fd ["self", "name"] (spErr C "name") := by
  refine e.F.ok scErr8 (fun vs H Q E h => ?_) (fun cdv A outer s H vs Q E hr h => ?_)
  · obtain ⟨_, _, rfl, _⟩ := h
    rfl
  · obtain ⟨a, v, rfl, ha, q⟩ := h
    exact ⟨_, pss_one (ps_ost (pv 0) (pv 1)), _, rfl, _, rfl, a, C, rfl, e.T, e.no, .inl ⟨ha, err_put ha q⟩⟩
theorem ok_err9 {C f : Addr} {fd : FuncData} (e : Er K mg 9 C f fd) : FnOk P w K mg base CX0 1 f fd ["self", "name"] (spErr C "name") := by
  refine e.F.ok scErr9 (fun vs H Q E h => ?_) (fun cdv A outer s H vs Q E hr h => ?_)
  · obtain ⟨_, _, rfl, _⟩ := h
    rfl
  · obtain ⟨a, v, rfl, ha, q⟩ := h
    exact ⟨_, pss_one (ps_ost (pv 0) (pv 1)), _, rfl, _, rfl, a, C, rfl, e.T, e.no, .inl ⟨ha, err_put ha q⟩⟩
theorem ok_err10 {C f : Addr} {fd : FuncData} (e : Er K mg 10 C f fd) : FnOk P w K mg base CX0 1 f fd ["self", "at"] (spErr C "at") := by
  refine e.F.ok scErr10 (fun vs H Q E h => ?_) (fun cdv A outer s H vs Q E hr h => ?_)
  · obtain ⟨_, _, rfl, _⟩ := h
    rfl
  · obtain ⟨a, v, rfl, ha, q⟩ := h
    exact ⟨_, pss_one (ps_ost (pv 0) (pv 1)), _, rfl, _, rfl, a, C, rfl, e.T, e.no, .inl ⟨ha, err_put ha q⟩⟩
end
end LK

namespace LK
open PySem PySem.Spec PyProof.Rows L2 LR
/-- an error object, of whatever class -/
structure ErrX (H : Hp) (a D : Addr) (d : Option Addr) : Prop where
  at_ : H a = some (exo a D d)
  dict : ∀ dx, d = some dx → ∃ fs, H dx = some (exd dx fs)
theorem ErrX.same {H H' : Hp} {a D : Addr} {d : Option Addr} (s : Same H H') (h : ErrX H a D d) : ErrX H' a D d :=
  ⟨s _ _ h.at_, fun dx e => by
    obtain ⟨fs, q⟩ := h.dict dx e
    exact ⟨fs, s _ _ q⟩⟩
section
variable {P : Program} {w : World} {K : PySem.W.Frag} {mg : Str → Option Value} {base : Heap}
def nRef : List Str := ["_law_e", "_law_found", "_law_at", "_law_one"]
theorem scRef : FnScope nRef ["_law_e"] (defScope sRefused) := ⟨rfl, rfl, rfl, by decide +kernel, rfl, by decide +kernel, by decide +kernel⟩
theorem ok_refused {C fE : Nat → Addr} {B f : Addr} {fdE : Nat → FuncData} {fd : FuncData} (S : Std mg) (G : Errs K mg C B fE fdE) (F : Fun K "_law_refused" "_law_refused" sRefused f fd) : FnOk P w K mg base CX0 1 f fd ["_law_e"] (spRef K C) := by
  have e0 := G.er 0 (by decide)
  have e1 := G.er 1 (by decide)
  have e2 := G.er 2 (by decide)
  have e3 := G.er 3 (by decide)
  have e4 := G.er 4 (by decide)
  have e5 := G.er 5 (by decide)
  have e6 := G.er 6 (by decide)
  have e7 := G.er 7 (by decide)
  have e8 := G.er 8 (by decide)
  have e9 := G.er 9 (by decide)
  have e10 := G.er 10 (by decide)
  refine F.ok scRef (fun vs H Q E h => ?_) (fun cdv A outer s H vs Q E hr h => ?_)
  · obtain ⟨a, D, d, b, rfl, _⟩ := h
    rfl
  · obtain ⟨a, D, d, b, rfl, ha, hd, ex, kk, q⟩ := h
    refine ⟨_, pss_cons (ps_set (i := 1) scRef.nd rfl (Or.inl rfl) (pe_lst (pa_cons (pe_callB call_isErr (by rfl) S.isi (by decide +kernel) (pa_cons (pv 0) (pa_cons (pe_glob (v := .ref (C 0)) rfl e0.g rfl) pa_nil))) (pa_cons (pe_callB call_isErr (by rfl) S.isi (by decide +kernel) (pa_cons (pv 0) (pa_cons (pe_glob (v := .ref (C 1)) rfl e1.g rfl) pa_nil))) (pa_cons (pe_callB call_isErr (by rfl) S.isi (by decide +kernel) (pa_cons (pv 0) (pa_cons (pe_glob (v := .ref (C 2)) rfl e2.g rfl) pa_nil))) pa_nil)))))
      (pss_cons (ps_set (i := 1) scRef.nd rfl (Or.inl rfl) (pe_op op_cat (pv 1) (pe_lst (pa_cons (pe_callB call_isErr (by rfl) S.isi (by decide +kernel) (pa_cons (pv 0) (pa_cons (pe_glob (v := .ref (C 3)) rfl e3.g rfl) pa_nil))) (pa_cons (pe_callB call_isErr (by rfl) S.isi (by decide +kernel) (pa_cons (pv 0) (pa_cons (pe_glob (v := .ref (C 4)) rfl e4.g rfl) pa_nil))) (pa_cons (pe_callB call_isErr (by rfl) S.isi (by decide +kernel) (pa_cons (pv 0) (pa_cons (pe_glob (v := .ref (C 5)) rfl e5.g rfl) pa_nil))) pa_nil))))))
      (pss_cons (ps_set (i := 1) scRef.nd rfl (Or.inl rfl) (pe_op op_cat (pv 1) (pe_lst (pa_cons (pe_callB call_isErr (by rfl) S.isi (by decide +kernel) (pa_cons (pv 0) (pa_cons (pe_glob (v := .ref (C 6)) rfl e6.g rfl) pa_nil))) (pa_cons (pe_callB call_isErr (by rfl) S.isi (by decide +kernel) (pa_cons (pv 0) (pa_cons (pe_glob (v := .ref (C 7)) rfl e7.g rfl) pa_nil))) (pa_cons (pe_callB call_isErr (by rfl) S.isi (by decide +kernel) (pa_cons (pv 0) (pa_cons (pe_glob (v := .ref (C 8)) rfl e8.g rfl) pa_nil))) pa_nil))))))
      (pss_cons (ps_set (i := 1) scRef.nd rfl (Or.inl rfl) (pe_op op_cat (pv 1) (pe_lst (pa_cons (pe_callB call_isErr (by rfl) S.isi (by decide +kernel) (pa_cons (pv 0) (pa_cons (pe_glob (v := .ref (C 9)) rfl e9.g rfl) pa_nil))) (pa_cons (pe_callB call_isErr (by rfl) S.isi (by decide +kernel) (pa_cons (pv 0) (pa_cons (pe_glob (v := .ref (C 10)) rfl e10.g rfl) pa_nil))) (pa_cons (pe_callB call_isErr (by rfl) S.isi (by decide +kernel) (pa_cons (pv 0) (pa_cons (pe_glob (v := .ref (C 11)) rfl G.imp.g rfl) pa_nil))) pa_nil))))))
      (pss_one (ps_ret (pe_lc (own := [("_law_at", 2), ("_law_one", 3)]) (g := gTup K 2 (gCons (gName 2) (gCons (gName 3) gNil))) (tt := tB (tVar 3)) rfl scRef.nd
          (pi_enum (by rfl) S.enumerate (pa_cons (pv 1) pa_nil)) (blkOk_by (N := nRef) (sc := defScope sRefused) (by decide +kernel))
          (fun _ _ _ _ _ => pg_tup rfl (pgs_cons (pg_name (i := 2) scRef.nd rfl (Or.inl rfl)) (pgs_cons (pg_name (i := 3) scRef.nd rfl (Or.inl rfl)) pgs_nil))) (fun _ _ _ _ _ => pts_one (pt_val (pv 3)))
          (fun _ _ _ _ _ => pv 2))))))), ?_⟩
    have x0 : ErrX H a D d := ⟨ha, hd⟩
    refine ⟨_, rfl, a, D, d, _, _, b 0, rfl, x0.at_, x0.dict, ex, .own (C 0), kk 0 (by decide), _, rfl, a, D, d, _, _, b 1, rfl, x0.at_, x0.dict, ex, .own (C 1), kk 1 (by decide), _, rfl, a, D, d, _, _, b 2, rfl, x0.at_, x0.dict, ex, .own (C 2), kk 2 (by decide), by show 3 ≤ sizeLine; decide, fun p1 hp1 => ?_⟩
    have s1 : Same H (upd H p1 (.lst [.bl (b 0), .bl (b 1), .bl (b 2)])) := same_new hp1
    have x1 := x0.same s1
    have h1 : (upd H p1 (.lst [.bl (b 0), .bl (b 1), .bl (b 2)])) p1 = some (.lst [.bl (b 0), .bl (b 1), .bl (b 2)]) := upd_same
    generalize upd H p1 (.lst [.bl (b 0), .bl (b 1), .bl (b 2)]) = H1 at s1 x1 h1 ⊢
    refine ⟨_, rfl, _, rfl, a, D, d, _, _, b 3, rfl, x1.at_, x1.dict, ex, .own (C 3), kk 3 (by decide), _, rfl, a, D, d, _, _, b 4, rfl, x1.at_, x1.dict, ex, .own (C 4), kk 4 (by decide), _, rfl, a, D, d, _, _, b 5, rfl, x1.at_, x1.dict, ex, .own (C 5), kk 5 (by decide), by show 3 ≤ sizeLine; decide, fun m1 hm1 => ⟨p1, m1, _, _, rfl, rfl, same_new hm1 _ _ h1, upd_same, by show 6 ≤ sizeLine; decide, fun p2 hp2 => ?_⟩⟩
    have s2 : Same H (upd (upd H1 m1 (.lst [.bl (b 3), .bl (b 4), .bl (b 5)])) p2 (.lst ([.bl (b 0), .bl (b 1), .bl (b 2)] ++ [.bl (b 3), .bl (b 4), .bl (b 5)]))) := (s1.trans (same_new hm1)).trans (same_new hp2)
    have x2 := x0.same s2
    have h2 : (upd (upd H1 m1 (.lst [.bl (b 3), .bl (b 4), .bl (b 5)])) p2 (.lst ([.bl (b 0), .bl (b 1), .bl (b 2)] ++ [.bl (b 3), .bl (b 4), .bl (b 5)]))) p2 = some (.lst ([.bl (b 0), .bl (b 1), .bl (b 2)] ++ [.bl (b 3), .bl (b 4), .bl (b 5)])) := upd_same
    generalize upd (upd H1 m1 (.lst [.bl (b 3), .bl (b 4), .bl (b 5)])) p2 (.lst ([.bl (b 0), .bl (b 1), .bl (b 2)] ++ [.bl (b 3), .bl (b 4), .bl (b 5)])) = H2 at s2 x2 h2 ⊢
    refine ⟨_, rfl, _, rfl, a, D, d, _, _, b 6, rfl, x2.at_, x2.dict, ex, .own (C 6), kk 6 (by decide), _, rfl, a, D, d, _, _, b 7, rfl, x2.at_, x2.dict, ex, .own (C 7), kk 7 (by decide), _, rfl, a, D, d, _, _, b 8, rfl, x2.at_, x2.dict, ex, .own (C 8), kk 8 (by decide), by show 3 ≤ sizeLine; decide, fun m2 hm2 => ⟨p2, m2, _, _, rfl, rfl, same_new hm2 _ _ h2, upd_same, by show 9 ≤ sizeLine; decide, fun p3 hp3 => ?_⟩⟩
    have s3 : Same H (upd (upd H2 m2 (.lst [.bl (b 6), .bl (b 7), .bl (b 8)])) p3 (.lst (([.bl (b 0), .bl (b 1), .bl (b 2)] ++ [.bl (b 3), .bl (b 4), .bl (b 5)]) ++ [.bl (b 6), .bl (b 7), .bl (b 8)]))) := (s2.trans (same_new hm2)).trans (same_new hp3)
    have x3 := x0.same s3
    have h3 : (upd (upd H2 m2 (.lst [.bl (b 6), .bl (b 7), .bl (b 8)])) p3 (.lst (([.bl (b 0), .bl (b 1), .bl (b 2)] ++ [.bl (b 3), .bl (b 4), .bl (b 5)]) ++ [.bl (b 6), .bl (b 7), .bl (b 8)]))) p3 = some (.lst (([.bl (b 0), .bl (b 1), .bl (b 2)] ++ [.bl (b 3), .bl (b 4), .bl (b 5)]) ++ [.bl (b 6), .bl (b 7), .bl (b 8)])) := upd_same
    generalize upd (upd H2 m2 (.lst [.bl (b 6), .bl (b 7), .bl (b 8)])) p3 (.lst (([.bl (b 0), .bl (b 1), .bl (b 2)] ++ [.bl (b 3), .bl (b 4), .bl (b 5)]) ++ [.bl (b 6), .bl (b 7), .bl (b 8)])) = H3 at s3 x3 h3 ⊢
    refine ⟨_, rfl, _, rfl, a, D, d, _, _, b 9, rfl, x3.at_, x3.dict, ex, .own (C 9), kk 9 (by decide), _, rfl, a, D, d, _, _, b 10, rfl, x3.at_, x3.dict, ex, .own (C 10), kk 10 (by decide), _, rfl, a, D, d, _, _, b 11, rfl, x3.at_, x3.dict, ex, .own (C 11), kk 11 (by decide), by show 3 ≤ sizeLine; decide, fun m3 hm3 => ⟨p3, m3, _, _, rfl, rfl, same_new hm3 _ _ h3, upd_same, by show 12 ≤ sizeLine; decide, fun p4 hp4 => ?_⟩⟩
    have s4 : Same H (upd (upd H3 m3 (.lst [.bl (b 9), .bl (b 10), .bl (b 11)])) p4 (.lst ((([.bl (b 0), .bl (b 1), .bl (b 2)] ++ [.bl (b 3), .bl (b 4), .bl (b 5)]) ++ [.bl (b 6), .bl (b 7), .bl (b 8)]) ++ [.bl (b 9), .bl (b 10), .bl (b 11)]))) := (s3.trans (same_new hm3)).trans (same_new hp4)
    have x4 := x0.same s4
    have h4 : (upd (upd H3 m3 (.lst [.bl (b 9), .bl (b 10), .bl (b 11)])) p4 (.lst ((([.bl (b 0), .bl (b 1), .bl (b 2)] ++ [.bl (b 3), .bl (b 4), .bl (b 5)]) ++ [.bl (b 6), .bl (b 7), .bl (b 8)]) ++ [.bl (b 9), .bl (b 10), .bl (b 11)]))) p4 = some (.lst ((([.bl (b 0), .bl (b 1), .bl (b 2)] ++ [.bl (b 3), .bl (b 4), .bl (b 5)]) ++ [.bl (b 6), .bl (b 7), .bl (b 8)]) ++ [.bl (b 9), .bl (b 10), .bl (b 11)])) := upd_same
    generalize upd (upd H3 m3 (.lst [.bl (b 9), .bl (b 10), .bl (b 11)])) p4 (.lst ((([.bl (b 0), .bl (b 1), .bl (b 2)] ++ [.bl (b 3), .bl (b 4), .bl (b 5)]) ++ [.bl (b 6), .bl (b 7), .bl (b 8)]) ++ [.bl (b 9), .bl (b 10), .bl (b 11)])) = H4 at s4 x4 h4 ⊢
    have hb : H4 p4 = some (.lst (((List.range 12).map b).map V.bl)) := h4
    clear h4
    generalize hB : (List.range 12).map b = bs at hb q
    have hlen : bs.length = 12 := by rw [← hB]; rfl
    refine ⟨_, rfl, p4, _, rfl, SqL.of hb, fun D' hD => lc_enum (xs := bs.map V.bl) (fun i H5 => Keep D' H H5 ∧ H5 p4 = some (.lst (bs.map V.bl)) ∧ H5 D' = some (.lst ((ix (bs.take i) 0).map V.int)))
      ⟨(Keep.same s4).trans (Keep.new hD), by rw [upd_ne (ne_of_none hb hD)]; exact hb, upd_same⟩ (fun i H5 h => SqL.of h.2.1) (fun i x T H5 hx h hT => ?_) (fun H5 h => ?_)⟩
    · obtain ⟨k5, b5, d5⟩ := h
      rw [List.getElem?_map] at hx
      obtain ⟨c, hc, rfl⟩ := Option.map_eq_some_iff.mp hx
      have lt : i < bs.length := (List.getElem?_eq_some_iff.mp hc).1
      have tk : bs.take (i + 1) = bs.take i ++ [c] := by
        rw [List.take_add_one, hc]
        rfl
      have ln : (bs.take i).length = i := by rw [List.length_take]; omega
      have u5 : Same H5 (upd H5 T (.tup [.int (i : Nat), .bl c])) := same_new hT
      refine ⟨T, _, rfl, SqT.of upd_same, rfl, _, _, rfl, _, _, rfl, rfl, rfl, _, rfl, c, rfl, ?_⟩
      have pD : p4 ≠ D' := ne_of_none hb hD
      cases c with
      | true =>
        refine iteT ⟨_, rfl, _, u5 _ _ d5, ?_, ?_, ?_, ?_⟩
        · rw [List.length_map]
          have := ix_len (bs.take i) 0
          exact small1000 (by omega)
        · intro b' o n e
          rw [upd_ne n]
          exact u5 _ _ (k5 b' o n e)
        · rw [upd_ne pD]
          exact u5 _ _ b5
        · rw [upd_same, tk, ix_add, List.map_append, ln, Nat.zero_add]
          rfl
      | false =>
        refine iteF ⟨?_, ?_, ?_⟩
        · exact fun b' o n e => u5 _ _ (k5 b' o n e)
        · exact u5 _ _ b5
        · rw [tk, ix_add, u5 _ _ d5]
          simp
    · obtain ⟨k5, b5, d5⟩ := h
      rw [List.length_map, List.take_length] at d5
      exact q D' H5 (fun b' o e => k5 b' o (ne_of_none e (s4.free hD)) e) d5
end
end LK

namespace LK
open PySem PySem.Spec PyProof.Rows L2 LR
/-- the handled exception's own dict, where it has one -/
structure DictX (H : Hp) (d : Option Addr) : Prop where
  dict : ∀ dx, d = some dx → ∃ fs, H dx = some (.xd fs)
theorem DictX.same {H H' : Hp} {d : Option Addr} (s : Same H H') (h : DictX H d) : DictX H' d :=
  ⟨fun dx e => by
    obtain ⟨fs, q⟩ := h.dict dx e
    exact ⟨fs, s _ _ q⟩⟩
def spRefE (K : PySem.W.Frag) (C : Nat → Addr) (a : Addr) (oe : Obj) : Sp := fun vs H Q _ => ∃ (D : Addr) (d : Option Addr) (b : Nat → Bool), vs = [.ref a] ∧ Zc (.ref D) d oe ∧ (∃ fs, oe.data = .fields fs) ∧ DictX H d ∧ ExcC K D ∧ (∀ j, j < 12 → PySem.W.kitOne K (.ref D) (.ref (C j)) = some (b j)) ∧
  ∀ p H', Same H H' → H' p = some (.lst ((ix ((List.range 12).map b) 0).map V.int)) → Q (.ref p) H'
section
variable {P : Program} {w : World} {K : PySem.W.Frag} {mg : Str → Option Value} {base : Heap}
theorem ok_refusedE {C fE : Nat → Addr} {B f : Addr} {fdE : Nat → FuncData} {fd : FuncData} (S : Std mg) (G : Errs K mg C B fE fdE) (F : Fun K "_law_refused" "_law_refused" sRefused f fd) : FnE P w K mg base 1 f fd ["_law_e"] (spRefE K C) := by
  have e0 := G.er 0 (by decide)
  have e1 := G.er 1 (by decide)
  have e2 := G.er 2 (by decide)
  have e3 := G.er 3 (by decide)
  have e4 := G.er 4 (by decide)
  have e5 := G.er 5 (by decide)
  have e6 := G.er 6 (by decide)
  have e7 := G.er 7 (by decide)
  have e8 := G.er 8 (by decide)
  have e9 := G.er 9 (by decide)
  have e10 := G.er 10 (by decide)
  refine okE F scRef (fun a oe vs H Q E h => ?_) (fun cdv A outer s H vs Q pe0 hot hr h => ?_)
  · obtain ⟨D, d, b, rfl, _⟩ := h
    rfl
  · obtain ⟨D, d, b, rfl, zc, fl, x0, ex, kk, q⟩ := h
    obtain ⟨a, oe⟩ := pe0
    have hc : L2H.HotC (L2H.cxH CX0 P w K mg base nRef "_law_refused" (defScope sRefused) f cdv A outer s H E0 (a, oe)) := ⟨(a, oe), hot, List.mem_singleton.mpr rfl⟩
    have mem : (a, oe) ∈ (L2H.cxH CX0 P w K mg base nRef "_law_refused" (defScope sRefused) f cdv A outer s H E0 (a, oe)).pn := List.mem_singleton.mpr rfl
    refine ⟨_, pss_cons (ps_set (i := 1) scRef.nd rfl (Or.inl rfl) (pe_lst (pa_cons (pe_callB (call_isPin mem zc fl ex) (by rfl) S.isi (by decide +kernel) (pa_cons (pv 0) (pa_cons (pe_glob (v := .ref (C 0)) rfl e0.g rfl) pa_nil))) (pa_cons (pe_callB (call_isPin mem zc fl ex) (by rfl) S.isi (by decide +kernel) (pa_cons (pv 0) (pa_cons (pe_glob (v := .ref (C 1)) rfl e1.g rfl) pa_nil))) (pa_cons (pe_callB (call_isPin mem zc fl ex) (by rfl) S.isi (by decide +kernel) (pa_cons (pv 0) (pa_cons (pe_glob (v := .ref (C 2)) rfl e2.g rfl) pa_nil))) pa_nil)))))
      (pss_cons (ps_set (i := 1) scRef.nd rfl (Or.inl rfl) (pe_op op_cat (pv 1) (pe_lst (pa_cons (pe_callB (call_isPin mem zc fl ex) (by rfl) S.isi (by decide +kernel) (pa_cons (pv 0) (pa_cons (pe_glob (v := .ref (C 3)) rfl e3.g rfl) pa_nil))) (pa_cons (pe_callB (call_isPin mem zc fl ex) (by rfl) S.isi (by decide +kernel) (pa_cons (pv 0) (pa_cons (pe_glob (v := .ref (C 4)) rfl e4.g rfl) pa_nil))) (pa_cons (pe_callB (call_isPin mem zc fl ex) (by rfl) S.isi (by decide +kernel) (pa_cons (pv 0) (pa_cons (pe_glob (v := .ref (C 5)) rfl e5.g rfl) pa_nil))) pa_nil))))))
      (pss_cons (ps_set (i := 1) scRef.nd rfl (Or.inl rfl) (pe_op op_cat (pv 1) (pe_lst (pa_cons (pe_callB (call_isPin mem zc fl ex) (by rfl) S.isi (by decide +kernel) (pa_cons (pv 0) (pa_cons (pe_glob (v := .ref (C 6)) rfl e6.g rfl) pa_nil))) (pa_cons (pe_callB (call_isPin mem zc fl ex) (by rfl) S.isi (by decide +kernel) (pa_cons (pv 0) (pa_cons (pe_glob (v := .ref (C 7)) rfl e7.g rfl) pa_nil))) (pa_cons (pe_callB (call_isPin mem zc fl ex) (by rfl) S.isi (by decide +kernel) (pa_cons (pv 0) (pa_cons (pe_glob (v := .ref (C 8)) rfl e8.g rfl) pa_nil))) pa_nil))))))
      (pss_cons (ps_set (i := 1) scRef.nd rfl (Or.inl rfl) (pe_op op_cat (pv 1) (pe_lst (pa_cons (pe_callB (call_isPin mem zc fl ex) (by rfl) S.isi (by decide +kernel) (pa_cons (pv 0) (pa_cons (pe_glob (v := .ref (C 9)) rfl e9.g rfl) pa_nil))) (pa_cons (pe_callB (call_isPin mem zc fl ex) (by rfl) S.isi (by decide +kernel) (pa_cons (pv 0) (pa_cons (pe_glob (v := .ref (C 10)) rfl e10.g rfl) pa_nil))) (pa_cons (pe_callB (call_isPin mem zc fl ex) (by rfl) S.isi (by decide +kernel) (pa_cons (pv 0) (pa_cons (pe_glob (v := .ref (C 11)) rfl G.imp.g rfl) pa_nil))) pa_nil))))))
      (pss_one (ps_ret (pe_lcEH (own := [("_law_at", 2), ("_law_one", 3)]) (g := gTup K 2 (gCons (gName 2) (gCons (gName 3) gNil))) (tt := tB (tVar 3)) hc scRef.nd (by rfl) S.enumerate (pa_cons (pv 1) pa_nil) (blkOk_by (N := nRef) (sc := defScope sRefused) (by decide +kernel))
          (fun _ _ _ _ _ hb => pg_tupH hb (pgs_cons (pg_name (i := 2) scRef.nd rfl (Or.inl rfl)) (pgs_cons (pg_name (i := 3) scRef.nd rfl (Or.inl rfl)) pgs_nil))) (fun _ _ _ _ _ => pts_one (pt_val (pv 3)))
          (fun _ _ _ _ _ => pv 2))))))), ?_⟩
    refine ⟨_, rfl, _, _, b 0, rfl, x0.dict, .own (C 0), kk 0 (by decide), _, rfl, _, _, b 1, rfl, x0.dict, .own (C 1), kk 1 (by decide), _, rfl, _, _, b 2, rfl, x0.dict, .own (C 2), kk 2 (by decide), by show 3 ≤ sizeLine; decide, fun p1 hp1 => ?_⟩
    have s1 : Same H (upd H p1 (.lst [.bl (b 0), .bl (b 1), .bl (b 2)])) := same_new hp1
    have x1 := x0.same s1
    have h1 : (upd H p1 (.lst [.bl (b 0), .bl (b 1), .bl (b 2)])) p1 = some (.lst [.bl (b 0), .bl (b 1), .bl (b 2)]) := upd_same
    generalize upd H p1 (.lst [.bl (b 0), .bl (b 1), .bl (b 2)]) = H1 at s1 x1 h1 ⊢
    refine ⟨_, rfl, _, rfl, _, _, b 3, rfl, x1.dict, .own (C 3), kk 3 (by decide), _, rfl, _, _, b 4, rfl, x1.dict, .own (C 4), kk 4 (by decide), _, rfl, _, _, b 5, rfl, x1.dict, .own (C 5), kk 5 (by decide), by show 3 ≤ sizeLine; decide, fun m1 hm1 => ⟨p1, m1, _, _, rfl, rfl, same_new hm1 _ _ h1, upd_same, by show 6 ≤ sizeLine; decide, fun p2 hp2 => ?_⟩⟩
    have s2 : Same H (upd (upd H1 m1 (.lst [.bl (b 3), .bl (b 4), .bl (b 5)])) p2 (.lst ([.bl (b 0), .bl (b 1), .bl (b 2)] ++ [.bl (b 3), .bl (b 4), .bl (b 5)]))) := (s1.trans (same_new hm1)).trans (same_new hp2)
    have x2 := x0.same s2
    have h2 : (upd (upd H1 m1 (.lst [.bl (b 3), .bl (b 4), .bl (b 5)])) p2 (.lst ([.bl (b 0), .bl (b 1), .bl (b 2)] ++ [.bl (b 3), .bl (b 4), .bl (b 5)]))) p2 = some (.lst ([.bl (b 0), .bl (b 1), .bl (b 2)] ++ [.bl (b 3), .bl (b 4), .bl (b 5)])) := upd_same
    generalize upd (upd H1 m1 (.lst [.bl (b 3), .bl (b 4), .bl (b 5)])) p2 (.lst ([.bl (b 0), .bl (b 1), .bl (b 2)] ++ [.bl (b 3), .bl (b 4), .bl (b 5)])) = H2 at s2 x2 h2 ⊢
    refine ⟨_, rfl, _, rfl, _, _, b 6, rfl, x2.dict, .own (C 6), kk 6 (by decide), _, rfl, _, _, b 7, rfl, x2.dict, .own (C 7), kk 7 (by decide), _, rfl, _, _, b 8, rfl, x2.dict, .own (C 8), kk 8 (by decide), by show 3 ≤ sizeLine; decide, fun m2 hm2 => ⟨p2, m2, _, _, rfl, rfl, same_new hm2 _ _ h2, upd_same, by show 9 ≤ sizeLine; decide, fun p3 hp3 => ?_⟩⟩
    have s3 : Same H (upd (upd H2 m2 (.lst [.bl (b 6), .bl (b 7), .bl (b 8)])) p3 (.lst (([.bl (b 0), .bl (b 1), .bl (b 2)] ++ [.bl (b 3), .bl (b 4), .bl (b 5)]) ++ [.bl (b 6), .bl (b 7), .bl (b 8)]))) := (s2.trans (same_new hm2)).trans (same_new hp3)
    have x3 := x0.same s3
    have h3 : (upd (upd H2 m2 (.lst [.bl (b 6), .bl (b 7), .bl (b 8)])) p3 (.lst (([.bl (b 0), .bl (b 1), .bl (b 2)] ++ [.bl (b 3), .bl (b 4), .bl (b 5)]) ++ [.bl (b 6), .bl (b 7), .bl (b 8)]))) p3 = some (.lst (([.bl (b 0), .bl (b 1), .bl (b 2)] ++ [.bl (b 3), .bl (b 4), .bl (b 5)]) ++ [.bl (b 6), .bl (b 7), .bl (b 8)])) := upd_same
    generalize upd (upd H2 m2 (.lst [.bl (b 6), .bl (b 7), .bl (b 8)])) p3 (.lst (([.bl (b 0), .bl (b 1), .bl (b 2)] ++ [.bl (b 3), .bl (b 4), .bl (b 5)]) ++ [.bl (b 6), .bl (b 7), .bl (b 8)])) = H3 at s3 x3 h3 ⊢
    refine ⟨_, rfl, _, rfl, _, _, b 9, rfl, x3.dict, .own (C 9), kk 9 (by decide), _, rfl, _, _, b 10, rfl, x3.dict, .own (C 10), kk 10 (by decide), _, rfl, _, _, b 11, rfl, x3.dict, .own (C 11), kk 11 (by decide), by show 3 ≤ sizeLine; decide, fun m3 hm3 => ⟨p3, m3, _, _, rfl, rfl, same_new hm3 _ _ h3, upd_same, by show 12 ≤ sizeLine; decide, fun p4 hp4 => ?_⟩⟩
    have s4 : Same H (upd (upd H3 m3 (.lst [.bl (b 9), .bl (b 10), .bl (b 11)])) p4 (.lst ((([.bl (b 0), .bl (b 1), .bl (b 2)] ++ [.bl (b 3), .bl (b 4), .bl (b 5)]) ++ [.bl (b 6), .bl (b 7), .bl (b 8)]) ++ [.bl (b 9), .bl (b 10), .bl (b 11)]))) := (s3.trans (same_new hm3)).trans (same_new hp4)
    have x4 := x0.same s4
    have h4 : (upd (upd H3 m3 (.lst [.bl (b 9), .bl (b 10), .bl (b 11)])) p4 (.lst ((([.bl (b 0), .bl (b 1), .bl (b 2)] ++ [.bl (b 3), .bl (b 4), .bl (b 5)]) ++ [.bl (b 6), .bl (b 7), .bl (b 8)]) ++ [.bl (b 9), .bl (b 10), .bl (b 11)]))) p4 = some (.lst ((([.bl (b 0), .bl (b 1), .bl (b 2)] ++ [.bl (b 3), .bl (b 4), .bl (b 5)]) ++ [.bl (b 6), .bl (b 7), .bl (b 8)]) ++ [.bl (b 9), .bl (b 10), .bl (b 11)])) := upd_same
    generalize upd (upd H3 m3 (.lst [.bl (b 9), .bl (b 10), .bl (b 11)])) p4 (.lst ((([.bl (b 0), .bl (b 1), .bl (b 2)] ++ [.bl (b 3), .bl (b 4), .bl (b 5)]) ++ [.bl (b 6), .bl (b 7), .bl (b 8)]) ++ [.bl (b 9), .bl (b 10), .bl (b 11)])) = H4 at s4 x4 h4 ⊢
    have hb : H4 p4 = some (.lst (((List.range 12).map b).map V.bl)) := h4
    clear h4
    generalize hB : (List.range 12).map b = bs at hb q
    have hlen : bs.length = 12 := by rw [← hB]; rfl
    refine ⟨_, rfl, p4, _, rfl, SqL.of hb, fun D' hD => lc_enum (xs := bs.map V.bl) (fun i H5 => Keep D' H H5 ∧ H5 p4 = some (.lst (bs.map V.bl)) ∧ H5 D' = some (.lst ((ix (bs.take i) 0).map V.int)))
      ⟨(Keep.same s4).trans (Keep.new hD), by rw [upd_ne (ne_of_none hb hD)]; exact hb, upd_same⟩ (fun i H5 h => SqL.of h.2.1) (fun i x T H5 hx h hT => ?_) (fun H5 h => ?_)⟩
    · obtain ⟨k5, b5, d5⟩ := h
      rw [List.getElem?_map] at hx
      obtain ⟨c, hc, rfl⟩ := Option.map_eq_some_iff.mp hx
      have lt : i < bs.length := (List.getElem?_eq_some_iff.mp hc).1
      have tk : bs.take (i + 1) = bs.take i ++ [c] := by
        rw [List.take_add_one, hc]
        rfl
      have ln : (bs.take i).length = i := by rw [List.length_take]; omega
      have u5 : Same H5 (upd H5 T (.tup [.int (i : Nat), .bl c])) := same_new hT
      refine ⟨T, _, rfl, SqT.of upd_same, rfl, _, _, rfl, _, _, rfl, rfl, rfl, _, rfl, c, rfl, ?_⟩
      have pD : p4 ≠ D' := ne_of_none hb hD
      cases c with
      | true =>
        refine iteT ⟨_, rfl, _, u5 _ _ d5, ?_, ?_, ?_, ?_⟩
        · rw [List.length_map]
          have := ix_len (bs.take i) 0
          exact small1000 (by omega)
        · intro b' o n e
          rw [upd_ne n]
          exact u5 _ _ (k5 b' o n e)
        · rw [upd_ne pD]
          exact u5 _ _ b5
        · rw [upd_same, tk, ix_add, List.map_append, ln, Nat.zero_add]
          rfl
      | false =>
        refine iteF ⟨?_, ?_, ?_⟩
        · exact fun b' o n e => u5 _ _ (k5 b' o n e)
        · exact u5 _ _ b5
        · rw [tk, ix_add, u5 _ _ d5]
          simp
    · obtain ⟨k5, b5, d5⟩ := h
      rw [List.length_map, List.take_length] at d5
      exact q D' H5 (fun b' o e => k5 b' o (ne_of_none e (s4.free hD)) e) d5
end
end LK

namespace LK
open PySem PySem.Spec PyProof.Rows L2 LR
/-! ### the program: a tree read or refused -/
def spE0 (C : Addr) (x : Str) : Sp := fun vs H Q _ => ∃ (a : Addr) (v : V), vs = [.ref a, v] ∧ H a = some (exo a C none) ∧ ∀ dx, H dx = none → dx ≠ a → Q .non (upd (upd H dx (exd dx [(x, v)])) a (exo a C (some dx)))
theorem errX {C : Addr} {x : Str} {H : Hp} {v : V} {R : Addr → Hp → Prop} (q : ∀ d H', Same H H' → H' d = some (.xd [(x, v)]) → H d = none → R d H') : ([v] : List V).length ≤ 1000 ∧ ∀ a, H a = none → spE0 C x (.ref a :: ([v] ++ [])) (upd H a (exo a C none))
    (fun u H2 => u = .non ∧ ∃ (d : Addr) (fs : List (Str × V)), H2 a = some (exo a C (some d)) ∧ H2 d = some (exd d fs) ∧ H d = none ∧ R d (upd (L2.del H2 a) d (.xd fs))) (fun _ _ _ => False) := by
  refine ⟨by show 1 ≤ 1000; decide, fun a ha => ⟨a, v, rfl, upd_same, fun dx hdx ne => ?_⟩⟩
  have hd : H dx = none := by
    rw [upd_ne ne] at hdx
    exact hdx
  refine ⟨rfl, dx, [(x, v)], upd_same, by rw [upd_ne ne]; exact upd_same, hd, q dx _ (fun b o e => ?_) upd_same hd⟩
  have n1 : b ≠ a := ne_of_none e ha
  have n2 : b ≠ dx := ne_of_none e hd
  rw [upd_ne n2, del_ne n1, upd_ne n1, upd_ne n2, upd_ne n1]
  exact e
theorem item_str {ls : List Str} {i : Nat} {x : Str} (h : ls[i]? = some x) : (ls.map V.str)[i]? = some (V.str x) := by
  rw [List.getElem?_map, h]
  rfl
/-- lines that are short enough -/
structure Few (ls : List Str) : Prop where
  many : ls.length ≤ 31
  len : ∀ s, s ∈ ls → s.length ≤ 100000
/-- what is read of a line as a comparison -/
def sidesAt (ls : List Str) (i : Nat) (a : Str) : Option (Str × Str) :=
  match ls[i]? with
  | none => none
  | some x => if Txt.startswith x a = true then sidesOf (behind x a) else none
theorem sidesAt_at {ls : List Str} {i : Nat} {a x : Str} (hx : ls[i]? = some x) : sidesAt ls i a = if Txt.startswith x a = true then sidesOf (behind x a) else none := by
  unfold sidesAt
  rw [hx]
/-- an error InvalidText(m) leaves -/
def Bad (C4 : Addr) (m : Nat) (H : Hp) (E : XK) : Prop := ∀ d H', Same H H' → H' d = some (.xd [("at", .int (m : Nat))]) → H d = none → E (.ref C4) (some d) H'
theorem Bad.same {C4 : Addr} {m : Nat} {H H1 : Hp} {E : XK} (s : Same H H1) (h : Bad C4 m H E) : Bad C4 m H1 E := fun d H' s' hd nd => h d H' (s.trans s') hd (s.free nd)
def spSidesX (K : PySem.W.Frag) (C4 : Addr) : Sp := fun vs H Q E => ∃ (L : Addr) (ls : List Str) (i : Nat) (a : Str), vs = [.ref L, .int i, .str a] ∧ SqL K H L (ls.map V.str) ∧ Few ls ∧ i ≤ ls.length ∧ a.length ≤ 1000 ∧
  (∀ l r, sidesAt ls i a = some (l, r) → ∀ p H', H p = none → H' p = some (.lst [.str l, .str r]) → Same H H' → Q (.ref p) H') ∧ (sidesAt ls i a = none → Bad C4 i H E)
section
variable {P : Program} {w : World} {K : PySem.W.Frag} {mg : Str → Option Value} {base : Heap} {t1 t2 : Tok}
theorem ok_err4X {C f : Addr} {fd : FuncData} (e : Er K mg 4 C f fd) : FnOk P w K mg base CX0 1 f fd ["self", "at"] (spE0 C "at") := by
  refine e.F.ok scErr4 (fun vs H Q E h => ?_) (fun cdv A outer s H vs Q E hr h => ?_)
  · obtain ⟨_, _, rfl, _⟩ := h
    rfl
  · obtain ⟨a, v, rfl, ha, q⟩ := h
    exact ⟨_, pss_one (ps_ost (pv 0) (pv 1)), _, rfl, _, rfl, a, C, rfl, e.T, e.no, .inl ⟨ha, q⟩⟩
def nSides : List Str := ["lines", "at", "ahead", "sides", "side"]
theorem scSides : FnScope nSides ["lines", "at", "ahead"] (defScope pSides) := ⟨rfl, rfl, rfl, by decide +kernel, rfl, by decide +kernel, by decide +kernel⟩
theorem ok_sidesX {f fM fE C4 : Addr} {fd fdM fdE : FuncData} (S : Std mg) (e4 : Er K mg 4 C4 fE fdE) (T : Df K mg "_sides_in" pSides f fd ["lines", "at", "ahead"]) (M : Df K mg "_may_be_term" pMay fM fdM ["text"]) : FnOk P w K mg base (L2N.CX P w) 3 f fd ["lines", "at", "ahead"] (spSidesX K C4) := by
  have GM : FnOk P w K mg base CX0 1 fM fdM ["text"] spMay := ok_may M
  have GE : FnOk P w K mg base CX0 1 fE fdE ["self", "at"] (spE0 C4 "at") := ok_err4X e4
  refine okN T.F scSides (fun vs H Q E h => ?_) (fun cdv A outer s H vs Q E hr h => ?_)
  · obtain ⟨_, _, _, _, rfl, _⟩ := h
    rfl
  · obtain ⟨L, ls, i, a, rfl, hS, few, hi, la, qy, qn⟩ := h
    have hr1 : Room 1 _ := hr.mono (by decide)
    have raised : ∀ {X : Cx}, True := fun {X} => trivial
    refine ⟨_, pss_cons (ps_if (PW.pt (pw_or (pt_cmpR op_eq (pv 1) (pe_callB call_len_seq (by rfl) S.len PySem.boot_len (pa_cons (pv 0) pa_nil)) (nomark _))
        (pw_or1 (pt_not (pt_val (pe_bm PySem.F.plainAttrs_str PySem.F.slot_str_startswith PySem.F.type_str_startswith mt_startswith (pe_ix ix_list (pv 0) (pv 1) (fun _ _ => rfl)) (pa_cons (pv 2) pa_nil)))))))
          (pss_one (L2N.ps_raise rfl (L2N.takes_of rfl rfl rfl rfl) (pmk_errN e4.T e4.ini e4.ti GE hr e4.b rfl e4.g (pa_cons (pv 1) pa_nil)))) pss_nil)
      (pss_cons (ps_set (i := 3) scSides.nd rfl (Or.inl rfl) (pe_split (pe_slice sl_str (pe_ix ix_list (pv 0) (pv 1) (fun _ _ => rfl)) (po_some (pe_callB call_len_str (by rfl) S.len PySem.boot_len (pa_cons (pv 2) pa_nil))) po_none) pe_str))
      (pss_cons (ps_if (PW.pt (pw_or (pt_cmpR op_ne (pe_callB call_len_seq (by rfl) S.len PySem.boot_len (pa_cons (pv 3) pa_nil)) pe_int (nomark _))
        (pw_or1 (pt_not (pt_val (pe_callB (cr_all rfl) (by rfl) S.all (by decide +kernel) (pa_cons (pe_lc (own := [("side", 4)]) (g := gName 4) (tt := tYes) rfl scSides.nd (pi_list (pv 3))
          (blkOk_by (N := nSides) (sc := defScope pSides) (by decide +kernel)) (fun _ _ _ _ _ => pg_name (i := 4) scSides.nd rfl (Or.inl rfl)) (fun _ _ _ _ _ => pts_nil)
          (fun _ _ _ _ _ => pe_call GM hr1 rfl M.g M.F.kp M.b .nil pass0 (pa_cons (pv 4) pa_nil))) pa_nil)))))))
          (pss_one (L2N.ps_raise rfl (L2N.takes_of rfl rfl rfl rfl) (pmk_errN e4.T e4.ini e4.ti GE hr e4.b rfl e4.g (pa_cons (pv 1) pa_nil)))) pss_nil)
      (pss_one (ps_ret (pv 3))))), ?_⟩
    have sz : (16777216 : Nat) ≤ sizeLine := by decide
    refine ⟨_, rfl, _, rfl, L, _, rfl, .inl hS, rfl, _, rfl, ?_⟩
    rw [List.length_map]
    cases hx : ls[i]? with
    | none =>
      have hge := List.getElem?_eq_none_iff.mp hx
      have ei : i = ls.length := by omega
      rw [decide_eq_true (show V.int (i : Int) = V.int (ls.length : Nat) by rw [ei])]
      refine iteT (iteT ⟨_, rfl, errX fun d H' s' hd nd => ?_⟩)
      exact qn (by unfold sidesAt; rw [hx]) d H' s' hd nd
    | some x =>
      have hlt := (List.getElem?_eq_some_iff.mp hx).1
      have lx := few.len x (List.mem_of_getElem? hx)
      rw [decide_eq_false (show V.int (i : Int) ≠ V.int (ls.length : Nat) from fun e => by injection e with e; omega)]
      refine iteF ⟨_, rfl, _, rfl, L, _, _, _, rfl, rfl, hS, atI_nat (item_str hx), rfl, _, rfl, _, _, rfl, rfl, _, rfl, ?_⟩
      cases hs : Txt.startswith x a with
      | false =>
        refine iteT ⟨_, rfl, errX fun d H' s' hd nd => ?_⟩
        exact qn (by rw [sidesAt_at hx, if_neg (by rw [hs]; decide)]) d H' s' hd nd
      | true =>
        have esa : sidesAt ls i a = sidesOf (behind x a) := by rw [sidesAt_at hx, if_pos hs]
        rw [esa] at qy qn
        refine iteF ?_
        have lb := behind_len x a
        refine ⟨_, rfl, _, rfl, L, _, _, _, rfl, rfl, hS, atI_nat (item_str hx), _, rfl, _, rfl, by omega, _, rfl, _, rfl, by omega, ⟨_, rfl⟩, _, _, rfl, rfl, by decide +kernel, (by show (behind x a).length + 2 ≤ sizeLine; omega), fun p hp => ?_⟩
        have hlen := split_len (behind x a)
        have hdef : sidesOf (behind x a) = match Txt.split (behind x a) (Str.ofString " <= ") with | [l, r] => if (mayB l && mayB r) = true then some (l, r) else none | _ => none := rfl
        have hsp : Txt.split (cutS x (some (a.length : Int)) none) (Str.ofString " <= ") = Txt.split (behind x a) (Str.ofString " <= ") := rfl
        rw [hsp]
        generalize Txt.split (behind x a) (Str.ofString " <= ") = ys at hlen hdef ⊢
        have s1 : Same H (upd H p (.lst (ys.map V.str))) := same_new hp
        have h1 : (upd H p (.lst (ys.map V.str))) p = some (.lst (ys.map V.str)) := upd_same
        generalize (upd H p (.lst (ys.map V.str))) = H1 at s1 h1 ⊢
        refine ⟨_, rfl, p, _, rfl, .inl (SqL.of h1), rfl, _, rfl, ?_⟩
        rw [List.length_map]
        have wrong : ys.length ≠ 2 → sidesOf (behind x a) = none := fun hne => by
          rw [hdef]
          match ys, hne with
          | [], _ => rfl
          | [_], _ => rfl
          | _ :: _ :: _ :: _, _ => rfl
          | [_, _], h => exact absurd rfl h
        by_cases h2 : ys.length = 2
        · obtain ⟨l, r, rfl⟩ : ∃ l r, ys = [l, r] := by
            match ys, h2 with
            | [l, r], _ => exact ⟨l, r, rfl⟩
          have hdef' : sidesOf (behind x a) = if (mayB l && mayB r) = true then some (l, r) else none := hdef
          refine iteF ⟨_, rfl, p, rfl, ⟨_, SqL.of h1⟩, fun D hD => ?_⟩
          have hpD : p ≠ D := ne_of_none h1 hD
          refine lc_list (K := K) (a := p) (xs := [V.str l, V.str r]) (fun j H2 => Keep D H1 H2 ∧ H2 D = some (.lst (([mayB l, mayB r].take j).map V.bl))) ⟨Keep.new hD, upd_same⟩ (fun i H2 _ ⟨k, _⟩ => SqL.of (k _ _ hpD h1)) ?_ ?_
          · rintro j y H2 hy ⟨k2, d2⟩
            obtain ⟨u, rfl, lu, ej⟩ : ∃ u, y = V.str u ∧ u.length ≤ 100000 ∧ [mayB l, mayB r].take (j + 1) = [mayB l, mayB r].take j ++ [mayB u] := by
              have ll := hlen l (by simp)
              have lr := hlen r (by simp)
              match j, hy with
              | 0, hy =>
                cases hy
                exact ⟨l, rfl, by omega, rfl⟩
              | 1, hy =>
                cases hy
                exact ⟨r, rfl, by omega, rfl⟩
            refine ⟨rfl, _, rfl, u, rfl, by omega, ?_⟩
            refine ⟨_, d2, ?_, fun b o n e => by rw [upd_ne n]; exact k2 b o n e, ?_⟩
            · rw [List.length_map, List.length_take]
              exact small1000 (Nat.le_trans (Nat.min_le_right _ _) (by show 2 ≤ 1000; decide))
            · rw [upd_same, ej, List.map_append]
              rfl
          · rintro H2 ⟨k2, d2⟩
            have kk : Same H1 H2 := fun b o e => k2 b o (ne_of_none e hD) e
            refine ⟨D, [mayB l, mayB r], rfl, SqL.of d2, _, rfl, ?_⟩
            have ea : [mayB l, mayB r].all id = (mayB l && mayB r) := by simp
            rw [ea]
            cases hm : (mayB l && mayB r) with
            | true =>
              rw [hm] at hdef'
              refine iteF ⟨_, rfl, ?_⟩
              exact qy l r hdef' p H2 hp (kk _ _ h1) (s1.trans kk)
            | false =>
              rw [hm] at hdef'
              refine iteT ⟨_, rfl, errX fun d H' s' hd nd => ?_⟩
              exact qn hdef' d H' ((s1.trans kk).trans s') hd ((s1.trans kk).free nd)
        · rw [decide_eq_false (show V.int (ys.length : Nat) ≠ V.int 2 from fun e => by injection e with e; omega)]
          refine iteT (iteT ⟨_, rfl, errX fun d H' s' hd nd => ?_⟩)
          exact qn (wrong h2) d H' (s1.trans s') hd (s1.free nd)
end
end LK

namespace LK
open PySem PySem.Spec PyProof.Rows L2 LR
/-- what comes of a reading -/
def Told (K : PySem.W.Frag) (C4 : Addr) (r : Rd) (H : Hp) (Q : V → Hp → Prop) (E : XK) : Prop := match r with
  | .bad m => Bad C4 m H E
  | .ok t stop => ∀ p v H', H' p = some (.tup [v, .int (stop : Nat)]) → Dp K H' v t.enc → Same H H' → Q (.ref p) H'
def spTreeX (K : PySem.W.Frag) (C4 : Addr) (n : Nat) : Sp := fun vs H Q E => ∃ (L : Addr) (ls : List Str) (i : Nat) (a : Str), vs = [.ref L, .int i, .str a] ∧ SqL K H L (ls.map V.str) ∧ Few ls ∧ i ≤ ls.length ∧ ls.length < i + n ∧ a.length + 2 * n ≤ 1000 ∧
  Told K C4 (rd ls n i a) H Q E
theorem rd_succ (ls : List Str) (f i : Nat) (a : Str) : rd ls (f + 1) i a =
    match ls[i]? with
    | none => .bad i
    | some x =>
      if x = a ++ Str.ofString "so" then .ok .leaf (i + 1)
      else
          match sidesAt ls i a with
          | none => .bad i
          | some (l, r) =>
            match rd ls f (i + 1) (a ++ Str.ofString "  ") with
            | .bad n => .bad n
            | .ok one stop =>
              if ls[stop]? = some (a ++ r ++ Str.ofString " < " ++ l) then
                match rd ls f (stop + 1) (a ++ Str.ofString "  ") with
                | .bad n => .bad n
                | .ok other stop2 => .ok (.node l r one other) stop2
              else .bad stop := by
  conv => lhs; unfold rd
  cases hx : ls[i]? with
  | none => rfl
  | some x =>
    have hsa := sidesAt_at (a := a) hx
    by_cases hs : Txt.startswith x a = true
    · rw [if_pos hs] at hsa
      by_cases hb : behind x a = Str.ofString "so"
      · simp only [if_pos hs, if_pos hb, if_pos ((leaf_iff x a).mpr ⟨hs, hb⟩)]
      · have hn : ¬ x = a ++ Str.ofString "so" := fun e => hb ((leaf_iff x a).mp e).2
        simp only [if_pos hs, if_neg hb, if_neg hn, hsa]
        try rfl
    · rw [if_neg hs] at hsa
      have hn : ¬ x = a ++ Str.ofString "so" := fun e => hs ((leaf_iff x a).mp e).1
      simp only [if_neg hs, if_neg hn, hsa]
section
variable {P : Program} {w : World} {K : PySem.W.Frag} {mg : Str → Option Value} {base : Heap} {t1 t2 : Tok}
def nTreeAt : List Str := ["lines", "at", "ahead", "left", "right", "one", "stop", "other"]
theorem scTreeAt : FnScope nTreeAt ["lines", "at", "ahead"] (defScope pTreeAt) := ⟨rfl, rfl, rfl, by decide +kernel, rfl, by decide +kernel, by decide +kernel⟩
theorem ok_treeX {f fS fE C4 : Addr} {fd fdS fdE : FuncData} (S : Std mg) (C : Cs mg t1 t2) (e4 : Er K mg 4 C4 fE fdE) (T : Df K mg "_tree_at" pTreeAt f fd ["lines", "at", "ahead"]) (SI : Df K mg "_sides_in" pSides fS fdS ["lines", "at", "ahead"])
    (GS : FnOk P w K mg base (L2N.CX P w) 3 fS fdS ["lines", "at", "ahead"] (spSidesX K C4)) : ∀ n, FnOk P w K mg base (L2N.CX P w) (n + 4) f fd ["lines", "at", "ahead"] (spTreeX K C4 n)
  | 0 => okN T.F scTreeAt (fun vs H Q E h => by obtain ⟨_, _, _, _, rfl, _⟩ := h; rfl) (fun cdv A outer s H vs Q E hr h => by obtain ⟨_, _, _, _, _, _, _, h1, h2, _⟩ := h; omega)
  | n + 1 => by
    have G := ok_treeX S C e4 T SI GS n
    have GE : FnOk P w K mg base CX0 1 fE fdE ["self", "at"] (spE0 C4 "at") := ok_err4X e4
    refine okN T.F scTreeAt (fun vs H Q E h => ?_) (fun cdv A outer s H vs Q E hr h => ?_)
    · obtain ⟨_, _, _, _, rfl, _⟩ := h
      rfl
    · obtain ⟨L, ls, i, a, rfl, hS, few, hi, hn, hal, q⟩ := h
      have hr3 : Room 3 _ := hr.mono (by omega)
      have hr2 : Room 2 _ := hr.mono (by omega)
      refine ⟨_, pss_cons (ps_if (PW.pt (pw_and (pt_cmpR op_lt (pv 1) (pe_callB call_len_seq (by rfl) S.len PySem.boot_len (pa_cons (pv 0) pa_nil)) (nomark _))
          (pw_and1 (pt_cmpR op_eq (pe_ix ix_list (pv 0) (pv 1) (fun _ _ => rfl)) (pe_op op_add_str (pv 2) (pe_glob (v := .str "so") rfl C.leaf ⟨_, rfl⟩)) (nomark _)))))
          (pss_one (ps_ret (pe_tup (pa_cons (pe_tup pa_nil) (pa_cons (pe_op op_add (pv 1) pe_int) pa_nil))))) pss_nil)
        (pss_cons (ps_asg (pe_call GS hr3 rfl SI.g SI.F.kp SI.b .nil (L2N.passes_call (L2N.takes_of rfl rfl rfl rfl) fun _ _ _ _ h => h) (pa_cons (pv 0) (pa_cons (pv 1) (pa_cons (pv 2) pa_nil)))) (pg_lst (by rfl) (pgs_cons (pg_name (i := 3) scTreeAt.nd rfl (.inl rfl)) (pgs_cons (pg_name (i := 4) scTreeAt.nd rfl (.inl rfl)) pgs_nil))))
        (pss_cons (ps_asg (pe_call G hr rfl T.g T.F.kp T.b .nil (L2N.passes_call (L2N.takes_of rfl rfl rfl rfl) fun _ _ _ _ h => h) (pa_cons (pv 0) (pa_cons (pe_op op_add (pv 1) pe_int) (pa_cons (pe_op op_add_str (pv 2) (pe_glob (v := .str "  ") rfl C.ind ⟨_, rfl⟩)) pa_nil)))) (pg_tup (by rfl) (pgs_cons (pg_name (i := 5) scTreeAt.nd rfl (.inl rfl)) (pgs_cons (pg_name (i := 6) scTreeAt.nd rfl (.inl rfl)) pgs_nil))))
        (pss_cons (ps_if (PW.pt (pw_or (pt_cmpR op_eq (pv 6) (pe_callB call_len_seq (by rfl) S.len PySem.boot_len (pa_cons (pv 0) pa_nil)) (nomark _))
          (pw_or1 (pt_cmpR op_ne (pe_ix ix_list (pv 0) (pv 6) (fun _ _ => rfl)) (pe_joined (.cons (pe_fmt (pv 2)) (.cons (pe_fmt (pv 4)) (.cons pe_str (.cons (pe_fmt (pv 3)) .nil))))) (nomark _)))))
          (pss_one (L2N.ps_raise rfl (L2N.takes_of rfl rfl rfl rfl) (pmk_errN e4.T e4.ini e4.ti GE hr2 e4.b rfl e4.g (pa_cons (pv 6) pa_nil)))) pss_nil)
        (pss_cons (ps_asg (pe_call G hr rfl T.g T.F.kp T.b .nil (L2N.passes_call (L2N.takes_of rfl rfl rfl rfl) fun _ _ _ _ h => h) (pa_cons (pv 0) (pa_cons (pe_op op_add (pv 6) pe_int) (pa_cons (pe_op op_add_str (pv 2) (pe_glob (v := .str "  ") rfl C.ind ⟨_, rfl⟩)) pa_nil)))) (pg_tup (by rfl) (pgs_cons (pg_name (i := 7) scTreeAt.nd rfl (.inl rfl)) (pgs_cons (pg_name (i := 6) scTreeAt.nd rfl (.inl rfl)) pgs_nil))))
        (pss_one (ps_ret (pe_tup (pa_cons (pe_tup (pa_cons (pv 3) (pa_cons (pv 4) (pa_cons (pv 5) (pa_cons (pv 7) pa_nil))))) (pa_cons (pv 6) pa_nil))))))))), ?_⟩
      have sz : (16777216 : Nat) ≤ sizeLine := by decide
      have e3 : (Str.ofString " < ").length = 3 := by decide +kernel
      have e2 : (Str.ofString "  ").length = 2 := by decide +kernel
      have es : (Str.ofString "so").length = 2 := by decide +kernel
      rw [rd_succ] at q
      refine ⟨_, rfl, _, rfl, L, _, rfl, .inl hS, _, _, rfl, rfl, _, rfl, ?_⟩
      rw [List.length_map]
      cases hx : ls[i]? with
      | none =>
        rw [hx] at q
        have hge := List.getElem?_eq_none_iff.mp hx
        rw [decide_eq_false (show ¬ (i : Int) < (ls.length : Nat) by omega)]
        refine iteF (iteF ?_)
        refine ⟨_, rfl, _, rfl, _, rfl, L, ls, i, a, rfl, hS, few, hi, by omega, ?_, fun _ => q⟩
        intro l r e
        unfold sidesAt at e
        rw [hx] at e
        cases e
      | some x =>
        rw [hx] at q
        have hlt := (List.getElem?_eq_some_iff.mp hx).1
        rw [decide_eq_true (show (i : Int) < (ls.length : Nat) by omega)]
        refine iteT ⟨_, rfl, _, rfl, L, _, _, _, rfl, rfl, hS, atI_nat (item_str hx), _, rfl, _, _, rfl, rfl, (by show a.length + (Str.ofString "so").length ≤ sizeLine; omega), rfl, _, rfl, ?_⟩
        by_cases hso : x = a ++ Str.ofString "so"
        · have q' : Told K C4 (.ok .leaf (i + 1)) H Q E := by
            simpa only [if_pos hso] using q
          rw [decide_eq_true (show V.str x = V.str (a ++ Str.ofString "so") by rw [hso])]
          refine iteT ⟨(by show 0 ≤ sizeLine; decide), fun p hp => ?_⟩
          refine ⟨_, rfl, _, _, rfl, rfl, (by show 2 ≤ sizeLine; decide), fun p2 hp2 => ?_⟩
          refine q' p2 (.ref p) _ ?_ (Tr.mkLeaf (same_new hp2 _ _ upd_same)) ((same_new hp).trans (same_new hp2))
          rw [upd_same]
          rfl
        simp only [if_neg hso] at q
        rw [decide_eq_false (show V.str x ≠ V.str (a ++ Str.ofString "so") from fun e => by injection e with e; exact hso e)]
        refine iteF ?_
        cases hsa : sidesAt ls i a with
        | none =>
          rw [hsa] at q
          refine ⟨_, rfl, _, rfl, _, rfl, L, ls, i, a, rfl, hS, few, hi, by omega, ?_, fun _ => q⟩
          intro l r e
          rw [hsa] at e
          cases e
        | some lr =>
          obtain ⟨l, r⟩ := lr
          rw [hsa] at q
          have hsi : sidesOf (behind x a) = some (l, r) := by
            have := sidesAt_at (a := a) hx
            rw [hsa] at this
            by_cases hs : Txt.startswith x a = true
            · rw [if_pos hs] at this
              exact this.symm
            · rw [if_neg hs] at this
              cases this
          have lx := few.len x (List.mem_of_getElem? hx)
          have hbl := behind_len x a
          obtain ⟨hsp, _, _⟩ := sides_of hsi
          have ll := split_len (behind x a) l (by rw [hsp]; simp)
          have lr := split_len (behind x a) r (by rw [hsp]; simp)
          refine ⟨_, rfl, _, rfl, _, rfl, L, ls, i, a, rfl, hS, few, hi, by omega, ?_, fun e => (by rw [hsa] at e; cases e)⟩
          intro l' r' e p1 H1 hp1 h1 s1
          rw [hsa] at e
          obtain ⟨rfl, rfl⟩ : l = l' ∧ r = r' := by
            have := Option.some.inj e
            cases this
            exact ⟨rfl, rfl⟩
          refine ⟨p1, _, rfl, SqL.of h1, rfl, _, _, rfl, _, _, rfl, rfl, ?_⟩
          refine ⟨_, rfl, _, rfl, _, _, rfl, rfl, _, rfl, _, _, rfl, rfl, (by show a.length + (Str.ofString "  ").length ≤ sizeLine; omega), L, ls, i + 1, _, rfl, s1.seq hS, few, by omega, by omega, (by rw [len_app, e2]; omega), ?_⟩
          cases hone : rd ls n (i + 1) (a ++ Str.ofString "  ") with
          | bad m =>
            have q' : Told K C4 (.bad m) H Q E := by simpa only [hone] using q
            exact Bad.same s1 q'
          | ok one stop =>
            simp only [hone] at q
            have r1 := rd_ok _ _ _ _ _ hone
            have r1l := r1.le
            have r1t := r1.lt
            intro p2 v2 H2 h2 dv2 s2
            refine ⟨p2, _, rfl, SqT.of h2, rfl, _, _, rfl, _, _, rfl, rfl, ?_⟩
            have s02 := s1.trans s2
            refine ⟨_, rfl, _, rfl, L, _, rfl, .inl (s02.seq hS), rfl, _, rfl, ?_⟩
            rw [List.length_map]
            cases hst : ls[stop]? with
            | none =>
              have hge := List.getElem?_eq_none_iff.mp hst
              have q' : Bad C4 stop H E := by
                rw [hst, if_neg (by simp)] at q
                exact q
              rw [decide_eq_true (show V.int (stop : Int) = V.int (ls.length : Nat) by rw [show stop = ls.length by omega])]
              refine iteT (iteT ⟨_, rfl, errX fun d H' s' hd nd => ?_⟩)
              exact q' d H' (s02.trans s') hd (s02.free nd)
            | some y =>
              have hlt2 := (List.getElem?_eq_some_iff.mp hst).1
              rw [decide_eq_false (show V.int (stop : Int) ≠ V.int (ls.length : Nat) from fun e => by injection e with e; omega)]
              refine iteF ⟨_, rfl, _, rfl, L, _, _, _, rfl, rfl, s02.seq hS, atI_nat (item_str hst), ?_⟩
              have le : (Str.empty ++ a).length = a.length := by rw [Str.empty_append]
              refine ⟨_, rfl, .inl ⟨_, rfl, by omega, _, rfl, by omega, ?_⟩⟩
              refine ⟨_, rfl, .inl ⟨_, rfl, by omega, _, rfl, (by rw [len_app]; omega), ?_⟩⟩
              refine ⟨_, rfl, (by rw [len_app, len_app, e3]; omega), ?_⟩
              refine ⟨_, rfl, .inl ⟨_, rfl, by omega, _, rfl, (by rw [len_app, len_app, len_app, e3]; omega), ?_⟩⟩
              refine ⟨rfl, _, rfl, ?_⟩
              rw [Str.empty_append]
              rw [hst] at q
              by_cases hy : y = a ++ r ++ Str.ofString " < " ++ l
              · rw [decide_eq_true (show V.str y = V.str (a ++ r ++ Str.ofString " < " ++ l) by rw [hy])]
                rw [if_pos (by rw [hy])] at q
                refine iteF ?_
                refine ⟨_, rfl, _, rfl, _, _, rfl, rfl, _, rfl, _, _, rfl, rfl, (by show a.length + (Str.ofString "  ").length ≤ sizeLine; omega), L, ls, stop + 1, _, rfl, s02.seq hS, few, by omega, by omega, (by rw [len_app, e2]; omega), ?_⟩
                cases hoth : rd ls n (stop + 1) (a ++ Str.ofString "  ") with
                | bad m =>
                  have q' : Told K C4 (.bad m) H Q E := by simpa only [hoth] using q
                  exact Bad.same s02 q'
                | ok other stop2 =>
                  simp only [hoth] at q
                  intro p3 v3 H3 h3 dv3 s3
                  refine ⟨p3, _, rfl, SqT.of h3, rfl, _, _, rfl, _, _, rfl, rfl, ?_⟩
                  refine ⟨_, rfl, _, rfl, _, rfl, _, rfl, (by show 4 ≤ sizeLine; decide), fun p4 hp4 => ⟨_, rfl, (by show 2 ≤ sizeLine; decide), fun p5 hp5 => ?_⟩⟩
                  have s45 : Same H3 (upd (upd H3 p4 (.tup [.str l, .str r, v2, v3])) p5 (.tup [.ref p4, .int (stop2 : Nat)])) := (same_new hp4).trans (same_new hp5)
                  exact q p5 (.ref p4) _ upd_same (Tr.mkNode (same_new hp5 _ _ upd_same) (Dp.same (s3.trans s45) dv2) (Dp.same s45 dv3)) ((s02.trans s3).trans s45)
              · rw [decide_eq_false (show V.str y ≠ V.str (a ++ r ++ Str.ofString " < " ++ l) from fun e => by injection e with e; exact hy e)]
                have q' : Bad C4 stop H E := by
                  rw [if_neg (fun e => hy (Option.some.inj e))] at q
                  exact q
                refine iteT ⟨_, rfl, errX fun d H' s' hd nd => ?_⟩
                exact q' d H' (s02.trans s') hd (s02.free nd)
theorem scRead : FnScope ["text", "lines", "found", "stop"] ["text"] (defScope pRead) := ⟨rfl, rfl, rfl, by decide +kernel, rfl, by decide +kernel, by decide +kernel⟩
end
/-- the lines of a text -/
def linesOf (z : Str) : List Str := Txt.split z (Str.ofString "\n")
/-- what a text is read as: a tree, or the line that is refused -/
def rdT (z : Str) : Rd := match rd (linesOf z) 32 0 (Str.ofString "") with
  | .bad m => .bad m
  | .ok t stop => if stop = (linesOf z).length then .ok t stop else .bad stop
/-- a text that is short enough -/
structure FewT (z : Str) : Prop where
  len : z.length ≤ 100000
  many : (linesOf z).length ≤ 31
theorem spl1_len : ∀ (l acc : List Nat), ∀ p, p ∈ TL.spl [10] 0 acc l → p.length ≤ acc.length + l.length
  | [], acc, p, hp => by
    rw [TL.spl_nil] at hp
    rw [List.mem_singleton.mp hp]
    exact Nat.le_add_right _ _
  | c :: r, acc, p, hp => by
    by_cases hc : TL.pre [10] (c :: r) = true
    · rw [TL.spl_hit hc] at hp
      rcases List.mem_cons.mp hp with rfl | hp
      · exact Nat.le_add_right _ _
      · have := spl1_len r [] p hp
        rw [List.length_cons]
        rw [List.length_nil] at this
        omega
    · rw [TL.spl_miss (by simpa using hc)] at hp
      have := spl1_len r _ p hp
      rw [List.length_append] at this
      rw [List.length_cons]
      simp at this
      omega
theorem FewT.few {z : Str} (h : FewT z) : Few (linesOf z) := by
  refine ⟨h.many, fun s hs => ?_⟩
  have := spl1_len (TL.tl z) [] (TL.tl s) (by rw [← split_spl1]; exact List.mem_map_of_mem hs)
  rw [← TL.len_tl, ← TL.len_tl] at this
  have := h.len
  simp at *
  omega
def spReadX (K : PySem.W.Frag) (C4 : Addr) : Sp := fun vs H Q E => ∃ z, vs = [.str z] ∧ FewT z ∧ (match rdT z with
  | .bad m => Bad C4 m H E
  | .ok t _ => ∀ v H', Dp K H' v t.enc → Same H H' → Q v H')
section
variable {P : Program} {w : World} {K : PySem.W.Frag} {mg : Str → Option Value} {base : Heap} {t1 t2 : Tok}
theorem ok_readX {f fT fE C4 : Addr} {fd fdT fdE : FuncData} (S : Std mg) (e4 : Er K mg 4 C4 fE fdE) (F : Fun K "read_tree" "read_tree" pRead f fd) (TA : Df K mg "_tree_at" pTreeAt fT fdT ["lines", "at", "ahead"]) (GT : FnOk P w K mg base (L2N.CX P w) 36 fT fdT ["lines", "at", "ahead"] (spTreeX K C4 32)) : FnOk P w K mg base (L2N.CX P w) 37 f fd ["text"] (spReadX K C4) := by
  have GE : FnOk P w K mg base CX0 1 fE fdE ["self", "at"] (spE0 C4 "at") := ok_err4X e4
  refine okN F scRead (fun vs H Q E h => ?_) (fun cdv A outer s H vs Q E hr h => ?_)
  · obtain ⟨_, rfl, _⟩ := h
    rfl
  · obtain ⟨z, rfl, few, q⟩ := h
    have hr2 : Room 2 _ := hr.mono (by decide)
    refine ⟨_, pss_cons (ps_set (i := 1) scRead.nd rfl (Or.inl rfl) (pe_split (pv 0) pe_str))
      (pss_cons (ps_asg (pe_call GT hr rfl TA.g TA.F.kp TA.b .nil (L2N.passes_call (L2N.takes_of rfl rfl rfl rfl) fun _ _ _ _ h => h) (pa_cons (pv 1) (pa_cons pe_int (pa_cons pe_str pa_nil)))) (pg_tup (by rfl) (pgs_cons (pg_name (i := 2) scRead.nd rfl (.inl rfl)) (pgs_cons (pg_name (i := 3) scRead.nd rfl (.inl rfl)) pgs_nil))))
      (pss_cons (ps_if (pt_cmpR op_ne (pv 3) (pe_callB call_len_seq (by rfl) S.len PySem.boot_len (pa_cons (pv 1) pa_nil)) (nomark _))
        (pss_one (L2N.ps_raise rfl (L2N.takes_of rfl rfl rfl rfl) (pmk_errN e4.T e4.ini e4.ti GE hr2 e4.b rfl e4.g (pa_cons (pv 3) pa_nil)))) pss_nil)
      (pss_one (ps_ret (pv 2))))), ?_⟩
    have e0 : (Str.ofString "").length = 0 := by decide +kernel
    have sz : (16777216 : Nat) ≤ sizeLine := by decide
    have zl := few.len
    refine ⟨_, rfl, ⟨_, rfl⟩, _, _, rfl, rfl, by decide +kernel, by omega, fun p hp => ?_⟩
    have s1 : Same H (upd H p (.lst ((linesOf z).map V.str))) := same_new hp
    have h1 : (upd H p (.lst ((linesOf z).map V.str))) p = some (.lst ((linesOf z).map V.str)) := upd_same
    have hfew := few.few
    have hmany := few.many
    unfold rdT at q
    show (tSeq _ _ _ _ (upd H p (.lst ((linesOf z).map V.str))))
    generalize (upd H p (.lst ((linesOf z).map V.str))) = H1 at s1 h1 ⊢
    refine ⟨_, rfl, p, linesOf z, 0, Str.ofString "", rfl, SqL.of h1, hfew, Nat.zero_le _, by omega, by rw [e0]; omega, ?_⟩
    cases hr : rd (linesOf z) 32 0 (Str.ofString "") with
    | bad m =>
      simp only [hr] at q
      exact Bad.same s1 q
    | ok t stop =>
      simp only [hr] at q
      intro p2 v2 H2 h2 dv2 s2
      refine ⟨p2, _, rfl, SqT.of h2, rfl, _, _, rfl, _, _, rfl, rfl, ?_⟩
      refine ⟨_, rfl, _, rfl, p, _, rfl, .inl (s2.seq (SqL.of h1)), rfl, _, rfl, ?_⟩
      rw [List.length_map]
      by_cases he : stop = (linesOf z).length
      · simp only [if_pos he] at q
        rw [decide_eq_true (show V.int (stop : Nat) = V.int ((linesOf z).length : Nat) by rw [he])]
        refine iteF ⟨_, rfl, ?_⟩
        exact q _ _ dv2 (s1.trans s2)
      · simp only [if_neg he] at q
        rw [decide_eq_false (show V.int (stop : Nat) ≠ V.int ((linesOf z).length : Nat) from fun e => by injection e with e; omega)]
        refine iteT ⟨_, rfl, errX fun d H' s' hd nd => ?_⟩
        exact q d H' ((s1.trans s2).trans s') hd ((s1.trans s2).free nd)
end
end LK

/-! operations on instances of own classes that have a method for them -/
namespace LR
open PySem PySem.Spec PyProof.Rows L2
section
variable {X : Cx} {CX : CXT} {n : Nat} {f C : Addr} {fd : FuncData} {ps : List Str} {sp : Sp} {E : XK}
/-- a def called somewhere below the running body -/
theorem call_run {A : Around} {pins : List (Addr × Obj)} {σ : L2.St} {H : Hp} {s : Shared} {vs : List V} {us : List Value} {Q : VK} (sb : Sub X n A) (F : FnOk X.prog X.w X.K X.mg X.base CX n f fd ps sp) (hb : Binds X.K fd ps []) (hx : Passes CX X E)
    (I : Inv X pins σ H s) (r : Vals vs us) (h : sp vs H Q E) : wpAny (model X.prog X.w) A (call (.ref f) us) (EP X pins σ Q) X.xe s := by
  have e0 : Env0 X.prog X.w X.K X.mg X.base A X.stack s H := by
    have e := I.env0
    exact ⟨by rw [sb.fr]; exact e.frames, e.mod, e.bs, e.bsz, e.funs, e.frf, e.hok, e.bare⟩
  have hl := F.len _ _ _ _ h
  have hl2 : us.length = ps.length := by rw [← r.length, hl]
  refine wpAny_call (codeAny_mono (F.run A X.stack s H ⟨us, []⟩ us vs Q E sb.room e0 (by
    have z := hb s us I.kIn (by simpa using hl2)
    simpa using z) r h) fun res s' hq => ?_)
  cases res with
  | error e => exact hx pins σ H s e s' I hq
  | ok fl =>
    cases fl with
    | ret v => exact I.after hq
    | next => exact False.elim hq
    | brk => exact False.elim hq
    | cont => exact False.elim hq
theorem vals1r {a : Addr} {us : List Value} (r : Vals [V.ref a] us) : us = [.ref a] := by
  cases r with
  | cons r1 r2 =>
    cases r2
    cases r1
    rfl
/-- len(x) by an own __len__ -/
theorem call_lenOwn (F : FnOk X.prog X.w X.K X.mg X.base CX n f fd ps sp) (hs : PySem.W.findIn X.K (.ref C) "__len__" = some (some (.ref f))) (hf : PySem.W.isFn X.K (.ref f) = true) (hb : Binds X.K fd ps []) (hx : Passes CX X E) (hr : Room (n + 1) X.A) :
    CallR X (.builtin "len") (fun xs H Q => ∃ a dx fs, xs = [V.ref a] ∧ H a = some (.ins C dx fs) ∧ sp [V.ref a] H (fun v H' => ∃ k : Nat, v = .int k ∧ k < 4611686018427387904 ∧ Q (.int k) H') E) := by
  intro pins s σ H xs us Q I r h
  obtain ⟨a, dx, fs, rfl, ha, h⟩ := h
  have e := vals1r r
  subst e
  obtain ⟨mA, J, _⟩ := ins_get I.hok ha
  obtain ⟨od, J, _⟩ := J.look
  obtain ⟨m, hF⟩ := I.fr
  refine PySem.W.len_K hF I.ok.mod.kin J hs hf ?_
  refine wpAny_mono (call_run (A := X.A.in1) ⟨hr.in1, rfl⟩ F hb hx I (.cons (show RelV (V.ref a) (Value.ref a) from rfl) .nil) h) (fun v s' q => ?_) fun _ _ z => z
  obtain ⟨y, H', I', ry, k, rfl, hk, q⟩ := q
  obtain ⟨t, rfl⟩ := ry
  exact ⟨⟨by omega, by omega⟩, .int k, H', I'.tok _, ⟨_, rfl⟩, q⟩
/-- what an own operator must give -/
def NotNI (v : V) : Prop := True
/-- x == y by an own __eq__ of x's class -/
theorem op_eqOwn (F : FnOk X.prog X.w X.K X.mg X.base CX n f fd ps sp) (hs : PySem.W.findIn X.K (.ref C) "__eq__" = some (some (.ref f))) (hf : PySem.W.isFn X.K (.ref f) = true) (hb : Binds X.K fd ps []) (hx : Passes CX X E) (hr : Room n X.A) :
    OpR X (compareOp .Eq) (fun x y H Q => ∃ a dx fs t, x = V.ref a ∧ H a = some (.ins C dx fs) ∧ TyX X.K H y t ∧ PySem.W.notFirst X.K C t = true ∧ sp [V.ref a, y] H (fun v H' => ∃ b, v = .bl b ∧ Q (.bl b) H') E) := by
  intro pins s σ H x y v u Q I rx ry h
  obtain ⟨a, dx, fs, t, rfl, ha, ty, hn, h⟩ := h
  cases rx
  obtain ⟨mA, J, _⟩ := ins_get I.hok ha
  obtain ⟨od, J, _⟩ := J.look
  obtain ⟨m, hF⟩ := I.fr
  obtain ⟨Pk, Z, pk, _⟩ := kit_of I ry ty
  show wpAny (model X.prog X.w) X.A (richCompare .Eq (.ref a) u) (EP X pins σ Q) X.xe s
  refine PySem.W.cmp_K (op := .Eq) (tb := t) hr.units0 hF I.ok.mod.kin J (Z.ty _ _ I.kIn pk) hn hs hf ?_
  refine wpAny_mono (call_run (A := X.A) ⟨hr, rfl⟩ F hb hx I (.cons (show RelV (V.ref a) (Value.ref a) from rfl) (.cons ry .nil)) h) (fun v s' q => ?_) fun _ _ z => z
  obtain ⟨y', H', I', ry', b, rfl, q⟩ := q
  cases ry'
  exact ⟨.bl b, H', I', rfl, q⟩
end
end LR

/-! a list and an empty list compared: == says whether the first is empty, whatever it holds -/
namespace PySem.SeqAt
open AutoSeq1 (wpAny_loadPart')
open MeetsSeq MeetsSeq2 MeetsSeq3 SeqRoads2
section
variable {prog : Program} {w : World} {dd dd2 : Option Addr}
theorem lr_list_lenIn (l b : Addr) (items items2 : Array Value) (n n2 : Nat) (sl sl2 : Array (Option Value)) (hsz : items.size ≠ items2.size) :
    MeetsIn prog w (Builtin.«list.__eq__» ⟨[.ref l, .ref b], []⟩)
      (fun A R s => s.heap.get? l = some { cls := .type "list", dict := dd, data := .seq items n, slots := sl } ∧ s.heap.get? b = some { cls := .type "list", dict := dd2, data := .seq items2 n2, slots := sl2 } ∧
        R (.ok (.ret (.bool false))) s) := by
  intro A R s h
  obtain ⟨hp, g, d, tk, os⟩ := s; obtain ⟨hl, hb, h⟩ := h
  have f3 := AutoSeq1.sub_list_list
  have hne : (items.size != items2.size) = true := by simpa using hsz
  wp_walk using wpAny_loadPart' hl, wpAny_loadPart' hb
  exact h
theorem lr_rcP_len {A : Around} {s : Shared} {l b : Addr} {items items2 : Array Value} (hl : s.heap.IsList l items) (hb : s.heap.IsList b items2) (hsz : items.size ≠ items2.size) (hu : A.units < cLine)
    (E Q : Value → Shared → Prop) (h : Q (.bool false) s) : wpAny (model prog w) A (richCompare .Eq (.ref l) (.ref b)) Q E s := by
  obtain ⟨⟨cls, dd, data, sl⟩, ho, hc, n, hd⟩ := id hl
  obtain ⟨⟨cls2, dd2, data2, sl2⟩, ho2, hc2, n2, hd2⟩ := id hb
  simp only at hc hd hc2 hd2
  subst hc hd hc2 hd2
  have ta : s.TypeIs (.ref l) "list" := ⟨_, ho, rfl⟩
  have tb : s.TypeIs (.ref b) "list" := ⟨_, ho2, rfl⟩
  exact wpAny_richCompare_same_room (op := .Eq) ta tb F.slot_list_eq (call_meetsIn F.slot_list_eq ta F.entry_list_eq (F.args_list_eq_2 _ _) (lr_list_lenIn l b items items2 n n2 sl sl2 hsz)
    ⟨ho, ho2, show Value.bool false ≠ Value.notImplemented ∧ Q (.bool false) s from ⟨(fun x => nomatch x), h⟩⟩) hu
end
end PySem.SeqAt
namespace LR
open PySem PySem.Spec PyProof.Rows L2
section
variable {X : Cx}
def rEqEnd : R2 := fun x y H Q => ∃ a b xs, x = .ref a ∧ y = .ref b ∧ H a = some (.lst xs) ∧ H b = some (.lst []) ∧ Q (.bl xs.isEmpty) H
theorem op_eqEnd (hu : X.A.units < cLine) : OpR X (compareOp .Eq) rEqEnd := by
  intro pins s σ H x y v u Q I rx ry h
  obtain ⟨a, b, xs, rfl, rfl, ha, hb, q⟩ := h
  cases (show v = Value.ref a from rx)
  cases (show u = Value.ref b from ry)
  obtain ⟨us, r1, p1, _⟩ := I.list (SqL.of ha)
  obtain ⟨ws, r2, p2, _⟩ := I.list (SqL.of hb)
  cases r2
  cases xs with
  | nil =>
    cases r1
    refine SeqAt.rcP_lists (e := fun _ => true) p1.isList p2.isList rfl hu (fun j h1 h2 => absurd h1 (by simp)) _ _ ⟨.bl true, H, I, rfl, q⟩
  | cons x r =>
    cases r1 with
    | cons r0 r1 => exact SeqAt.lr_rcP_len p1.isList p2.isList (by simp) hu _ _ ⟨.bl false, H, I, rfl, q⟩
end
end LR

namespace LK
open PySem PySem.Spec PyProof.Rows L2 LR
def spIsSide : Sp := fun vs H Q _ => ∃ z : Str, vs = [.str z] ∧ z.length ≤ 100000 ∧ ∀ H', Same H H' → Q (.bl (mayB z)) H'
theorem bads_take {z : Str} {j c : Nat} (h : z.cps[j]? = some c) : ((TL.tl z).take (j + 1)).filter (fun c => c == 60 || c == 61) = ((TL.tl z).take j).filter (fun c => c == 60 || c == 61) ++ (if (c == 60 || c == 61) = true then [c] else []) := by
  have h' : (TL.tl z)[j]? = some c := by
    show z.cps.toList[j]? = _
    rw [Array.getElem?_toList, h]
  rw [List.take_add_one, h', List.filter_append]
  congr 1
  show List.filter _ [c] = _
  rw [List.filter_cons]
  rfl
theorem in_two (c : Nat) : inV (V.str ⟨#[c]⟩) [V.str (Str.ofString "<"), V.str (Str.ofString "=")] = (c == 60 || c == 61) := by
  have e1 : Str.ofString "<" = ⟨#[60]⟩ := by decide +kernel
  have e2 : Str.ofString "=" = ⟨#[61]⟩ := by decide +kernel
  rw [e1, e2]
  have key : ∀ a b : Nat, ((⟨#[a]⟩ : Str) = ⟨#[b]⟩) ↔ a = b := fun a b => ⟨fun e => by
    injection e with e
    have := congrArg Array.toList e
    simpa using this, fun e => by rw [e]⟩
  unfold inV
  simp only [List.any_cons, List.any_nil, Bool.or_false]
  have k : ∀ a b : Nat, eqV (V.str ⟨#[a]⟩) (V.str ⟨#[b]⟩) = (a == b) := fun a b => by
    by_cases h : a = b
    · subst h
      simp [eqV]
    · have h' : ¬ ((⟨#[a]⟩ : Str) = ⟨#[b]⟩) := fun e => h ((key a b).mp e)
      rw [beq_eq_false_iff_ne.mpr h]
      show ((⟨#[a]⟩ : Str) == ⟨#[b]⟩) = false
      exact beq_eq_false_iff_ne.mpr h'
  have sy : ∀ a b : Nat, (a == b) = (b == a) := fun a b => by
    rw [Bool.eq_iff_iff, beq_iff_eq, beq_iff_eq]
    exact ⟨Eq.symm, Eq.symm⟩
  first
    | rw [k, k]
    | rw [k, k, sy c, sy c]
  try rw [sy 60, sy 61]
section
variable {P : Program} {w : World} {K : PySem.W.Frag} {mg : Str → Option Value} {base : Heap}
def nIsSide : List Str := ["_law_text", "_law_signs", "_law_sign_here"]
theorem scIsSide : FnScope nIsSide ["_law_text"] (defScope sIsSide) := ⟨rfl, rfl, rfl, by decide +kernel, rfl, by decide +kernel, by decide +kernel⟩
theorem ok_isSide {f : Addr} {fd : FuncData} (S : Std mg) (T : Df K mg "_law_is_side" sIsSide f fd ["_law_text"]) : FnOk P w K mg base CX0 1 f fd ["_law_text"] spIsSide := by
  refine T.F.ok scIsSide (fun vs H Q E h => ?_) (fun cdv A outer s H vs Q E hr h => ?_)
  · obtain ⟨_, rfl, _⟩ := h
    rfl
  · obtain ⟨z, rfl, hz, q⟩ := h
    refine ⟨_, pss_cons (ps_setLc (i := 1) (own := [("_law_sign_here", 2)]) (g := gName 2) (tt := tTest (tOp (rIn K false) (tVar 2) (tTup (tCons (tC (.str "<")) (tCons (tC (.str "=")) tNil))))) rfl scIsSide.nd rfl rfl (sw_true rfl rfl rfl (by decide +kernel))
        (pi_str (pv 0)) (blkOk_by (N := nIsSide) (sc := defScope sIsSide) (by decide +kernel)) (fun _ _ _ _ _ => pg_name (i := 2) scIsSide.nd rfl (Or.inl rfl)) (fun _ _ _ _ _ => pts_one (pt_cmpR op_in_seq (pv 2) (pe_tup (pa_cons pe_str (pa_cons pe_str pa_nil))) (by rfl)))
        (fun _ _ _ _ _ => pv 2))
      (pss_one (ps_ret (pe_and (pe_cmpR op_ne (pv 0) pe_str (nomark _)) (pe_and (pe_cmpR (op_eqEnd hr.units0) (pv 1) (pe_lst pa_nil) (nomark _)) (pe_and (pe_cmpR op_ne (pe_slice sl_str (pv 0) po_none (po_some pe_int)) pe_str (nomark _))
        (pe_one (pe_cmpR op_ne (pe_ix ix_str (pv 0) (pe_op op_sub (pe_callB call_len_str (by rfl) S.len PySem.boot_len (pa_cons (pv 0) pa_nil)) pe_int) (fun _ _ => rfl)) pe_str (nomark _)))))))), ?_⟩
    have sz : (16777216 : Nat) ≤ sizeLine := by decide
    refine ⟨_, rfl, _, rfl, fun D hD => ?_⟩
    refine lc_it (walk_str (z := z)) (fun i H1 => Keep D H H1 ∧ H1 D = some (.lst ((((TL.tl z).take i).filter fun c => c == 60 || c == 61).map fun c => V.str ⟨#[c]⟩))) ⟨Keep.new hD, upd_same⟩ (fun _ _ _ _ => trivial) ?_ ?_
    · rintro i x H1 H1' hi ⟨k1, d1⟩ ⟨rfl, c, hc, rfl⟩
      refine ⟨rfl, _, rfl, (by show 2 ≤ sizeLine; decide), fun T hT => ⟨T, _, rfl, .inr (SqT.of upd_same), rfl, rfl, _, rfl, ?_⟩⟩
      have nTD : D ≠ T := ne_of_none d1 hT
      have s1 := same_new (o := .tup [V.str (Str.ofString "<"), V.str (Str.ofString "=")]) hT
      have hb := bads_take (z := z) hc
      show (if inV (V.str ⟨#[c]⟩) [V.str (Str.ofString "<"), V.str (Str.ofString "=")] = true then _ else _)
      rw [in_two]
      cases hcc : (c == 60 || c == 61) with
      | true =>
        rw [hcc] at hb
        refine iteT ⟨_, rfl, _, s1 _ _ d1, ?_, fun b o n e => by rw [upd_ne n]; exact s1 _ _ (k1 b o n e), ?_⟩
        · rw [List.length_map]
          have h1 := List.length_filter_le (fun c => c == 60 || c == 61) ((TL.tl z).take i)
          have h2 := List.length_take_le i (TL.tl z)
          have h3 : i < z.length := hi
          omega
        · rw [upd_same, hb, List.map_append]
          rfl
      | false =>
        rw [hcc] at hb
        refine iteF ⟨fun b o n e => s1 _ _ (k1 b o n e), ?_⟩
        rw [hb, s1 _ _ d1]
        simp
    · rintro H1 ⟨k1, d1⟩
      have kk : Same H H1 := fun b o e => k1 b o (ne_of_none e hD) e
      have ht : (TL.tl z).take z.cps.size = TL.tl z := List.take_of_length_le (by rw [← TL.len_tl]; exact Nat.le_refl _)
      rw [ht] at d1
      have d1' : H1 D = some (.lst ((bads z).map V.str)) := by
        rw [d1]
        unfold bads
        rw [List.map_map]
        rfl
      refine ⟨_, rfl, rfl, _, rfl, ?_⟩
      by_cases hz0 : z = Str.ofString ""
      · rw [decide_eq_true (show V.str z = V.str (Str.ofString "") by rw [hz0])]
        refine iteF ?_
        have := q H1 kk
        rw [hz0, may_empty] at this
        exact this
      rw [decide_eq_false (show V.str z ≠ V.str (Str.ofString "") from fun e => by injection e with e; exact hz0 e)]
      have hne : TL.tl z ≠ [] := fun e => hz0 (TL.ext_tl (by rw [e]; decide +kernel))
      obtain ⟨c, r, e1⟩ := List.exists_cons_of_ne_nil hne
      have e2 := (List.dropLast_concat_getLast hne).symm
      generalize (TL.tl z).dropLast = m at e2
      generalize (TL.tl z).getLast hne = d at e2
      have hm := may_iff e1 e2
      have hzl : 0 < z.length := by rw [TL.len_tl, e1]; exact Nat.zero_lt_succ _
      refine iteT ⟨_, rfl, (by show 0 ≤ sizeLine; decide), fun e he => ⟨D, e, _, rfl, rfl, same_new he _ _ d1', upd_same, ?_⟩⟩
      have s2 := kk.trans (same_new (o := .lst []) he)
      generalize (upd H1 e (.lst [])) = H2 at s2 ⊢
      refine ⟨_, rfl, ?_⟩
      have no : ∀ H', Same H H' → mayB z = false → Q (.bl false) H' := fun H' s' h => by
        have := q H' s'
        rw [h] at this
        exact this
      by_cases hb : bads z = []
      · rw [hb]
        refine iteT ⟨_, rfl, _, rfl, z, rfl, by omega, rfl, _, rfl, ?_⟩
        have ec : cutS z none (some 1) = ⟨#[c]⟩ := by
          refine TL.ext_tl ?_
          unfold cutS
          show ((TL.tl z).drop _).take _ = _
          rw [HT.sIx_none, show (some (1 : Int)) = some ((1 : Nat) : Int) from rfl, HT.sIx_nat, Nat.min_eq_left hzl, List.drop_zero, e1]
          rfl
        have eb : Str.ofString " " = ⟨#[32]⟩ := by decide +kernel
        have sing : ∀ a : Nat, (⟨#[a]⟩ : Str) = Str.ofString " " ↔ a = 32 := fun a => by
          rw [eb]
          exact ⟨fun e => by
            injection e with e
            have := congrArg Array.toList e
            simpa using this, fun e => by rw [e]⟩
        rw [ec]
        by_cases hc : c = 32
        · rw [decide_eq_true (show V.str ⟨#[c]⟩ = V.str (Str.ofString " ") by rw [(sing c).mpr hc])]
          refine iteF (no _ s2 ?_)
          rw [← Bool.not_eq_true, hm]
          exact fun h => h.2.1 hc
        rw [decide_eq_false (show V.str ⟨#[c]⟩ ≠ V.str (Str.ofString " ") from fun e => by injection e with e; exact hc ((sing c).mp e))]
        refine iteT ⟨_, rfl, _, rfl, z, rfl, by omega, _, _, rfl, rfl, _, _, d, rfl, rfl, by omega, ?_, rfl, ?_⟩
        · show atI (TL.tl z) ((z.length : Int) - 1) = some d
          rw [show ((z.length : Int) - 1) = ((z.length - 1 : Nat) : Int) by omega]
          refine atI_nat ?_
          rw [TL.len_tl z, e2]
          simp
        · have fin := q H2 s2
          by_cases hd : d = 32
          · rw [decide_eq_true (show V.str ⟨#[d]⟩ = V.str (Str.ofString " ") by rw [(sing d).mpr hd])]
            refine no _ s2 ?_
            rw [← Bool.not_eq_true, hm]
            exact fun h => h.2.2 hd
          · rw [decide_eq_false (show V.str ⟨#[d]⟩ ≠ V.str (Str.ofString " ") from fun e => by injection e with e; exact hd ((sing d).mp e))]
            rw [hm.mpr ⟨hb, hc, hd⟩] at fin
            exact fin
      · have : (bads z).isEmpty = false := by
          cases h : bads z with
          | nil => exact absurd h hb
          | cons _ _ => rfl
        rw [List.isEmpty_map, this]
        refine iteF (no _ s2 ?_)
        rw [← Bool.not_eq_true, hm]
        exact fun h => hb h.1
end
end LK

namespace LK
open PySem PySem.Spec PyProof.Rows L2 LR
/-! ### the law's own reading -/
def ToldL (K : PySem.W.Frag) (r : Rd) (H : Hp) (Q : V → Hp → Prop) : Prop := match r with
  | .bad m => ∀ p H', H' p = some (.tup [.str "bad", .int (m : Nat), .int 0]) → Same H H' → Q (.ref p) H'
  | .ok t stop => ∀ p v H', H' p = some (.tup [.str "tree", v, .int (stop : Nat)]) → Dp K H' v t.enc → Same H H' → Q (.ref p) H'
theorem ToldL.same {K : PySem.W.Frag} {r : Rd} {H H1 : Hp} {Q : V → Hp → Prop} (s : Same H H1) (h : ToldL K r H Q) : ToldL K r H1 Q := by
  cases r with
  | bad m => exact fun p H' hp s' => h p H' hp (s.trans s')
  | ok t stop => exact fun p v H' hp d s' => h p v H' hp d (s.trans s')
def spBranch (K : PySem.W.Frag) (n : Nat) : Sp := fun vs H Q _ => ∃ (L : Addr) (ls : List Str) (i : Nat) (a : Str), vs = [.ref L, .int i, .str a] ∧ SqL K H L (ls.map V.str) ∧ Few ls ∧ i ≤ ls.length ∧ ls.length < i + n ∧ a.length + 2 * n ≤ 1000 ∧
  ToldL K (rd ls n i a) H Q
theorem bad_mk {K : PySem.W.Frag} {m : Nat} {H : Hp} {Q : V → Hp → Prop} (h : ToldL K (.bad m) H Q) : 3 ≤ sizeLine ∧ ∀ p, H p = none → Q (.ref p) (upd H p (.tup [.str "bad", .int (m : Nat), .int 0])) :=
  ⟨by decide, fun p hp => h p _ upd_same (same_new hp)⟩
section
variable {P : Program} {w : World} {K : PySem.W.Frag} {mg : Str → Option Value} {base : Heap} {t1 t2 : Tok}
def nBranch : List Str := ["_law_lines", "_law_at", "_law_ahead", "_law_rest", "_law_sides", "_law_one", "_law_other"]
theorem scBranch : FnScope nBranch ["_law_lines", "_law_at", "_law_ahead"] (defScope sBranch) := ⟨rfl, rfl, rfl, by decide +kernel, rfl, by decide +kernel, by decide +kernel⟩
theorem ok_branch {f fI : Addr} {fd fdI : FuncData} (S : Std mg) (T : Df K mg "_law_branch" sBranch f fd ["_law_lines", "_law_at", "_law_ahead"]) (IS : Df K mg "_law_is_side" sIsSide fI fdI ["_law_text"]) : ∀ n, FnOk P w K mg base CX0 (n + 2) f fd ["_law_lines", "_law_at", "_law_ahead"] (spBranch K n)
  | 0 => T.F.ok scBranch (fun vs H Q E h => by obtain ⟨_, _, _, _, rfl, _⟩ := h; rfl) (fun cdv A outer s H vs Q E hr h => by obtain ⟨_, _, _, _, _, _, _, h1, h2, _⟩ := h; omega)
  | n + 1 => by
    have G := ok_branch S T IS n
    have GI : FnOk P w K mg base CX0 1 fI fdI ["_law_text"] spIsSide := ok_isSide S IS
    refine T.F.ok scBranch (fun vs H Q E h => ?_) (fun cdv A outer s H vs Q E hr h => ?_)
    · obtain ⟨_, _, _, _, rfl, _⟩ := h
      rfl
    · obtain ⟨L, ls, i, a, rfl, hS, few, hi, hn, hal, q⟩ := h
      have hr1 : Room 1 _ := hr.mono (by omega)
      refine ⟨_, pss_cons (ps_if (pt_cmpR op_ge (pv 1) (pe_callB call_len_seq (by rfl) S.len PySem.boot_len (pa_cons (pv 0) pa_nil)) (nomark _))
          (pss_one (ps_ret (pe_tup (pa_cons pe_str (pa_cons (pe_callB call_len_seq (by rfl) S.len PySem.boot_len (pa_cons (pv 0) pa_nil)) (pa_cons pe_int pa_nil)))))) pss_nil)
        (pss_cons (ps_if (pt_cmpR op_ne (pe_slice sl_str (pe_ix ix_list (pv 0) (pv 1) (fun _ _ => rfl)) po_none (po_some (pe_callB call_len_str (by rfl) S.len PySem.boot_len (pa_cons (pv 2) pa_nil)))) (pv 2) (nomark _))
          (pss_one (ps_ret (pe_tup (pa_cons pe_str (pa_cons (pv 1) (pa_cons pe_int pa_nil)))))) pss_nil)
        (pss_cons (ps_set (i := 3) scBranch.nd rfl (Or.inl rfl) (pe_slice sl_str (pe_ix ix_list (pv 0) (pv 1) (fun _ _ => rfl)) (po_some (pe_callB call_len_str (by rfl) S.len PySem.boot_len (pa_cons (pv 2) pa_nil))) po_none))
        (pss_cons (ps_if (pt_cmpR op_eq (pv 3) pe_str (nomark _)) (pss_one (ps_ret (pe_tup (pa_cons pe_str (pa_cons (pe_tup pa_nil) (pa_cons (pe_op op_add (pv 1) pe_int) pa_nil)))))) pss_nil)
        (pss_cons (ps_set (i := 4) scBranch.nd rfl (Or.inl rfl) (pe_split (pv 3) pe_str))
        (pss_cons (ps_if (PW.pt (pw_or (pt_cmpR op_ne (pe_callB call_len_seq (by rfl) S.len PySem.boot_len (pa_cons (pv 4) pa_nil)) pe_int (nomark _))
          (pw_or (pt_not (pt_val (pe_call GI hr1 rfl IS.g IS.F.kp IS.b .nil pass0 (pa_cons (pe_ix ix_list (pv 4) pe_int (fun _ _ => rfl)) pa_nil))))
            (pw_or1 (pt_not (pt_val (pe_call GI hr1 rfl IS.g IS.F.kp IS.b .nil pass0 (pa_cons (pe_ix ix_list (pv 4) pe_int (fun _ _ => rfl)) pa_nil))))))))
          (pss_one (ps_ret (pe_tup (pa_cons pe_str (pa_cons (pv 1) (pa_cons pe_int pa_nil)))))) pss_nil)
        (pss_cons (ps_set (i := 5) scBranch.nd rfl (Or.inl rfl) (pe_call G hr rfl T.g T.F.kp T.b .nil pass0 (pa_cons (pv 0) (pa_cons (pe_op op_add (pv 1) pe_int) (pa_cons (pe_op op_add_str (pv 2) pe_str) pa_nil)))))
        (pss_cons (ps_if (pt_cmpR op_eq (pe_ix ix_tup (pv 5) pe_int (fun _ _ => rfl)) pe_str (nomark _)) (pss_one (ps_ret (pv 5))) pss_nil)
        (pss_cons (ps_if (PW.pt (pw_or (pt_cmpR op_ge (pe_ix ix_tup (pv 5) pe_int (fun _ _ => rfl)) (pe_callB call_len_seq (by rfl) S.len PySem.boot_len (pa_cons (pv 0) pa_nil)) (nomark _))
          (pw_or1 (pt_cmpR op_ne (pe_ix ix_list (pv 0) (pe_ix ix_tup (pv 5) pe_int (fun _ _ => rfl)) (fun _ _ => rfl)) (pe_op op_add_str (pe_op op_add_str (pe_op op_add_str (pv 2) (pe_ix ix_list (pv 4) pe_int (fun _ _ => rfl))) pe_str) (pe_ix ix_list (pv 4) pe_int (fun _ _ => rfl))) (nomark _)))))
          (pss_one (ps_ret (pe_tup (pa_cons pe_str (pa_cons (pe_ix ix_tup (pv 5) pe_int (fun _ _ => rfl)) (pa_cons pe_int pa_nil)))))) pss_nil)
        (pss_cons (ps_set (i := 6) scBranch.nd rfl (Or.inl rfl) (pe_call G hr rfl T.g T.F.kp T.b .nil pass0 (pa_cons (pv 0) (pa_cons (pe_op op_add (pe_ix ix_tup (pv 5) pe_int (fun _ _ => rfl)) pe_int) (pa_cons (pe_op op_add_str (pv 2) pe_str) pa_nil)))))
        (pss_cons (ps_if (pt_cmpR op_eq (pe_ix ix_tup (pv 6) pe_int (fun _ _ => rfl)) pe_str (nomark _)) (pss_one (ps_ret (pv 6))) pss_nil)
        (pss_one (ps_ret (pe_tup (pa_cons pe_str (pa_cons (pe_tup (pa_cons (pe_ix ix_list (pv 4) pe_int (fun _ _ => rfl)) (pa_cons (pe_ix ix_list (pv 4) pe_int (fun _ _ => rfl)) (pa_cons (pe_ix ix_tup (pv 5) pe_int (fun _ _ => rfl)) (pa_cons (pe_ix ix_tup (pv 6) pe_int (fun _ _ => rfl)) pa_nil)))))
          (pa_cons (pe_ix ix_tup (pv 6) pe_int (fun _ _ => rfl)) pa_nil)))))))))))))))), ?_⟩
      have sz : (16777216 : Nat) ≤ sizeLine := by decide
      have e3 : (Str.ofString " < ").length = 3 := by decide +kernel
      have e2 : (Str.ofString "  ").length = 2 := by decide +kernel
      rw [rd_succ] at q
      refine ⟨_, rfl, _, rfl, L, _, rfl, .inl hS, _, _, rfl, rfl, _, rfl, ?_⟩
      rw [List.length_map]
      cases hx : ls[i]? with
      | none =>
        rw [hx] at q
        have hge := List.getElem?_eq_none_iff.mp hx
        rw [decide_eq_true (show ((ls.length : Nat) : Int) ≤ (i : Int) by omega)]
        refine iteT ⟨_, rfl, L, _, rfl, .inl hS, ?_⟩
        rw [List.length_map]
        have ei : i = ls.length := by omega
        rw [ei] at q
        exact bad_mk q
      | some x =>
        rw [hx] at q
        have hlt := (List.getElem?_eq_some_iff.mp hx).1
        have lx := few.len x (List.mem_of_getElem? hx)
        have hsa := sidesAt_at (a := a) hx
        rw [decide_eq_false (show ¬ ((ls.length : Nat) : Int) ≤ (i : Int) by omega)]
        refine iteF ⟨_, rfl, _, rfl, L, _, _, _, rfl, rfl, hS, atI_nat (item_str hx), _, rfl, _, rfl, by omega, _, rfl, x, rfl, by omega, _, rfl, rfl, _, rfl, ?_⟩
        by_cases hs : Txt.startswith x a = true
        · have hhead := (head_eq x a).mpr hs
          rw [if_pos hs] at hsa
          rw [decide_eq_true (show V.str (cutS x none (some (a.length : Int))) = V.str a by rw [hhead])]
          refine iteF ⟨_, rfl, _, rfl, L, _, _, _, rfl, rfl, hS, atI_nat (item_str hx), _, rfl, _, rfl, by omega, _, rfl, x, rfl, by omega, ?_⟩
          have lb := behind_len x a
          show (tSeq _ _ _ [_, _, _, some (V.str (behind x a)), _, _, _] _)
          refine ⟨_, rfl, rfl, _, rfl, ?_⟩
          by_cases hso : behind x a = Str.ofString "so"
          · have hxs := (leaf_iff x a).mpr ⟨hs, hso⟩
            rw [decide_eq_true (show V.str (behind x a) = V.str (Str.ofString "so") by rw [hso])]
            simp only [if_pos hxs] at q
            refine iteT ⟨(by show 0 ≤ sizeLine; decide), fun p hp => ⟨_, rfl, _, _, rfl, rfl, (by show 3 ≤ sizeLine; decide), fun p2 hp2 => ?_⟩⟩
            exact q p2 (.ref p) _ upd_same (Tr.mkLeaf (same_new hp2 _ _ upd_same)) ((same_new hp).trans (same_new hp2))
          · have hxs : ¬ x = a ++ Str.ofString "so" := fun e => hso ((leaf_iff x a).mp e).2
            rw [decide_eq_false (show V.str (behind x a) ≠ V.str (Str.ofString "so") from fun e => by injection e with e; exact hso e)]
            simp only [if_neg hxs, hsa] at q
            refine iteF ⟨_, rfl, ⟨_, rfl⟩, _, _, rfl, rfl, by decide +kernel, by omega, fun p hp => ?_⟩
            have hlen := split_len (behind x a)
            have hdef : sidesOf (behind x a) = match Txt.split (behind x a) (Str.ofString " <= ") with | [l, r] => if (mayB l && mayB r) = true then some (l, r) else none | _ => none := rfl
            generalize Txt.split (behind x a) (Str.ofString " <= ") = ys at hlen hdef ⊢
            have s1 : Same H (upd H p (.lst (ys.map V.str))) := same_new hp
            have h1 : (upd H p (.lst (ys.map V.str))) p = some (.lst (ys.map V.str)) := upd_same
            generalize (upd H p (.lst (ys.map V.str))) = H1 at s1 h1 ⊢
            refine ⟨_, rfl, p, _, rfl, .inl (SqL.of h1), rfl, _, rfl, ?_⟩
            rw [List.length_map]
            have badQ : ∀ H', Same H H' → sidesOf (behind x a) = none → 3 ≤ sizeLine ∧ ∀ p, H' p = none → Q (.ref p) (upd H' p (.tup [.str "bad", .int (i : Nat), .int 0])) := fun H' s' e => by
              rw [e] at q
              exact bad_mk (ToldL.same s' q)
            by_cases h2 : ys.length = 2
            · obtain ⟨l, r, rfl⟩ : ∃ l r, ys = [l, r] := by
                match ys, h2 with
                | [l, r], _ => exact ⟨l, r, rfl⟩
              have hdef' : sidesOf (behind x a) = if (mayB l && mayB r) = true then some (l, r) else none := hdef
              have ll := hlen l (by simp)
              have lr := hlen r (by simp)
              refine iteF ⟨_, rfl, p, _, _, _, rfl, rfl, SqL.of h1, at_of (j := 0) rfl rfl, l, rfl, by omega, fun H2 s2 => ⟨_, rfl, ?_⟩⟩
              cases hml : mayB l with
              | false =>
                refine iteT ⟨_, rfl, badQ _ (s1.trans s2) ?_⟩
                rw [hdef', hml]
                rfl
              | true =>
                refine iteF ⟨_, rfl, p, _, _, _, rfl, rfl, SqL.of (s2 _ _ h1), at_of (j := 1) rfl rfl, r, rfl, by omega, fun H3 s3 => ⟨_, rfl, ?_⟩⟩
                have s13 := (s1.trans s2).trans s3
                cases hmr : mayB r with
                | false =>
                  refine iteT ⟨_, rfl, badQ _ s13 ?_⟩
                  rw [hdef', hml, hmr]
                  rfl
                | true =>
                  have hsi : sidesOf (behind x a) = some (l, r) := by
                    rw [hdef', hml, hmr]
                    rfl
                  simp only [hsi] at q
                  have hS3 := s13.seq hS
                  have h3 := s3 _ _ (s2 _ _ h1)
                  refine iteF ⟨_, rfl, _, rfl, _, _, rfl, rfl, _, rfl, _, _, rfl, rfl, (by show a.length + (Str.ofString "  ").length ≤ sizeLine; omega), L, ls, i + 1, _, rfl, hS3, few, by omega, by omega, (by rw [len_app, e2]; omega), ?_⟩
                  cases hone : rd ls n (i + 1) (a ++ Str.ofString "  ") with
                  | bad m =>
                    have q' : ToldL K (.bad m) H Q := by simpa only [hone] using q
                    intro p1 H4 hp1 s4
                    refine ⟨_, rfl, p1, _, _, _, rfl, rfl, SqT.of hp1, at_of (j := 0) rfl rfl, rfl, _, rfl, ?_⟩
                    refine iteT ⟨_, rfl, ?_⟩
                    exact q' p1 H4 hp1 (s13.trans s4)
                  | ok one stop =>
                    simp only [hone] at q
                    have r1 := rd_ok _ _ _ _ _ hone
                    have r1l := r1.le
                    have r1t := r1.lt
                    intro p1 v1 H4 hp1 dv1 s4
                    have s14 := s13.trans s4
                    have h4 := s4 _ _ h3
                    have hS4 := s14.seq hS
                    refine ⟨_, rfl, p1, _, _, _, rfl, rfl, SqT.of hp1, at_of (j := 0) rfl rfl, rfl, _, rfl, ?_⟩
                    refine iteF ⟨_, rfl, p1, _, _, _, rfl, rfl, SqT.of hp1, at_of (j := 2) rfl rfl, _, rfl, L, _, rfl, .inl hS4, _, _, rfl, rfl, _, rfl, ?_⟩
                    rw [List.length_map]
                    cases hst : ls[stop]? with
                    | none =>
                      have hge := List.getElem?_eq_none_iff.mp hst
                      have q' : ToldL K (.bad stop) H Q := by
                        rw [hst, if_neg (by simp)] at q
                        exact q
                      rw [decide_eq_true (show ((ls.length : Nat) : Int) ≤ (stop : Int) by omega)]
                      refine iteT (iteT ⟨_, rfl, p1, _, _, _, rfl, rfl, SqT.of hp1, at_of (j := 2) rfl rfl, bad_mk (ToldL.same s14 q')⟩)
                    | some y =>
                      have hlt2 := (List.getElem?_eq_some_iff.mp hst).1
                      rw [decide_eq_false (show ¬ ((ls.length : Nat) : Int) ≤ (stop : Int) by omega)]
                      refine iteF ⟨_, rfl, _, rfl, p1, _, _, _, rfl, rfl, SqT.of hp1, at_of (j := 2) rfl rfl, L, _, _, _, rfl, rfl, hS4, atI_nat (item_str hst), ?_⟩
                      refine ⟨_, rfl, _, rfl, p, _, _, _, rfl, rfl, SqL.of h4, at_of (j := 1) rfl rfl, _, _, rfl, rfl, (by omega), _, _, rfl, rfl, (by rw [len_app, e3]; omega), _, rfl, p, _, _, _, rfl, rfl, SqL.of h4, at_of (j := 0) rfl rfl, _, _, rfl, rfl, (by rw [len_app, len_app, e3]; omega), rfl, _, rfl, ?_⟩
                      rw [hst] at q
                      by_cases hy : y = a ++ r ++ Str.ofString " < " ++ l
                      · rw [decide_eq_true (show V.str y = V.str (a ++ r ++ Str.ofString " < " ++ l) by rw [hy])]
                        rw [if_pos (by rw [hy])] at q
                        refine iteF ?_
                        refine ⟨_, rfl, _, rfl, p1, _, _, _, rfl, rfl, SqT.of hp1, at_of (j := 2) rfl rfl, _, _, rfl, rfl, _, rfl, _, _, rfl, rfl, (by show a.length + (Str.ofString "  ").length ≤ sizeLine; omega), L, ls, stop + 1, _, rfl, hS4, few, by omega, by omega, (by rw [len_app, e2]; omega), ?_⟩
                        cases hoth : rd ls n (stop + 1) (a ++ Str.ofString "  ") with
                        | bad m =>
                          have q' : ToldL K (.bad m) H Q := by simpa only [hoth] using q
                          intro p2 H5 hp2 s5
                          refine ⟨_, rfl, p2, _, _, _, rfl, rfl, SqT.of hp2, at_of (j := 0) rfl rfl, rfl, _, rfl, ?_⟩
                          refine iteT ⟨_, rfl, ?_⟩
                          exact q' p2 H5 hp2 (s14.trans s5)
                        | ok other stop2 =>
                          simp only [hoth] at q
                          intro p2 v2 H5 hp2 dv2 s5
                          have h5 := s5 _ _ h4
                          have hp15 := s5 _ _ hp1
                          refine ⟨_, rfl, p2, _, _, _, rfl, rfl, SqT.of hp2, at_of (j := 0) rfl rfl, rfl, _, rfl, ?_⟩
                          refine iteF ⟨_, rfl, p, _, _, _, rfl, rfl, SqL.of h5, at_of (j := 0) rfl rfl, _, rfl, p, _, _, _, rfl, rfl, SqL.of h5, at_of (j := 1) rfl rfl, _, rfl, p1, _, _, _, rfl, rfl, SqT.of hp15, at_of (j := 1) rfl rfl,
                            _, rfl, p2, _, _, _, rfl, rfl, SqT.of hp2, at_of (j := 1) rfl rfl, (by show 4 ≤ sizeLine; decide), fun p4 hp4 => ?_⟩
                          have s6 := same_new (o := .tup [.str l, .str r, v1, v2]) hp4
                          refine ⟨_, rfl, p2, _, _, _, rfl, rfl, SqT.of (s6 _ _ hp2), at_of (j := 2) rfl rfl, (by show 3 ≤ sizeLine; decide), fun p5 hp5 => ?_⟩
                          have s7 := s6.trans (same_new (o := .tup [.str "tree", .ref p4, .int (stop2 : Nat)]) hp5)
                          exact q p5 (.ref p4) _ upd_same (Tr.mkNode (same_new hp5 _ _ upd_same) (Dp.same (s5.trans s7) dv1) (Dp.same s7 dv2)) ((s14.trans s5).trans s7)
                      · rw [decide_eq_false (show V.str y ≠ V.str (a ++ r ++ Str.ofString " < " ++ l) from fun e => by injection e with e; exact hy e)]
                        have q' : ToldL K (.bad stop) H Q := by
                          rw [if_neg (fun e => hy (Option.some.inj e))] at q
                          exact q
                        exact iteT ⟨_, rfl, p1, _, _, _, rfl, rfl, SqT.of hp1, at_of (j := 2) rfl rfl, bad_mk (ToldL.same s14 q')⟩
            · rw [decide_eq_false (show V.int (ys.length : Nat) ≠ V.int 2 from fun e => by injection e with e; omega)]
              refine iteT (iteT ⟨_, rfl, badQ _ s1 ?_⟩)
              rw [hdef]
              match ys, h2 with
              | [], _ => rfl
              | [_], _ => rfl
              | _ :: _ :: _ :: _, _ => rfl
              | [_, _], h => exact absurd rfl h
        · have hhead : cutS x none (some (a.length : Int)) ≠ a := fun e => hs ((head_eq x a).mp e)
          rw [if_neg hs] at hsa
          have hxs : ¬ x = a ++ Str.ofString "so" := fun e => hs ((leaf_iff x a).mp e).1
          simp only [if_neg hxs, hsa] at q
          rw [decide_eq_false (show V.str (cutS x none (some (a.length : Int))) ≠ V.str a from fun e => by injection e with e; exact hhead e)]
          exact iteT ⟨_, rfl, bad_mk q⟩
end
end LK

namespace LK
open PySem PySem.Spec PyProof.Rows L2 LR
/-- what the law and the program tell of a text -/
def resD : Rd → PyData
  | .bad m => .tuple [.str (Str.ofString "refused"), .int (m : Nat)]
  | .ok t _ => .tuple [.str (Str.ofString "told"), t.enc]
theorem dp_bad {K : PySem.W.Frag} {H : Hp} {p : Addr} {m : Nat} (h : H p = some (.tup [.str (Str.ofString "refused"), .int (m : Nat)])) : Dp K H (.ref p) (resD (.bad m)) := .tup (SqT.of h) (.cons (.str _) (.cons (.int _) .nil))
theorem dp_told {K : PySem.W.Frag} {H : Hp} {p : Addr} {t : Tr} {s : Nat} {v : V} (h : H p = some (.tup [.str (Str.ofString "told"), v])) (d : Dp K H v t.enc) : Dp K H (.ref p) (resD (.ok t s)) := .tup (SqT.of h) (.cons (.str _) (.cons d .nil))
theorem rdT_ok {z : Str} {t : Tr} {s : Nat} (h : rdT z = .ok t s) : rd (linesOf z) 32 0 (Str.ofString "") = .ok t s ∧ s = (linesOf z).length := by
  unfold rdT at h
  cases hrd : rd (linesOf z) 32 0 (Str.ofString "") with
  | bad m =>
    rw [hrd] at h
    cases h
  | ok t' s' =>
    rw [hrd] at h
    by_cases c : s' = (linesOf z).length
    · have h' : Rd.ok t' s' = Rd.ok t s := by simpa only [if_pos c] using h
      cases h'
      exact ⟨rfl, c⟩
    · have h' : Rd.bad s' = Rd.ok t s := by simpa only [if_neg c] using h
      cases h'
theorem deep_res {z : Str} : Deep 36 (resD (rdT z)) := by
  cases h : rdT z with
  | bad m => exact ⟨by show 2 ≤ 1000; decide, fun d hd => by
      rcases List.mem_cons.mp hd with rfl | hd
      · exact True.intro
      rcases List.mem_cons.mp hd with rfl | hd
      · exact True.intro
      cases hd⟩
  | ok t s =>
    have r := rd_ok _ _ _ _ _ (rdT_ok h).1
    refine ⟨by show 2 ≤ 1000; decide, fun d hd => ?_⟩
    rcases List.mem_cons.mp hd with rfl | hd
    · exact True.intro
    rcases List.mem_cons.mp hd with rfl | hd
    · exact Tr.deep t 35 (by have := r.dp; omega)
    cases hd
def spDue (K : PySem.W.Frag) : Sp := fun vs H Q _ => ∃ z, vs = [.str z] ∧ FewT z ∧ ∀ v H', Dp K H' v (resD (rdT z)) → Same H H' → Q v H'
section
variable {P : Program} {w : World} {K : PySem.W.Frag} {mg : Str → Option Value} {base : Heap} {t1 t2 : Tok}
theorem scDue : FnScope ["_law_text", "_law_lines", "_law_found"] ["_law_text"] (defScope sDue) := ⟨rfl, rfl, rfl, by decide +kernel, rfl, by decide +kernel, by decide +kernel⟩
theorem ok_due {f fB : Addr} {fd fdB : FuncData} (S : Std mg) (T : Df K mg "_law_due" sDue f fd ["_law_text"]) (B : Df K mg "_law_branch" sBranch fB fdB ["_law_lines", "_law_at", "_law_ahead"]) (GB : FnOk P w K mg base CX0 34 fB fdB ["_law_lines", "_law_at", "_law_ahead"] (spBranch K 32)) : FnOk P w K mg base CX0 35 f fd ["_law_text"] (spDue K) := by
  refine T.F.ok scDue (fun vs H Q E h => ?_) (fun cdv A outer s H vs Q E hr h => ?_)
  · obtain ⟨_, rfl, _⟩ := h
    rfl
  · obtain ⟨z, rfl, few, q⟩ := h
    refine ⟨_, pss_cons (ps_set (i := 1) scDue.nd rfl (Or.inl rfl) (pe_split (pv 0) pe_str))
      (pss_cons (ps_set (i := 2) scDue.nd rfl (Or.inl rfl) (pe_call GB hr rfl B.g B.F.kp B.b .nil pass0 (pa_cons (pv 1) (pa_cons pe_int (pa_cons pe_str pa_nil)))))
      (pss_cons (ps_if (PW.pt (pw_and (pt_cmpR op_eq (pe_ix ix_tup (pv 2) pe_int (fun _ _ => rfl)) pe_str (nomark _)) (pw_and1 (pt_cmpR op_lt (pe_ix ix_tup (pv 2) pe_int (fun _ _ => rfl)) (pe_callB call_len_seq (by rfl) S.len PySem.boot_len (pa_cons (pv 1) pa_nil)) (nomark _)))))
        (pss_one (ps_ret (pe_tup (pa_cons pe_str (pa_cons (pe_ix ix_tup (pv 2) pe_int (fun _ _ => rfl)) pa_nil))))) pss_nil)
      (pss_one (ps_ret (pe_ifExp (pt_cmpR op_eq (pe_ix ix_tup (pv 2) pe_int (fun _ _ => rfl)) pe_str (nomark _)) (pe_tup (pa_cons pe_str (pa_cons (pe_ix ix_tup (pv 2) pe_int (fun _ _ => rfl)) pa_nil)))
        (pe_tup (pa_cons pe_str (pa_cons (pe_ix ix_tup (pv 2) pe_int (fun _ _ => rfl)) pa_nil)))))))), ?_⟩
    have e0 : (Str.ofString "").length = 0 := by decide +kernel
    have sz : (16777216 : Nat) ≤ sizeLine := by decide
    have zl := few.len
    refine ⟨_, rfl, ⟨_, rfl⟩, _, _, rfl, rfl, by decide +kernel, by omega, fun p hp => ?_⟩
    have s1 : Same H (upd H p (.lst ((linesOf z).map V.str))) := same_new hp
    have h1 : (upd H p (.lst ((linesOf z).map V.str))) p = some (.lst ((linesOf z).map V.str)) := upd_same
    have hfew := few.few
    have hmany := few.many
    unfold rdT at q
    show (tSeq _ _ _ _ (upd H p (.lst ((linesOf z).map V.str))))
    generalize (upd H p (.lst ((linesOf z).map V.str))) = H1 at s1 h1 ⊢
    refine ⟨_, rfl, p, linesOf z, 0, Str.ofString "", rfl, SqL.of h1, hfew, Nat.zero_le _, by omega, by rw [e0]; omega, ?_⟩
    cases hrd : rd (linesOf z) 32 0 (Str.ofString "") with
    | bad m =>
      simp only [hrd] at q
      intro p2 H2 hp2 s2
      refine ⟨_, rfl, p2, _, _, _, rfl, rfl, SqT.of hp2, at_of (j := 0) rfl rfl, rfl, _, rfl, iteF ?_⟩
      refine iteF ⟨_, rfl, p2, _, _, _, rfl, rfl, SqT.of hp2, at_of (j := 0) rfl rfl, rfl, _, rfl, iteF ?_⟩
      refine ⟨_, rfl, p2, _, _, _, rfl, rfl, SqT.of hp2, at_of (j := 1) rfl rfl, (by show 2 ≤ sizeLine; decide), fun p3 hp3 => ?_⟩
      exact q _ _ (dp_bad upd_same) ((s1.trans s2).trans (same_new hp3))
    | ok t stop =>
      have r := rd_ok _ _ _ _ _ hrd
      simp only [hrd] at q
      intro p2 v2 H2 hp2 dv2 s2
      refine ⟨_, rfl, p2, _, _, _, rfl, rfl, SqT.of hp2, at_of (j := 0) rfl rfl, rfl, _, rfl, iteT ?_⟩
      refine ⟨_, rfl, p2, _, _, _, rfl, rfl, SqT.of hp2, at_of (j := 2) rfl rfl, _, rfl, p, _, rfl, .inl (s2.seq (SqL.of h1)), _, _, rfl, rfl, _, rfl, ?_⟩
      rw [List.length_map]
      by_cases he : stop = (linesOf z).length
      · simp only [if_pos he] at q
        rw [decide_eq_false (show ¬ (stop : Int) < ((linesOf z).length : Nat) by omega)]
        refine iteF ⟨_, rfl, p2, _, _, _, rfl, rfl, SqT.of hp2, at_of (j := 0) rfl rfl, rfl, _, rfl, iteT ?_⟩
        refine ⟨_, rfl, p2, _, _, _, rfl, rfl, SqT.of hp2, at_of (j := 1) rfl rfl, (by show 2 ≤ sizeLine; decide), fun p3 hp3 => ?_⟩
        exact q _ _ (dp_told upd_same (Dp.same (same_new hp3) dv2)) ((s1.trans s2).trans (same_new hp3))
      · simp only [if_neg he] at q
        have := r.le
        rw [decide_eq_true (show (stop : Int) < ((linesOf z).length : Nat) by omega)]
        refine iteT ⟨_, rfl, p2, _, _, _, rfl, rfl, SqT.of hp2, at_of (j := 2) rfl rfl, (by show 2 ≤ sizeLine; decide), fun p3 hp3 => ?_⟩
        exact q _ _ (dp_bad upd_same) ((s1.trans s2).trans (same_new hp3))
/-! ### the program's answer, caught -/
/-- nothing may leave -/
theorem tk0 {X : Cx} : L2N.Takes X (fun _ _ _ _ => False) := fun u s' x => by
  obtain ⟨a, B, sI, pins, σ, H, cls, d, e, I, nb, up, sky, na, os, ag, w⟩ := x
  exact w.elim
/-- _law_refused(n), n the handled error -/
def tRefE (K : PySem.W.Frag) (C : Nat → Addr) (a : Addr) (cls : Value) (d : Option Addr) (i : Nat) : TE := fun σ H Q => tVar i σ H fun v H1 => v = .ref a ∧ ∃ (D : Addr) (b : Nat → Bool), cls = .ref D ∧ DictX H1 d ∧ ExcC K D ∧ (∀ j, j < 12 → PySem.W.kitOne K (.ref D) (.ref (C j)) = some (b j)) ∧
  ∀ p H', Same H1 H' → H' p = some (.lst ((ix ((List.range 12).map b) 0).map V.int)) → Q (.ref p) H'
theorem hot_of {A : Around} {a : Addr} {oe : Obj} {cls : Value} {d : Option Addr} (h : A.handled = some (.ref a)) (z : L2N.Zn cls d oe) (f : ∃ vs, oe.data = .fields vs) : L2H.Hot1 A (a, oe) := by
  obtain ⟨vs, hv⟩ := f
  exact ⟨h, vs, hv, z.2.2 vs hv⟩
theorem pe_refE {X : Cx} {C : Nat → Addr} {k i : Nat} {f a : Addr} {oe : Obj} {fd : FuncData} {x n : Str} {q np pos : Pos} {cls : Value} {d : Option Addr} (F : FnE X.prog X.w X.K X.mg X.base k f fd ["_law_e"] (spRefE X.K C)) (room : L2H.RoomH k X.A) (hot : L2H.Hot1 X.A (a, oe)) (mem : (a, oe) ∈ X.pn) (z : Zc cls d oe) (fl : ∃ vs, oe.data = .fields vs)
    (hm : X.mg x = some (.ref f)) (kp : PySem.W.keepIn X.K (.ref f) = true) (bind : Binds X.K fd ["_law_e"] []) (hg : Gl X x := by rfl) (hN : X.N[i]? = some n := by rfl) (hv : Vis X.env.scope n := by first | exact Or.inl rfl | exact Or.inr (Or.inl rfl)) (dn : (n == ("__debug__" : Str)) = false := by decide) (dn2 : (n == ("__classdict__" : Str)) = false := by decide) (dbg : (x == ("__debug__" : Str)) = false := by decide)
    (he : starEach [.Name n np] X.env = (false, eval (.Name n np) X.env) :: starEach [] X.env := by rfl) (plain : (backTo pos (starEach [] X.env)).any (·.1) = false := by rfl) : PE X (.Call (.Name x q) [.Name n np] [] pos) (tRefE X.K C a cls d i) := by
  refine ⟨fun pins s σ H Q I h => (pe_callE F room hot mem hg hm kp bind (pa_cons (pe_var hN hv dn dn2) pa_nil he) dbg he plain).run pins s σ H Q I ?_⟩
  obtain ⟨v, ev, rfl, D, b, rfl, dx, ec, kk, q⟩ := h
  exact ⟨_, ev, D, d, b, rfl, z, fl, dx, ec, kk, q⟩
theorem ix_one : ∀ i, i < 12 → ix ((List.range 12).map fun j => decide (i = j)) 0 = [(i : Int)] := by decide +kernel
theorem dp_one {K : PySem.W.Frag} {H : Hp} {p : Addr} {i : Int} (h : H p = some (.lst [.int i])) : Dp K H (.ref p) (.list [.int i]) := .lst (SqL.of h) (.cons (.int i) .nil)
def nTold : List Str := ["_law_text", "_law_found", "_law_e"]
theorem scTold : FnScope nTold ["_law_text"] (defScope sTold) := ⟨rfl, rfl, rfl, by decide +kernel, rfl, by decide +kernel, by decide +kernel⟩
theorem ok_told {fT fR f B : Addr} {fdT fdR fd : FuncData} {C cE : Nat → Addr} {cD : Nat → FuncData} (S : Std mg) (G : Errs K mg C B cE cD) (ex : PySem.W.exmOne K (.ref (C 4)) (.ref B) = some true)
    (RF : Df K mg "_law_refused" sRefused fR fdR ["_law_e"]) (RT : Df K mg "read_tree" pRead fT fdT ["text"]) (GT : FnOk P w K mg base (L2N.CX P w) 37 fT fdT ["text"] (spReadX K (C 4)))
    (F : Fun K "_law_told" "_law_told" sTold f fd) : FnOk P w K mg base CX0 38 f fd ["_law_text"] (spDue K) := by
  have e4 := G.er 4 (by decide)
  have GR : FnE P w K mg base 1 fR fdR ["_law_e"] (spRefE K C) := ok_refusedE S G RF.F
  refine F.ok scTold (fun vs H Q E h => ?_) (fun cdv A outer s H vs Q E hr h => ?_)
  · obtain ⟨_, rfl, _⟩ := h
    rfl
  · obtain ⟨z, rfl, few, q⟩ := h
    refine ⟨_, pss_cons (ps_set (i := 1) scTold.nd rfl (Or.inl rfl) pe_str)
      (pss_cons (L2N.ps_try_as (i := 2) (Wout := fun _ _ _ _ => False) rfl rfl scTold.nd rfl rfl ⟨rfl, by decide, .inl G.base.g⟩ tk0
        (fun W pn xe tk _ => pss_one (ps_set (i := 1) scTold.nd rfl (Or.inl rfl) (pe_tup (pa_cons pe_str (pa_cons (pe_callS GT hr rfl RT.g RT.F.kp RT.b (fun σ => L2N.passAt tk σ) (pa_cons (pv 0) pa_nil)) pa_nil)))))
        (fun a oe cls d pn zn fl => pss_one (ps_if (pt_cmpR (show OpR _ _ (rEqD K) from op_eqD hr.units) (show PE _ _ (tRefE K C a cls d 2) from pe_refE (X := (cxOf CX0 P w K mg base nTold "_law_told" (defScope sTold) f cdv A outer s H E).nox.suite a ((a, oe) :: pn)) (cls := cls) (d := d) GR ⟨(hr.mono (show 1 ≤ 37 by decide)).dp, (hr.mono (show 1 ≤ 37 by decide)).un⟩ (hot_of rfl zn fl) List.mem_cons_self zn.zc fl RF.g RF.F.kp RF.b (i := 2)) (pe_lst (pa_cons pe_int pa_nil)) (nomark _))
          (pss_one (ps_set (i := 1) scTold.nd rfl (Or.inl rfl) (pe_tup (pa_cons pe_str (pa_cons (pe_xf e4.X e4.no zn.zc fl (pv 2)) pa_nil))))) pss_nil)))
      (pss_one (ps_ret (pv 1)))), ?_⟩
    refine ⟨_, rfl, z, rfl, few, ?_⟩
    cases hrd : rdT z with
    | ok t st =>
      intro v H' dv s1
      refine ⟨(by show 2 ≤ sizeLine; decide), fun p hp => ?_⟩
      refine ⟨_, rfl, q _ _ ?_ (s1.trans (same_new hp))⟩
      rw [hrd]
      exact dp_told upd_same (Dp.same (same_new hp) dv)
    | bad m =>
      intro d H' s1 hd nd
      refine ⟨true, ex, fun _ a ha => ?_, fun z => nomatch z⟩
      refine ⟨_, rfl, rfl, C 4, (fun j => decide (4 = j)), rfl, ⟨fun dx' e => ⟨_, by cases e; exact hd⟩⟩, e4.E, fun j hj => G.k1 4 j (by decide) hj, fun p H2 s2 hp => ?_⟩
      rw [ix_one 4 (by decide)] at hp
      refine ⟨by show 1 ≤ sizeLine; decide, fun p2 hp2 => ?_⟩
      have s3 := same_new (o := .lst [.int 4]) hp2
      refine ⟨.list [.int 4], .list [.int 4], dp_one (s3 _ _ hp), dp_one upd_same, rfl, rfl, _, rfl, ?_⟩
      rw [show PyData.eqv (.list [.int 4]) (.list [.int 4]) = true by decide +kernel]
      have s4 := s2.trans s3
      refine iteT ⟨_, rfl, rfl, rfl, d, _, _, rfl, s4 _ _ hd, rfl, by show 2 ≤ sizeLine; decide, fun p3 hp3 => ?_⟩
      refine ⟨_, rfl, q _ _ ?_ ((s1.trans s4).trans (same_new hp3))⟩
      rw [hrd]
      exact dp_bad upd_same
end
end LK

namespace LK
open PySem PySem.Spec PyProof.Rows L2 LR
/-! ### texts that are changed -/
theorem spl1_count : ∀ (l acc : List Nat), (TL.spl [10] 0 acc l).length = l.count 10 + 1
  | [], acc => by rw [TL.spl_nil]; rfl
  | c :: r, acc => by
    by_cases hc : TL.pre [10] (c :: r) = true
    · rw [TL.spl_hit hc]
      have e : c = 10 := by
        unfold TL.pre at hc
        simpa using hc
      subst e
      show (TL.spl [10] 0 [] r).length + 1 = _
      rw [spl1_count r [], List.count_cons_self]
    · have n : c ≠ 10 := fun e => hc (by rw [e]; rfl)
      rw [TL.spl_miss (by simpa using hc), spl1_count r _, List.count_cons_of_ne n]
theorem lines_count (z : Str) : (linesOf z).length = (TL.tl z).count 10 + 1 := by
  have h := congrArg List.length (split_spl1 z)
  rw [List.length_map, spl1_count] at h
  exact h
theorem spl1_free : ∀ (l acc : List Nat), 10 ∉ acc → ∀ p, p ∈ TL.spl [10] 0 acc l → 10 ∉ p
  | [], acc, h, p, hp => by
    rw [TL.spl_nil] at hp
    rw [List.mem_singleton.mp hp]
    exact h
  | c :: r, acc, h, p, hp => by
    by_cases hc : TL.pre [10] (c :: r) = true
    · rw [TL.spl_hit hc] at hp
      rcases List.mem_cons.mp hp with rfl | hp
      · exact h
      · exact spl1_free r [] (by simp) p hp
    · have n : c ≠ 10 := fun e => hc (by rw [e]; rfl)
      rw [TL.spl_miss (by simpa using hc)] at hp
      refine spl1_free r _ (fun m => ?_) p hp
      rcases List.mem_append.mp m with m | m
      · exact h m
      · exact n (List.mem_singleton.mp m).symm
/-- a text without a line feed -/
def One (z : Str) : Prop := 10 ∉ TL.tl z
theorem lines_one (z : Str) : ∀ p, p ∈ linesOf z → One p := fun p hp => spl1_free (TL.tl z) [] (by simp) _ (by rw [← split_spl1]; exact List.mem_map_of_mem hp)
/-- how long lines are together -/
def wt (ps : List Str) : Nat := (ps.map fun s => s.length + 1).sum
theorem wt_app (a b : List Str) : wt (a ++ b) = wt a + wt b := by
  unfold wt
  rw [List.map_append, List.sum_append]
theorem wt_one (x : Str) : wt [x] = x.length + 1 := by
  unfold wt
  simp
theorem wt_sum (ps : List Str) : (ps.map (·.length)).sum + ps.length * 1 = wt ps := by
  unfold wt
  induction ps with
  | nil => rfl
  | cons p r ih =>
    rw [List.map_cons, List.map_cons, List.sum_cons, List.sum_cons, List.length_cons, ← ih]
    omega
theorem joinL_wt : ∀ ps : List (List Nat), (TL.joinL [10] ps).length ≤ (ps.map fun s => s.length + 1).sum
  | [] => by simp [TL.joinL]
  | [p] => by simp [TL.joinL]
  | p :: q :: r => by
    have ih := joinL_wt (q :: r)
    show (p ++ ([10] ++ TL.joinL [10] (q :: r))).length ≤ _
    rw [List.length_append, List.length_append, List.map_cons, List.sum_cons]
    show p.length + (1 + _) ≤ _
    omega
theorem joinL_wt' : ∀ ps : List (List Nat), ps ≠ [] → (TL.joinL [10] ps).length + 1 = (ps.map fun s => s.length + 1).sum
  | [], h => absurd rfl h
  | [p], _ => by simp [TL.joinL]
  | p :: q :: r, _ => by
    have ih := joinL_wt' (q :: r) (by simp)
    show (p ++ ([10] ++ TL.joinL [10] (q :: r))).length + 1 = _
    rw [List.length_append, List.length_append, List.map_cons, List.sum_cons, ← ih]
    show p.length + (1 + _) + 1 = _
    omega
theorem joinL_count : ∀ ps : List (List Nat), (∀ p, p ∈ ps → 10 ∉ p) → (TL.joinL [10] ps).count 10 + 1 ≤ max 1 ps.length
  | [], _ => by simp [TL.joinL]
  | [p], h => by
    have := List.count_eq_zero.mpr (h p (by simp))
    show List.count 10 p + 1 ≤ _
    rw [this]
    exact Nat.le_refl _
  | p :: q :: r, h => by
    have ih := joinL_count (q :: r) fun p' hp => h p' (List.mem_cons_of_mem _ hp)
    have := List.count_eq_zero.mpr (h p (by simp))
    show (p ++ ([10] ++ TL.joinL [10] (q :: r))).count 10 + 1 ≤ _
    rw [List.count_append, List.count_append, this]
    show 0 + (1 + _) + 1 ≤ max 1 (r.length + 1 + 1)
    have e : (q :: r).length = r.length + 1 := rfl
    rw [e] at ih
    omega
theorem map_tl_wt (ps : List Str) : ((ps.map TL.tl).map fun s => s.length + 1).sum = wt ps := by
  unfold wt
  rw [List.map_map]
  congr 1
def nlS : Str := Str.ofString "\n"
theorem join_wt (ps : List Str) : (Txt.join nlS ps).length ≤ wt ps := by
  unfold nlS
  rw [TL.len_tl, TL.join_eq, TL.tl_join, tl_nl, ← map_tl_wt]
  exact joinL_wt _
theorem wt_lines (z : Str) : wt (linesOf z) = z.length + 1 := by
  have e := join_split z
  have hne : linesOf z ≠ [] := fun h => by
    have := lines_count z
    rw [h] at this
    cases this
  have h := joinL_wt' ((linesOf z).map TL.tl) (by simpa using hne)
  rw [map_tl_wt] at h
  rw [← h]
  congr 1
  have e' := congrArg TL.tl e
  rw [TL.join_eq, TL.tl_join, tl_nl] at e'
  rw [TL.len_tl]
  exact congrArg List.length e'
theorem join_lines {ps : List Str} (h : ∀ p, p ∈ ps → One p) : (linesOf (Txt.join nlS ps)).length ≤ max 1 ps.length := by
  unfold nlS
  rw [lines_count, TL.join_eq, TL.tl_join, tl_nl]
  have := joinL_count (ps.map TL.tl) fun p hp => by
    obtain ⟨s, hs, rfl⟩ := List.mem_map.mp hp
    exact h s hs
  rw [List.length_map] at this
  exact this
theorem count_cut (l : List Nat) {a b : Nat} (h : a ≤ b + 1) : ((l.take a).count 10) + ((l.drop b).count 10) ≤ l.count 10 + 1 ∧ (a ≤ b → ((l.take a).count 10) + ((l.drop b).count 10) ≤ l.count 10) := by
  have e : (l.take b).count 10 + (l.drop b).count 10 = l.count 10 := by
    rw [← List.count_append, List.take_append_drop]
  have mono : ∀ {a b : Nat}, a ≤ b → (l.take a).count 10 ≤ (l.take b).count 10 := fun {a b} hab => by
    have : l.take a = (l.take b).take a := by rw [List.take_take, Nat.min_eq_left hab]
    rw [this]
    exact List.Sublist.count_le _ (List.take_sublist _ _)
  have step : (l.take (b + 1)).count 10 ≤ (l.take b).count 10 + 1 := by
    rw [List.take_add_one, List.count_append]
    have : (l[b]?.toList).count 10 ≤ 1 := by
      cases l[b]? with
      | none => exact Nat.zero_le _
      | some c =>
        refine Nat.le_trans List.count_le_length ?_
        exact Nat.le_refl 1
    omega
  refine ⟨?_, fun hab => ?_⟩
  · have := mono h
    omega
  · have := mono hab
    omega
def spSign : Sp := fun vs H Q _ => ∃ (l : Addr), vs = [.ref l] ∧ Feed H l ∧ ∀ c H', Feed H' l → Keep l H H' → Q (.str ⟨#[c]⟩) H'
/-- what a change may make of a text -/
structure Chg (z y : Str) : Prop where
  len : y.length ≤ 2 * z.length + 20
  many : (linesOf y).length ≤ (linesOf z).length + 1
def spBent : Sp := fun vs H Q _ => ∃ (l : Addr) (z : Str), vs = [.ref l, .str z] ∧ z.length ≤ 100000 ∧ Feed H l ∧ ∀ y H', Chg z y → Feed H' l → Keep l H H' → Q (.str y) H'
theorem tl_to (z : Str) (d : Nat) : TL.tl (cutS z none (some (d : Int))) = (TL.tl z).take d := by
  unfold cutS
  show ((TL.tl z).drop _).take _ = _
  rw [HT.sIx_nat, HT.sIx_none, List.drop_zero, Nat.sub_zero]
  rcases Nat.le_total d z.length with h | h
  · rw [Nat.min_eq_left h]
  · rw [Nat.min_eq_right h, TL.len_tl z, List.take_length, List.take_of_length_le]
    rw [← TL.len_tl z]
    exact h
theorem tl_from (z : Str) (d : Nat) : TL.tl (cutS z (some (d : Int)) none) = (TL.tl z).drop d := by
  unfold cutS
  show ((TL.tl z).drop _).take _ = _
  rw [HT.sIx_nat, HT.sIx_none]
  rcases Nat.le_total d z.length with h | h
  · rw [Nat.min_eq_left h]
    refine List.take_of_length_le ?_
    rw [List.length_drop, ← TL.len_tl]
    exact Nat.le_refl _
  · rw [Nat.min_eq_right h, Nat.sub_self, List.take_zero]
    symm
    rw [List.drop_eq_nil_iff, ← TL.len_tl]
    exact h
theorem chg_cut {z m : Str} {a b : Nat} (h : a ≤ b + 1) (hm : m.length ≤ 1) (hab : m.length = 0 ∨ a ≤ b) : Chg z (cutS z none (some (a : Int)) ++ m ++ cutS z (some (b : Int)) none) := by
  have e : TL.tl (cutS z none (some (a : Int)) ++ m ++ cutS z (some (b : Int)) none) = (TL.tl z).take a ++ TL.tl m ++ (TL.tl z).drop b := by rw [TL.tl_append, TL.tl_append, tl_to, tl_from]
  refine ⟨?_, ?_⟩
  · rw [TL.len_tl, e, List.length_append, List.length_append, List.length_take, List.length_drop, ← TL.len_tl, ← TL.len_tl]
    omega
  · rw [lines_count, lines_count, e, List.count_append, List.count_append]
    obtain ⟨h1, h2⟩ := count_cut (TL.tl z) h
    rcases hab with h0 | h0
    · have : TL.tl m = [] := List.length_eq_zero_iff.mp (by rw [← TL.len_tl]; exact h0)
      rw [this]
      show _ + 0 + _ + 1 ≤ _
      omega
    · have h3 := h2 h0
      have h4 : (TL.tl m).count 10 ≤ 1 := Nat.le_trans List.count_le_length (by rw [← TL.len_tl]; exact hm)
      omega
section
variable {P : Program} {w : World} {K : PySem.W.Frag} {mg : Str → Option Value} {base : Heap}
theorem scSign : FnScope ["_law_feed_here", "_law_signs"] ["_law_feed_here"] (defScope sSign) := ⟨rfl, rfl, rfl, by decide +kernel, rfl, by decide +kernel, by decide +kernel⟩
theorem ok_sign {f fD fP : Addr} {fd fdD fdP : FuncData} (S : Std mg) (F : Fun K "_law_sign" "_law_sign" sSign f fd) (D : Df K mg "_law_draw" sDraw fD fdD ["_law_feed_here", "_law_many"]) (PK : Df K mg "_law_pick" sPick fP fdP ["_law_feed_here", "_law_items"]) : FnOk P w K mg base CX0 3 f fd ["_law_feed_here"] spSign := by
  have GP : FnOk P w K mg base CX0 2 fP fdP ["_law_feed_here", "_law_items"] (spPick K) := ok_pick S PK.F D
  refine F.ok scSign (fun vs H Q E h => ?_) (fun cdv A outer s H vs Q E hr h => ?_)
  · obtain ⟨l, rfl, _⟩ := h
    rfl
  · obtain ⟨l, rfl, hf, q⟩ := h
    refine ⟨_, pss_cons (ps_set (i := 1) scSign.nd rfl (Or.inl rfl) pe_str) (pss_cons (ps_set (i := 1) scSign.nd rfl (Or.inl rfl) (pe_op op_add_str (pv 1) pe_str))
      (pss_one (ps_ret (pe_call GP hr rfl PK.g PK.F.kp PK.b .nil pass0 (pa_cons (pv 0) (pa_cons (pv 1) pa_nil)))))), ?_⟩
    refine ⟨_, rfl, _, _, rfl, rfl, by decide +kernel, _, rfl, _, rfl, l, _, (fun v => ∃ c : Nat, v = .str ⟨#[c]⟩), rfl, hf, .inl ⟨_, rfl, by decide +kernel, by decide +kernel, fun c _ => ⟨c, rfl⟩⟩, ?_⟩
    rintro v H' ⟨c, rfl⟩ hf' k
    exact q c H' hf' k
def nBent : List Str := ["_law_feed_here", "_law_text", "_law_at", "_law_way", "_law_sign_here"]
theorem scBent : FnScope nBent ["_law_feed_here", "_law_text"] (defScope sBent) := ⟨rfl, rfl, rfl, by decide +kernel, rfl, by decide +kernel, by decide +kernel⟩
theorem ok_bent {f fD fS fP : Addr} {fd fdD fdS fdP : FuncData} (S : Std mg) (F : Fun K "_law_bent" "_law_bent" sBent f fd) (D : Df K mg "_law_draw" sDraw fD fdD ["_law_feed_here", "_law_many"]) (PK : Df K mg "_law_pick" sPick fP fdP ["_law_feed_here", "_law_items"])
    (SG : Df K mg "_law_sign" sSign fS fdS ["_law_feed_here"]) : FnOk P w K mg base CX0 4 f fd ["_law_feed_here", "_law_text"] spBent := by
  have GD : FnOk P w K mg base CX0 1 fD fdD ["_law_feed_here", "_law_many"] spDraw := ok_draw S D.F
  have GS : FnOk P w K mg base CX0 3 fS fdS ["_law_feed_here"] spSign := ok_sign S SG.F D PK
  refine F.ok scBent (fun vs H Q E h => ?_) (fun cdv A outer s H vs Q E hr h => ?_)
  · obtain ⟨l, z, rfl, _⟩ := h
    rfl
  · obtain ⟨l, z, rfl, hz, hf, q⟩ := h
    have hr1 : Room 1 _ := hr.mono (by decide)
    refine ⟨_, pss_cons (ps_par3 (i := 2) (j := 3) (l := 4) rfl scBent.nd rfl rfl rfl (by decide) (by decide) (by decide) rfl rfl rfl
        (pa_cons (pe_call GD hr1 rfl D.g D.F.kp D.b .nil pass0 (pa_cons (pv 0) (pa_cons (pe_op op_add (pe_callB call_len (by rfl) S.len PySem.boot_len (pa_cons (pv 1) pa_nil)) pe_int) pa_nil)))
        (pa_cons (pe_call GD hr1 rfl D.g D.F.kp D.b .nil pass0 (pa_cons (pv 0) (pa_cons pe_int pa_nil)))
        (pa_cons (pe_call GS hr rfl SG.g SG.F.kp SG.b .nil pass0 (pa_cons (pv 0) pa_nil)) pa_nil))) rfl)
      (pss_cons (ps_if (pt_cmpR op_eq (pv 3) pe_int (nomark _)) (pss_one (ps_ret (pe_op op_add_str (pe_op op_add_str (pe_slice sl_str (pv 1) po_none (po_some (pv 2))) (pv 4)) (pe_slice sl_str (pv 1) (po_some (pv 2)) po_none)))) pss_nil)
      (pss_cons (ps_if (pt_cmpR op_eq (pv 3) pe_int (nomark _)) (pss_one (ps_ret (pe_op op_add_str (pe_op op_add_str (pe_slice sl_str (pv 1) po_none (po_some (pv 2))) (pv 4)) (pe_slice sl_str (pv 1) (po_some (pe_op op_add (pv 2) pe_int)) po_none)))) pss_nil)
      (pss_cons (ps_if (pt_cmpR op_eq (pv 3) pe_int (nomark _)) (pss_one (ps_ret (pe_op op_add_str (pe_slice sl_str (pv 1) po_none (po_some (pv 2))) (pe_slice sl_str (pv 1) (po_some (pe_op op_add (pv 2) pe_int)) po_none)))) pss_nil)
      (pss_one (ps_ret (pe_op op_add_str (pe_slice sl_str (pv 1) po_none (po_some (pe_op op_add (pv 2) pe_int))) (pe_slice sl_str (pv 1) (po_some (pv 2)) po_none))))))), ?_⟩
    have sz : (16777216 : Nat) ≤ sizeLine := by decide
    refine ⟨_, rfl, _, rfl, _, z.length, rfl, ⟨by omega, rfl⟩, _, _, rfl, rfl, l, _, rfl, hf, by show (1 : Int) ≤ z.length + 1; omega, by show (z.length : Int) + 1 < 1073741824; omega, fun d0 H1 dl du hf1 k1 => ?_⟩
    obtain ⟨d, rfl⟩ : ∃ d : Nat, d0 = (d : Int) := ⟨d0.toNat, by omega⟩
    refine ⟨_, rfl, l, 4, rfl, hf1, by decide, by decide, fun v H2 v0 v1 hf2 k2 => ?_⟩
    refine ⟨_, rfl, l, rfl, hf2, fun c H3 hf3 k3 => ?_⟩
    have zs : z.length ≤ sizeLine := by omega
    have k : Keep l H H3 := (k1.trans k2).trans k3
    have one : (⟨#[c]⟩ : Str).length = 1 := rfl
    have cl : ∀ a b, (cutS z a b).length ≤ z.length := fun a b => cutS_length z a b
    have e1 : ((d : Int) + 1) = ((d + 1 : Nat) : Int) := by omega
    have c1 := cl none (some (d : Int))
    have c2 := cl (some (d : Int)) none
    have c3 := cl none (some ((d + 1 : Nat) : Int))
    have c4 := cl (some ((d + 1 : Nat) : Int)) none
    have nil2 : ∀ {y x : Str}, y ++ Str.empty ++ x = y ++ x := fun {y x} => by rw [Str.append_empty]
    refine ⟨_, _, _, rfl, _, rfl, rfl, _, rfl, ite2 (fun _ => ?_) (fun _ => ?_)⟩
    · refine ⟨_, rfl, _, rfl, d, rfl, z, rfl, zs, _, rfl, _, _, rfl, rfl, by omega, ?_⟩
      refine ⟨_, rfl, _, rfl, d, rfl, z, rfl, zs, _, _, rfl, rfl, by rw [len_app]; omega, ?_⟩
      exact q _ H3 (chg_cut (Nat.le_succ _) (by omega) (.inr (Nat.le_refl _))) hf3 k
    refine ⟨_, rfl, rfl, _, rfl, ite2 (fun _ => ?_) (fun _ => ?_)⟩
    · refine ⟨_, rfl, _, rfl, d, rfl, z, rfl, zs, _, rfl, _, _, rfl, rfl, by omega, ?_⟩
      refine ⟨_, rfl, _, rfl, _, _, rfl, rfl, _, rfl, z, rfl, zs, ?_⟩
      rw [e1]
      refine ⟨_, _, rfl, rfl, by rw [len_app]; omega, ?_⟩
      exact q _ H3 (chg_cut (by omega) (by omega) (.inr (Nat.le_succ _))) hf3 k
    refine ⟨_, rfl, rfl, _, rfl, ite2 (fun _ => ?_) (fun _ => ?_)⟩
    · refine ⟨_, rfl, _, rfl, d, rfl, z, rfl, zs, ?_⟩
      refine ⟨_, rfl, _, rfl, _, _, rfl, rfl, _, rfl, z, rfl, zs, ?_⟩
      rw [e1]
      refine ⟨_, _, rfl, rfl, by omega, ?_⟩
      have := chg_cut (z := z) (m := Str.empty) (a := d) (b := d + 1) (by omega) (Nat.zero_le _) (.inl rfl)
      rw [nil2] at this
      exact q _ H3 this hf3 k
    · refine ⟨_, rfl, _, rfl, _, _, rfl, rfl, _, rfl, z, rfl, zs, ?_⟩
      rw [e1]
      refine ⟨_, rfl, _, rfl, d, rfl, z, rfl, zs, _, _, rfl, rfl, by omega, ?_⟩
      have := chg_cut (z := z) (m := Str.empty) (a := d + 1) (b := d) (Nat.le_refl _) (Nat.zero_le _) (.inl rfl)
      rw [nil2] at this
      exact q _ H3 this hf3 k
end
end LK

namespace LK
open PySem PySem.Spec PyProof.Rows L2 LR
/-- one or two blanks -/
def rBlank : R2 := fun x y H Q => ∃ n : Int, x = .str (Str.ofString " ") ∧ y = .int n ∧ (n = 1 ∨ n = 2) ∧ ∀ m : Str, m.length ≤ 2 → One m → Q (.str m) H
theorem op_blank {X : Cx} : OpR X (binaryOp .Mult) rBlank := by
  intro pins s σ H x y v u Q I rx ry h
  obtain ⟨n, rfl, rfl, hn, q⟩ := h
  obtain ⟨t, rfl⟩ := rx
  obtain ⟨t', rfl⟩ := ry
  have e1 : (Str.ofString " ").length = 1 := by decide +kernel
  rcases hn with rfl | rfl
  · refine PySem.P.mul_str (by decide) (fun _ h => nomatch h) (fun _ h => nomatch h) ?_
    rw [if_neg (by decide), if_pos (by decide)]
    exact ⟨.str _, H, I, ⟨_, rfl⟩, q _ (by rw [e1]; decide) (by unfold One; decide +kernel)⟩
  · refine PySem.P.mul_str (by decide) (fun _ _ => by rw [e1]; decide) (fun _ _ => by rw [e1]; decide) ?_
    rw [if_neg (by decide), if_neg (by rw [e1]; decide)]
    have e2 : (⟨(List.replicate (2 : Int).toNat (Str.ofString " ").cps).foldl (· ++ ·) #[]⟩ : Str) = Str.ofString "  " := by decide +kernel
    rw [e2]
    exact ⟨by decide +kernel, .str _, H, I.tok _, ⟨_, rfl⟩, q _ (by decide +kernel) (by unfold One; decide +kernel)⟩
theorem cut_to {xs : List V} (a : Nat) : cutV xs none (some (a : Int)) = xs.take a := by
  unfold cutV
  rw [HT.sIx_nat, HT.sIx_none, List.drop_zero, Nat.sub_zero]
  rcases Nat.le_total a xs.length with h | h
  · rw [Nat.min_eq_left h]
  · rw [Nat.min_eq_right h, List.take_length, List.take_of_length_le h]
theorem cut_from {xs : List V} (a : Nat) : cutV xs (some (a : Int)) none = xs.drop a := by
  unfold cutV
  rw [HT.sIx_nat, HT.sIx_none]
  rcases Nat.le_total a xs.length with h | h
  · rw [Nat.min_eq_left h]
    exact List.take_of_length_le (by rw [List.length_drop]; exact Nat.le_refl _)
  · rw [Nat.min_eq_right h, Nat.sub_self, List.take_zero]
    symm
    rw [List.drop_eq_nil_iff]
    exact h
theorem cut_mid {xs : List V} (a : Nat) : cutV xs (some ((a : Nat) : Int)) (some ((a + 1 : Nat) : Int)) = (xs.drop a).take 1 := by
  unfold cutV
  rw [HT.sIx_nat, HT.sIx_nat]
  by_cases h : a < xs.length
  · rw [Nat.min_eq_left (by omega), Nat.min_eq_left (by omega), show a + 1 - a = 1 by omega]
  · have e : xs.drop xs.length = [] := List.drop_length
    have e' : xs.drop a = [] := List.drop_eq_nil_iff.mpr (by omega)
    rw [Nat.min_eq_right (show xs.length ≤ a by omega), e, e', List.take_nil, List.take_nil]
theorem chg_join {z : Str} {ps : List Str} (h1 : ∀ p, p ∈ ps → One p) (h2 : wt ps ≤ 2 * z.length + 20) (h3 : ps.length ≤ (linesOf z).length + 1) : Chg z (Txt.join nlS ps) := by
  refine ⟨Nat.le_trans (join_wt ps) h2, Nat.le_trans (join_lines h1) ?_⟩
  have := lines_count z
  omega
theorem parts_at {z : Str} {i : Nat} {x : Str} (h : (linesOf z)[i]? = some x) : linesOf z = (linesOf z).take i ++ x :: (linesOf z).drop (i + 1) := by
  rw [← drop_get h, List.take_append_drop]
theorem chg_mid {z : Str} {i : Nat} {x : Str} {M : List Str} (h : (linesOf z)[i]? = some x) (hM : ∀ p, p ∈ M → One p) (hl : M.length ≤ 2) (hw : wt M ≤ 2 * (x.length + 1) + 12) : Chg z (Txt.join nlS ((linesOf z).take i ++ M ++ (linesOf z).drop (i + 1))) := by
  have w := wt_lines z
  have e := congrArg wt (parts_at h)
  have el := congrArg List.length (parts_at h)
  rw [show x :: (linesOf z).drop (i + 1) = [x] ++ (linesOf z).drop (i + 1) from rfl, wt_app, wt_app, wt_one, w] at e
  rw [List.length_append, List.length_cons] at el
  refine chg_join (fun p hp => ?_) ?_ ?_
  · rcases List.mem_append.mp hp with hp | hp
    · rcases List.mem_append.mp hp with hp | hp
      · exact lines_one z p (List.mem_of_mem_take hp)
      · exact hM p hp
    · exact lines_one z p (List.mem_of_mem_drop hp)
  · rw [wt_app, wt_app]
    omega
  · rw [List.length_append, List.length_append]
    omega
theorem chg_turn {z : Str} {i : Nat} {x : Str} (h : (linesOf z)[i]? = some x) : Chg z (Txt.join nlS ((linesOf z).take i ++ (((linesOf z).drop (i + 1)).take 1 ++ [x]) ++ (linesOf z).drop (i + 2))) := by
  have w := wt_lines z
  have e := congrArg wt (parts_at h)
  have el := congrArg List.length (parts_at h)
  rw [show x :: (linesOf z).drop (i + 1) = [x] ++ (linesOf z).drop (i + 1) from rfl, wt_app, wt_app, wt_one, w] at e
  rw [List.length_append, List.length_cons] at el
  have d : (linesOf z).drop (i + 1) = ((linesOf z).drop (i + 1)).take 1 ++ (linesOf z).drop (i + 2) := by
    have := (List.take_append_drop 1 ((linesOf z).drop (i + 1))).symm
    rw [List.drop_drop] at this
    exact this
  have dw := congrArg wt d
  have dl := congrArg List.length d
  rw [wt_app] at dw
  rw [List.length_append] at dl
  refine chg_join (fun p hp => ?_) ?_ ?_
  · rcases List.mem_append.mp hp with hp | hp
    · rcases List.mem_append.mp hp with hp | hp
      · exact lines_one z p (List.mem_of_mem_take hp)
      · rcases List.mem_append.mp hp with hp | hp
        · exact lines_one z p (List.mem_of_mem_drop (List.mem_of_mem_take hp))
        · rw [List.mem_singleton.mp hp]
          exact lines_one z x (List.mem_of_getElem? h)
    · exact lines_one z p (List.mem_of_mem_drop hp)
  · rw [wt_app, wt_app, wt_app, wt_one]
    omega
  · rw [List.length_append, List.length_append, List.length_append]
    show _ + (_ + 1) + _ ≤ _
    omega
theorem few_x {z : Str} {i : Nat} {x : Str} (h : (linesOf z)[i]? = some x) : x.length ≤ z.length := by
  have w := wt_lines z
  have e := congrArg wt (parts_at h)
  rw [show x :: (linesOf z).drop (i + 1) = [x] ++ (linesOf z).drop (i + 1) from rfl, wt_app, wt_app, wt_one, w] at e
  omega
def someS : List Str := ["so", "", "  so", "x <= y", "x < y", "so so", "x <= y <= z", "x <=  y", " x <= y", "x<=y", "x <= ", "  "]
theorem some_ok : ∀ s, s ∈ someS → s.length ≤ 11 ∧ One s := by
  unfold someS One
  decide +kernel
def spChanged : Sp := fun vs H Q _ => ∃ (l : Addr) (z : Str), vs = [.ref l, .str z] ∧ z.length ≤ 45000 ∧ (linesOf z).length ≤ 31 ∧ Feed H l ∧ ∀ y H', Chg z y → Feed H' l → Keep l H H' → Q (.str y) H'
theorem map_take' (ls : List Str) (a : Nat) : (ls.map V.str).take a = (ls.take a).map V.str := (List.map_take).symm
theorem map_drop' (ls : List Str) (a : Nat) : (ls.map V.str).drop a = (ls.drop a).map V.str := (List.map_drop).symm
section
variable {P : Program} {w : World} {K : PySem.W.Frag} {mg : Str → Option Value} {base : Heap}
def nChanged : List Str := ["_law_feed_here", "_law_text", "_law_way", "_law_lines", "_law_at", "_law_line", "_law_some", "_law_more"]
theorem scChanged : FnScope nChanged ["_law_feed_here", "_law_text"] (defScope sChanged) := ⟨rfl, rfl, rfl, by decide +kernel, rfl, by decide +kernel, by decide +kernel⟩
theorem ok_changed {f fD fS fP fB : Addr} {fd fdD fdS fdP fdB : FuncData} (S : Std mg) (F : Fun K "_law_changed" "_law_changed" sChanged f fd) (D : Df K mg "_law_draw" sDraw fD fdD ["_law_feed_here", "_law_many"]) (PK : Df K mg "_law_pick" sPick fP fdP ["_law_feed_here", "_law_items"])
    (SG : Df K mg "_law_sign" sSign fS fdS ["_law_feed_here"]) (B : Df K mg "_law_bent" sBent fB fdB ["_law_feed_here", "_law_text"]) : FnOk P w K mg base CX0 5 f fd ["_law_feed_here", "_law_text"] spChanged := by
  have GD : FnOk P w K mg base CX0 1 fD fdD ["_law_feed_here", "_law_many"] spDraw := ok_draw S D.F
  have GP : FnOk P w K mg base CX0 2 fP fdP ["_law_feed_here", "_law_items"] (spPick K) := ok_pick S PK.F D
  have GB : FnOk P w K mg base CX0 4 fB fdB ["_law_feed_here", "_law_text"] spBent := ok_bent S B.F D PK SG
  refine F.ok scChanged (fun vs H Q E h => ?_) (fun cdv A outer s H vs Q E hr h => ?_)
  · obtain ⟨l, z, rfl, _⟩ := h
    rfl
  · obtain ⟨l, z, rfl, hz, hm, hf, q⟩ := h
    have hr1 : Room 1 _ := hr.mono (by decide)
    have hr2 : Room 2 _ := hr.mono (by decide)
    refine ⟨_, pss_cons (ps_par (i := 2) (j := 3) (by rfl) scChanged.nd rfl rfl (by decide) rfl rfl (pa_cons (pe_call GD hr1 rfl D.g D.F.kp D.b .nil pass0 (pa_cons (pv 0) (pa_cons pe_int pa_nil))) (pa_cons (pe_split (pv 1) pe_str) pa_nil)) (by rfl))
      (pss_cons (ps_set (i := 4) scChanged.nd rfl (Or.inl rfl) (pe_call GD hr1 rfl D.g D.F.kp D.b .nil pass0 (pa_cons (pv 0) (pa_cons (pe_callB call_len_seq (by rfl) S.len PySem.boot_len (pa_cons (pv 3) pa_nil)) pa_nil))))
      (pss_cons (ps_set (i := 5) scChanged.nd rfl (Or.inl rfl) (pe_ix ix_list (pv 3) (pv 4) (fun _ _ => rfl)))
      (pss_cons (ps_set (i := 6) scChanged.nd rfl (Or.inl rfl) (pe_lst (pa_cons pe_str (pa_cons pe_str (pa_cons pe_str (pa_cons pe_str (pa_cons pe_str (pa_cons pe_str (pa_cons pe_str pa_nil)))))))))
      (pss_cons (ps_set (i := 6) scChanged.nd rfl (Or.inl rfl) (pe_op op_cat (pv 6) (pe_lst (pa_cons pe_str (pa_cons pe_str (pa_cons pe_str (pa_cons pe_str (pa_cons pe_str pa_nil))))))))
      (pss_cons (ps_if (pt_cmpR op_lt (pv 2) pe_int (nomark _)) (pss_one (ps_ret (pe_call GB hr rfl B.g B.F.kp B.b .nil pass0 (pa_cons (pv 0) (pa_cons (pv 1) pa_nil))))) pss_nil)
      (pss_cons (ps_if (pt_cmpR op_eq (pv 2) pe_int (nomark _)) (pss_one (ps_ret (pe_join pe_str (pe_op op_cat (pe_slice sl_list (pv 3) po_none (po_some (pv 4))) (pe_slice sl_list (pv 3) (po_some (pe_op op_add (pv 4) pe_int)) po_none))))) pss_nil)
      (pss_cons (ps_if (pt_cmpR op_eq (pv 2) pe_int (nomark _)) (pss_one (ps_ret (pe_join pe_str (pe_op op_cat (pe_slice sl_list (pv 3) po_none (po_some (pe_op op_add (pv 4) pe_int))) (pe_slice sl_list (pv 3) (po_some (pv 4)) po_none))))) pss_nil)
      (pss_cons (ps_if (pt_cmpR op_eq (pv 2) pe_int (nomark _)) (pss_cons (ps_set (i := 7) scChanged.nd rfl (Or.inl rfl) (pe_op op_cat (pe_slice sl_list (pv 3) (po_some (pe_op op_add (pv 4) pe_int)) (po_some (pe_op op_add (pv 4) pe_int))) (pe_lst (pa_cons (pv 5) pa_nil))))
        (pss_one (ps_ret (pe_join pe_str (pe_op op_cat (pe_op op_cat (pe_slice sl_list (pv 3) po_none (po_some (pv 4))) (pv 7)) (pe_slice sl_list (pv 3) (po_some (pe_op op_add (pv 4) pe_int)) po_none)))))) pss_nil)
      (pss_cons (ps_if (pt_cmpR op_eq (pv 2) pe_int (nomark _)) (pss_cons (ps_set (i := 5) scChanged.nd rfl (Or.inl rfl) (pe_op op_add_str (pe_op op_blank pe_str (pe_op op_add pe_int (pe_call GD hr1 rfl D.g D.F.kp D.b .nil pass0 (pa_cons (pv 0) (pa_cons pe_int pa_nil))))) (pv 5)))
        (pss_one (ps_ret (pe_join pe_str (pe_op op_cat (pe_op op_cat (pe_slice sl_list (pv 3) po_none (po_some (pv 4))) (pe_lst (pa_cons (pv 5) pa_nil))) (pe_slice sl_list (pv 3) (po_some (pe_op op_add (pv 4) pe_int)) po_none)))))) pss_nil)
      (pss_cons (ps_if (pt_cmpR op_eq (pv 2) pe_int (nomark _)) (pss_cons (ps_set (i := 5) scChanged.nd rfl (Or.inl rfl) (pe_slice sl_str (pv 5) (po_some (pe_callB (call_min2 rfl) (by rfl) S.min (by decide +kernel) (pa_cons (pe_callB call_len_str (by rfl) S.len PySem.boot_len (pa_cons (pv 5) pa_nil)) (pa_cons (pe_op op_add pe_int (pe_call GD hr1 rfl D.g D.F.kp D.b .nil pass0 (pa_cons (pv 0) (pa_cons pe_int pa_nil)))) pa_nil)))) po_none))
        (pss_one (ps_ret (pe_join pe_str (pe_op op_cat (pe_op op_cat (pe_slice sl_list (pv 3) po_none (po_some (pv 4))) (pe_lst (pa_cons (pv 5) pa_nil))) (pe_slice sl_list (pv 3) (po_some (pe_op op_add (pv 4) pe_int)) po_none)))))) pss_nil)
      (pss_one (ps_ret (pe_join pe_str (pe_op op_cat (pe_op op_cat (pe_slice sl_list (pv 3) po_none (po_some (pv 4))) (pe_lst (pa_cons (pe_call GP hr2 rfl PK.g PK.F.kp PK.b .nil pass0 (pa_cons (pv 0) (pa_cons (pv 6) pa_nil))) pa_nil))) (pe_slice sl_list (pv 3) (po_some (pe_op op_add (pv 4) pe_int)) po_none))))))))))))))), ?_⟩
    have sz : (16777216 : Nat) ≤ sizeLine := by decide
    refine ⟨_, rfl, l, 8, rfl, hf, by decide, by decide, fun way H1 w0 w1 hf1 k1 => ?_⟩
    refine ⟨_, rfl, ⟨_, rfl⟩, _, _, rfl, rfl, by decide +kernel, by omega, fun p hp => ?_⟩
    have hn0 : 0 < (linesOf z).length := by rw [lines_count]; exact Nat.zero_lt_succ _
    have h1 : (upd H1 p (.lst ((linesOf z).map V.str))) p = some (.lst ((linesOf z).map V.str)) := upd_same
    have s1 : Same H1 (upd H1 p (.lst ((linesOf z).map V.str))) := same_new hp
    have hlp := hf1.ne hp
    have hf2 := hf1.same s1
    have k2 := k1.trans (Keep.same s1 (l := l))
    rw [show Txt.split z (Str.ofString "\n") = linesOf z from rfl]
    generalize (upd H1 p (.lst ((linesOf z).map V.str))) = H2 at h1 s1 hf2 k2 ⊢
    refine ⟨_, _, rfl, ?_⟩
    refine ⟨_, rfl, _, rfl, p, _, rfl, .inl (SqL.of h1), l, ((linesOf z).length : Int), (by rw [List.length_map]; rfl), hf2, by omega, by omega, fun d0 H3 dl du hf3 k3 => ?_⟩
    obtain ⟨i, rfl⟩ : ∃ i : Nat, d0 = (i : Int) := ⟨d0.toNat, by omega⟩
    have hi : i < (linesOf z).length := by omega
    obtain ⟨x, hx⟩ : ∃ x, (linesOf z)[i]? = some x := ⟨_, List.getElem?_eq_getElem hi⟩
    have h3 := k3 _ _ hlp.symm h1
    have lx := (few_x hx)
    refine ⟨_, rfl, _, rfl, p, _, _, _, rfl, rfl, SqL.of h3, atI_nat (item_str hx), ?_⟩
    refine ⟨(by show 7 ≤ sizeLine; decide), fun p4 hp4 => ⟨_, rfl, (by show 5 ≤ sizeLine; decide), fun p5 hp5 => ⟨p4, p5, _, _, rfl, rfl, same_new hp5 _ _ upd_same, upd_same, (by show 12 ≤ sizeLine; decide), fun p6 hp6 => ?_⟩⟩⟩
    have s6 := ((same_new (o := .lst [V.str "so", V.str "", V.str "  so", V.str "x <= y", V.str "x < y", V.str "so so", V.str "x <= y <= z"]) hp4).trans (same_new (o := .lst [V.str "x <=  y", V.str " x <= y", V.str "x<=y", V.str "x <= ", V.str "  "]) hp5)).trans (same_new (o := .lst (someS.map V.str)) hp6)
    have h6 : (upd (upd (upd H3 p4 (.lst [V.str "so", V.str "", V.str "  so", V.str "x <= y", V.str "x < y", V.str "so so", V.str "x <= y <= z"])) p5 (.lst [V.str "x <=  y", V.str " x <= y", V.str "x<=y", V.str "x <= ", V.str "  "])) p6 (.lst (someS.map V.str))) p6 = some (.lst (someS.map V.str)) := upd_same
    show (tSeq _ _ _ _ (upd (upd (upd H3 p4 (.lst [V.str "so", V.str "", V.str "  so", V.str "x <= y", V.str "x < y", V.str "so so", V.str "x <= y <= z"])) p5 (.lst [V.str "x <=  y", V.str " x <= y", V.str "x<=y", V.str "x <= ", V.str "  "])) p6 (.lst (someS.map V.str))))
    have hL := s6 _ _ h3
    have hfk := hf3.same s6
    have kk := (k2.trans k3).trans (Keep.same s6)
    have hl6 : l ≠ p6 := by
      obtain ⟨a', b', e, _⟩ := hf3
      have n4 := ne_of_none e hp4
      have e5 := same_new (o := .lst [V.str "so", V.str "", V.str "  so", V.str "x <= y", V.str "x < y", V.str "so so", V.str "x <= y <= z"]) hp4 _ _ e
      have e6 := same_new (o := .lst [V.str "x <=  y", V.str " x <= y", V.str "x<=y", V.str "x <= ", V.str "  "]) hp5 _ _ e5
      exact ne_of_none e6 hp6
    generalize (upd (upd (upd H3 p4 (.lst [V.str "so", V.str "", V.str "  so", V.str "x <= y", V.str "x < y", V.str "so so", V.str "x <= y <= z"])) p5 (.lst [V.str "x <=  y", V.str " x <= y", V.str "x<=y", V.str "x <= ", V.str "  "])) p6 (.lst (someS.map V.str))) = H4 at h6 hL hfk kk ⊢
    have w := wt_lines z
    have fin : ∀ (ps : List Str) (m : Addr) (H' : Hp), H' m = some (.lst (ps.map V.str)) → wt ps ≤ 200000 → Chg z (Txt.join nlS ps) → Feed H' l → Keep l H H' → (∃ a p, ∃ ys : List Str, V.str (Str.ofString "\n") = V.str a ∧ [V.ref m] = [V.ref p] ∧ (SqL K H' p (ys.map V.str) ∨ SqT K H' p (ys.map V.str)) ∧
        (ys.map (·.length)).sum + ys.length * a.length ≤ 16777216 ∧ Q (.str (Txt.join a ys)) H') := fun ps m H' hm hw hc hf' k' => by
      refine ⟨_, m, ps, rfl, rfl, .inl (SqL.of hm), ?_, q _ H' hc hf' k'⟩
      have e1 : (Str.ofString "\n").length = 1 := by decide +kernel
      rw [e1, wt_sum]
      omega
    have wtk : ∀ a, wt ((linesOf z).take a) ≤ wt (linesOf z) := fun a => by
      have := congrArg wt (List.take_append_drop a (linesOf z))
      rw [wt_app] at this
      omega
    have wdr : ∀ a, wt ((linesOf z).drop a) ≤ wt (linesOf z) := fun a => by
      have := congrArg wt (List.take_append_drop a (linesOf z))
      rw [wt_app] at this
      omega
    have ltk : ∀ a, ((linesOf z).take a).length ≤ 31 := fun a => Nat.le_trans (List.length_take_le' ..) hm
    have ldr : ∀ a, ((linesOf z).drop a).length ≤ 31 := fun a => by
      rw [List.length_drop]
      omega
    have ei1 : ((i : Int) + 1) = ((i + 1 : Nat) : Int) := by omega
    have ei2 : ((i : Int) + 2) = ((i + 2 : Nat) : Int) := by omega
    -- lines[:a] + M + lines[b:], from a list of M on
    have mid : ∀ (H5 : Hp) (m : Addr) (M : List Str) (b : Nat) (A1 : Addr), H5 p = some (.lst ((linesOf z).map V.str)) → H5 A1 = some (.lst (((linesOf z).take i).map V.str)) → H5 m = some (.lst (M.map V.str)) → M.length ≤ 31 → wt M ≤ 100000 → Chg z (Txt.join nlS ((linesOf z).take i ++ M ++ (linesOf z).drop b)) → Feed H5 l → Keep l H H5 →
        (((linesOf z).take i).map V.str).length + (M.map V.str).length ≤ sizeLine ∧ ∀ c1, H5 c1 = none → ∀ A2, (upd H5 c1 (.lst (((linesOf z).take i).map V.str ++ M.map V.str))) A2 = none → 
        ((upd (upd H5 c1 (.lst (((linesOf z).take i).map V.str ++ M.map V.str))) A2 (.lst (((linesOf z).drop b).map V.str))) c1 = some (.lst (((linesOf z).take i ++ M).map V.str)) ∧ (((linesOf z).take i ++ M).map V.str).length + (((linesOf z).drop b).map V.str).length ≤ sizeLine ∧ ∀ c2, (upd (upd H5 c1 (.lst (((linesOf z).take i).map V.str ++ M.map V.str))) A2 (.lst (((linesOf z).drop b).map V.str))) c2 = none →
          (∃ a p, ∃ ys : List Str, V.str (Str.ofString "\n") = V.str a ∧ [V.ref c2] = [V.ref p] ∧ (SqL K (upd (upd (upd H5 c1 (.lst (((linesOf z).take i).map V.str ++ M.map V.str))) A2 (.lst (((linesOf z).drop b).map V.str))) c2 (.lst ((((linesOf z).take i ++ M).map V.str) ++ ((linesOf z).drop b).map V.str))) p (ys.map V.str) ∨ SqT K (upd (upd (upd H5 c1 (.lst (((linesOf z).take i).map V.str ++ M.map V.str))) A2 (.lst (((linesOf z).drop b).map V.str))) c2 (.lst ((((linesOf z).take i ++ M).map V.str) ++ ((linesOf z).drop b).map V.str))) p (ys.map V.str)) ∧
            (ys.map (·.length)).sum + ys.length * a.length ≤ 16777216 ∧ Q (.str (Txt.join a ys)) (upd (upd (upd H5 c1 (.lst (((linesOf z).take i).map V.str ++ M.map V.str))) A2 (.lst (((linesOf z).drop b).map V.str))) c2 (.lst ((((linesOf z).take i ++ M).map V.str) ++ ((linesOf z).drop b).map V.str))))) := by
      intro H5 m M b A1 hp5 hA1 hM lM wM hc hf5 k5
      have l1 := ltk i
      have l2 := ldr b
      refine ⟨by simp only [List.length_append, List.length_map]; omega, fun c1 hc1 A2 hA2 => ⟨?_, by simp only [List.length_append, List.length_map]; omega, fun c2 hc2 => ?_⟩⟩
      · rw [upd_ne (ne_of_none upd_same hA2), upd_same, List.map_append]
      · have ss := ((same_new (o := .lst (((linesOf z).take i).map V.str ++ M.map V.str)) hc1).trans (same_new (o := .lst (((linesOf z).drop b).map V.str)) hA2)).trans (same_new (o := .lst ((((linesOf z).take i ++ M).map V.str) ++ ((linesOf z).drop b).map V.str)) hc2)
        refine fin ((linesOf z).take i ++ M ++ (linesOf z).drop b) c2 _ ?_ ?_ hc (hf5.same ss) (k5.trans (Keep.same ss))
        · rw [upd_same, List.map_append (l₁ := (linesOf z).take i ++ M)]
        · rw [wt_app, wt_app]
          have := wtk i
          have := wdr b
          omega
    refine ⟨_, rfl, _, _, rfl, rfl, _, rfl, ite2 (fun _ => ?_) (fun _ => ?_)⟩
    · refine ⟨_, rfl, _, rfl, l, z, rfl, by omega, hfk, fun y H5 hc hf5 k5 => q y H5 hc hf5 (kk.trans k5)⟩
    refine ⟨_, rfl, rfl, _, rfl, ite2 (fun _ => ?_) (fun _ => ?_)⟩
    · -- a line out
      refine ⟨⟨_, rfl⟩, _, rfl, _, rfl, i, rfl, p, _, rfl, SqL.of hL, fun A1 hA1 => ?_⟩
      rw [cut_to, map_take']
      have sA := same_new (o := .lst (((linesOf z).take i).map V.str)) hA1
      refine ⟨_, rfl, _, rfl, _, _, rfl, rfl, _, rfl, p, _, rfl, SqL.of (sA _ _ hL), fun A2 hA2 => ?_⟩
      rw [ei1, cut_from, map_drop']
      have sB := same_new (o := .lst (((linesOf z).drop (i + 1)).map V.str)) hA2
      refine ⟨A1, A2, _, _, rfl, rfl, sB _ _ upd_same, upd_same, ?_, fun c hc => ?_⟩
      · have := ltk i
        have := ldr (i + 1)
        simp only [List.length_map]
        omega
      have sC := (sA.trans sB).trans (same_new (o := .lst (((linesOf z).take i).map V.str ++ ((linesOf z).drop (i + 1)).map V.str)) hc)
      have cm := chg_mid (M := []) hx (by simp) (by decide) (by show 0 ≤ _; omega)
      rw [List.append_nil] at cm
      refine fin ((linesOf z).take i ++ (linesOf z).drop (i + 1)) c _ (by rw [upd_same, List.map_append]) ?_ cm (hfk.same sC) (kk.trans (Keep.same sC))
      rw [wt_app]
      have := wtk i
      have := wdr (i + 1)
      omega
    refine ⟨_, rfl, rfl, _, rfl, ite2 (fun _ => ?_) (fun _ => ?_)⟩
    · -- a line twice
      refine ⟨⟨_, rfl⟩, _, rfl, _, rfl, _, _, rfl, rfl, _, rfl, p, _, rfl, SqL.of hL, fun A1 hA1 => ?_⟩
      rw [ei1, cut_to, map_take']
      have sA := same_new (o := .lst (((linesOf z).take (i + 1)).map V.str)) hA1
      refine ⟨_, rfl, _, rfl, i, rfl, p, _, rfl, SqL.of (sA _ _ hL), fun A2 hA2 => ?_⟩
      rw [cut_from, map_drop']
      have sB := same_new (o := .lst (((linesOf z).drop i).map V.str)) hA2
      refine ⟨A1, A2, _, _, rfl, rfl, sB _ _ upd_same, upd_same, ?_, fun c hc => ?_⟩
      · have := ltk (i + 1)
        have := ldr i
        simp only [List.length_map]
        omega
      have sC := (sA.trans sB).trans (same_new (o := .lst (((linesOf z).take (i + 1)).map V.str ++ ((linesOf z).drop i).map V.str)) hc)
      have cm := chg_mid (M := [x, x]) hx (fun y hy => lines_one z y (by
        have : y = x := by simpa using hy
        rw [this]
        exact List.mem_of_getElem? hx)) (by show 2 ≤ 2; decide) (by
          unfold wt
          simp
          omega)
      have ee : (linesOf z).take i ++ [x, x] ++ (linesOf z).drop (i + 1) = (linesOf z).take (i + 1) ++ (linesOf z).drop i := by
        rw [List.take_add_one, hx, drop_get hx]
        simp
      rw [ee] at cm
      refine fin ((linesOf z).take (i + 1) ++ (linesOf z).drop i) c _ (by rw [upd_same, List.map_append]) ?_ cm (hfk.same sC) (kk.trans (Keep.same sC))
      rw [wt_app]
      have := wtk (i + 1)
      have := wdr i
      omega
    refine ⟨_, rfl, rfl, _, rfl, ite2 (fun _ => ?_) (fun _ => ?_)⟩
    · -- a line and the next one exchanged
      refine ⟨_, rfl, _, rfl, _, _, rfl, rfl, _, rfl, _, rfl, _, _, rfl, rfl, _, rfl, p, _, rfl, SqL.of hL, fun A3 hA3 => ?_⟩
      rw [ei1, ei2, show ((i + 2 : Nat) : Int) = ((i + 1 + 1 : Nat) : Int) from rfl, cut_mid, map_drop', ← List.map_take]
      have s3 := same_new (o := .lst ((((linesOf z).drop (i + 1)).take 1).map V.str)) hA3
      refine ⟨_, rfl, (by show 1 ≤ sizeLine; decide), fun A4 hA4 => ?_⟩
      have s4 := same_new (o := .lst [V.str x]) hA4
      have lt1 : (((linesOf z).drop (i + 1)).take 1).length ≤ 1 := List.length_take_le ..
      refine ⟨A3, A4, _, _, rfl, rfl, s4 _ _ upd_same, upd_same, by simp only [List.length_map]; show _ + 1 ≤ _; omega, fun A5 hA5 => ?_⟩
      have s5 := (s3.trans s4).trans (same_new (o := .lst ((((linesOf z).drop (i + 1)).take 1).map V.str ++ [V.str x])) hA5)
      have h5 : (upd (upd (upd H4 A3 (.lst ((((linesOf z).drop (i + 1)).take 1).map V.str))) A4 (.lst [V.str x])) A5 (.lst ((((linesOf z).drop (i + 1)).take 1).map V.str ++ [V.str x]))) A5 = some (.lst ((((linesOf z).drop (i + 1)).take 1 ++ [x]).map V.str)) := by
        rw [upd_same, List.map_append]
        rfl
      generalize (upd (upd (upd H4 A3 (.lst ((((linesOf z).drop (i + 1)).take 1).map V.str))) A4 (.lst [V.str x])) A5 (.lst ((((linesOf z).drop (i + 1)).take 1).map V.str ++ [V.str x]))) = H5 at s5 h5 ⊢
      refine ⟨⟨_, rfl⟩, _, rfl, _, rfl, i, rfl, p, _, rfl, SqL.of (s5 _ _ hL), fun A1 hA1 => ?_⟩
      rw [cut_to, map_take']
      have sA := same_new (o := .lst (((linesOf z).take i).map V.str)) hA1
      have sx := s5.trans sA
      obtain ⟨m1, m2⟩ := mid _ A5 (((linesOf z).drop (i + 1)).take 1 ++ [x]) (i + 2) A1 (sx _ _ hL) upd_same (sA _ _ h5) (by rw [List.length_append]; show _ + 1 ≤ 31; omega) (by
        rw [wt_app, wt_one]
        have e : wt (((linesOf z).drop (i + 1)).take 1) ≤ wt (linesOf z) := by
          have := congrArg wt (List.take_append_drop 1 ((linesOf z).drop (i + 1)))
          rw [wt_app] at this
          have := wdr (i + 1)
          omega
        omega) (chg_turn hx) (hfk.same sx) (kk.trans (Keep.same sx))
      refine ⟨_, rfl, A1, A5, _, _, rfl, rfl, upd_same, sA _ _ h5, m1, fun c1 hc1 => ?_⟩
      refine ⟨_, rfl, _, rfl, _, _, rfl, rfl, _, rfl, p, _, rfl, SqL.of (same_new hc1 _ _ (sx _ _ hL)), fun A2 hA2 => ?_⟩
      rw [ei2, cut_from, map_drop']
      obtain ⟨m3, m4, m5⟩ := m2 c1 hc1 A2 hA2
      exact ⟨c1, A2, _, _, rfl, rfl, m3, upd_same, m4, m5⟩
    have one := fun (H5 : Hp) (y : Str) (A1 m : Addr) (hp5 : H5 p = some (.lst ((linesOf z).map V.str))) (hA1 : H5 A1 = some (.lst (((linesOf z).take i).map V.str))) (hM : H5 m = some (.lst [V.str y])) (oy : One y) (ly : y.length ≤ x.length + 12) (hf5 : Feed H5 l) (k5 : Keep l H H5) =>
      mid H5 m [y] (i + 1) A1 hp5 hA1 hM (by show 1 ≤ 31; decide) (by rw [wt_one]; omega) (chg_mid hx (fun p hp => by rw [List.mem_singleton.mp hp]; exact oy) (by show 1 ≤ 2; decide) (by rw [wt_one]; omega)) hf5 k5
    refine ⟨_, rfl, rfl, _, rfl, ite2 (fun _ => ?_) (fun _ => ?_)⟩
    · -- blanks ahead
      refine ⟨_, rfl, l, 2, rfl, hfk, by decide, by decide, fun b H5 b0 b1 hf5 k5 => ⟨_, _, rfl, rfl, (1 + b), rfl, rfl, by omega, fun bl lb ob => ?_⟩⟩
      have hL5 := k5 _ _ hlp.symm hL
      have kk5 := kk.trans k5
      refine ⟨_, rfl, _, _, rfl, rfl, by omega, ?_⟩
      refine ⟨⟨_, rfl⟩, _, rfl, _, rfl, i, rfl, p, _, rfl, SqL.of hL5, fun A1 hA1 => ?_⟩
      rw [cut_to, map_take']
      have sA := same_new (o := .lst (((linesOf z).take i).map V.str)) hA1
      refine ⟨_, rfl, (by show 1 ≤ sizeLine; decide), fun m hm' => ?_⟩
      have sx := sA.trans (same_new (o := .lst [V.str (bl ++ x)]) hm')
      have ox : One x := lines_one z x (List.mem_of_getElem? hx)
      obtain ⟨m1, m2⟩ := one _ (bl ++ x) A1 m (sx _ _ hL5) (same_new hm' _ _ upd_same) upd_same (fun mm => by
        rw [TL.tl_append] at mm
        rcases List.mem_append.mp mm with mm | mm
        · exact ob mm
        · exact ox mm) (by rw [len_app]; omega) (hf5.same sx) (kk5.trans (Keep.same sx))
      refine ⟨A1, m, _, _, rfl, rfl, same_new hm' _ _ upd_same, upd_same, m1, fun c1 hc1 => ?_⟩
      refine ⟨_, rfl, _, rfl, _, _, rfl, rfl, _, rfl, p, _, rfl, SqL.of (same_new hc1 _ _ (sx _ _ hL5)), fun A2 hA2 => ?_⟩
      rw [ei1, cut_from, map_drop']
      obtain ⟨m3, m4, m5⟩ := m2 c1 hc1 A2 hA2
      exact ⟨c1, A2, _, _, rfl, rfl, m3, upd_same, m4, m5⟩
    refine ⟨_, rfl, rfl, _, rfl, ite2 (fun _ => ?_) (fun _ => ?_)⟩
    · -- signs off
      refine ⟨_, rfl, _, rfl, x, rfl, by omega, _, rfl, l, 2, rfl, hfk, by decide, by decide, fun b H5 b0 b1 hf5 k5 => ⟨_, _, rfl, rfl, _, _, rfl, _, rfl, x, rfl, by omega, ?_⟩⟩
      have hL5 := k5 _ _ hlp.symm hL
      have kk5 := kk.trans k5
      obtain ⟨cn, ecn⟩ : ∃ cn : Nat, (if 1 + b < (x.length : Int) then 1 + b else (x.length : Int)) = (cn : Int) := by
        split
        · exact ⟨(1 + b).toNat, by omega⟩
        · exact ⟨x.length, rfl⟩
      rw [ecn]
      have oy : One (cutS x (some (cn : Int)) none) := fun mm => by
        rw [tl_from] at mm
        exact lines_one z x (List.mem_of_getElem? hx) (List.mem_of_mem_drop mm)
      have ly : (cutS x (some (cn : Int)) none).length ≤ x.length + 12 := Nat.le_trans (cutS_length _ _ _) (by omega)
      refine ⟨⟨_, rfl⟩, _, rfl, _, rfl, i, rfl, p, _, rfl, SqL.of hL5, fun A1 hA1 => ?_⟩
      rw [cut_to, map_take']
      have sA := same_new (o := .lst (((linesOf z).take i).map V.str)) hA1
      refine ⟨_, rfl, (by show 1 ≤ sizeLine; decide), fun m hm' => ?_⟩
      have sx := sA.trans (same_new (o := .lst [V.str (cutS x (some (cn : Int)) none)]) hm')
      obtain ⟨m1, m2⟩ := one _ _ A1 m (sx _ _ hL5) (same_new hm' _ _ upd_same) upd_same oy ly (hf5.same sx) (kk5.trans (Keep.same sx))
      refine ⟨A1, m, _, _, rfl, rfl, same_new hm' _ _ upd_same, upd_same, m1, fun c1 hc1 => ?_⟩
      refine ⟨_, rfl, _, rfl, _, _, rfl, rfl, _, rfl, p, _, rfl, SqL.of (same_new hc1 _ _ (sx _ _ hL5)), fun A2 hA2 => ?_⟩
      rw [ei1, cut_from, map_drop']
      obtain ⟨m3, m4, m5⟩ := m2 c1 hc1 A2 hA2
      exact ⟨c1, A2, _, _, rfl, rfl, m3, upd_same, m4, m5⟩
    · -- another line
      refine ⟨⟨_, rfl⟩, _, rfl, _, rfl, i, rfl, p, _, rfl, SqL.of hL, fun A1 hA1 => ?_⟩
      rw [cut_to, map_take']
      have sA := same_new (o := .lst (((linesOf z).take i).map V.str)) hA1
      have hlA1 := hfk.ne hA1
      refine ⟨_, rfl, _, rfl, l, .ref p6, (fun v => ∃ s, v = .str s ∧ s ∈ someS), rfl, hfk.same sA, .inr ⟨p6, someS.map V.str, rfl, hl6.symm, SqL.of (sA _ _ h6), by decide, by decide, fun v hv => ?_⟩, ?_⟩
      · obtain ⟨s, hs, rfl⟩ := List.mem_map.mp hv
        exact ⟨s, rfl, hs⟩
      rintro v H5 ⟨y, rfl, hy⟩ hf5 k5
      obtain ⟨ly, oy⟩ := some_ok y hy
      have hL5 := k5 _ _ hlp.symm (sA _ _ hL)
      have hA5 := k5 _ _ hlA1.symm (upd_same (H := H4) (a := A1) (o := .lst (((linesOf z).take i).map V.str)))
      have kk5 := (kk.trans (Keep.same sA)).trans k5
      refine ⟨(by show 1 ≤ sizeLine; decide), fun m hm' => ?_⟩
      have sx := same_new (o := .lst [V.str y]) hm'
      obtain ⟨m1, m2⟩ := one _ y A1 m (sx _ _ hL5) (sx _ _ hA5) upd_same oy (by omega) (hf5.same sx) (kk5.trans (Keep.same sx))
      refine ⟨A1, m, _, _, rfl, rfl, sx _ _ hA5, upd_same, m1, fun c1 hc1 => ?_⟩
      refine ⟨_, rfl, _, rfl, _, _, rfl, rfl, _, rfl, p, _, rfl, SqL.of (same_new hc1 _ _ (sx _ _ hL5)), fun A2 hA2 => ?_⟩
      rw [ei1, cut_from, map_drop']
      obtain ⟨m3, m4, m5⟩ := m2 c1 hc1 A2 hA2
      exact ⟨c1, A2, _, _, rfl, rfl, m3, upd_same, m4, m5⟩
end
end LK

namespace LK
open PySem PySem.Spec PyProof.Rows L2 LR
/-! ### the law -/
def Low (z : Str) : Prop := ∀ c, c ∈ TL.tl z → 32 ≤ c
theorem Low.app {x y : Str} (a : Low x) (b : Low y) : Low (x ++ y) := fun c h => by
  rw [TL.tl_append] at h
  rcases List.mem_append.mp h with h | h
  · exact a c h
  · exact b c h
theorem Low.one {z : Str} (h : Low z) : One z := fun m => absurd (h 10 m) (by decide)
theorem Side.low {z : Str} (h : Side z) : Low z := fun c q => (h.all c q).1
theorem Tr.line_low : ∀ (t : Tr), t.Ok → ∀ s, s ∈ t.lines → Low s
  | leaf, _, s, h => by
    have e : s = Str.ofString "so" := by simpa [lines] using h
    rw [e]
    unfold Low
    decide +kernel
  | node l r a b, ⟨⟨hl, _⟩, ⟨hr, _⟩, oa, ob⟩, s, h => by
    have l1 : Low (Str.ofString " <= ") := by unfold Low; decide +kernel
    have l2 : Low (Str.ofString " < ") := by unfold Low; decide +kernel
    have l3 : Low (Str.ofString "  ") := by unfold Low; decide +kernel
    rcases List.mem_append.mp h with h | h
    · rcases List.mem_append.mp h with h | h
      · rcases List.mem_append.mp h with h | h
        · have e : s = l ++ Str.ofString " <= " ++ r := by simpa using h
          rw [e]
          exact (hl.low.app l1).app hr.low
        · obtain ⟨u, hu, rfl⟩ := List.mem_map.mp h
          exact l3.app (line_low a oa u hu)
      · have e : s = r ++ Str.ofString " < " ++ l := by simpa using h
        rw [e]
        exact (hr.low.app l2).app hl.low
    · obtain ⟨u, hu, rfl⟩ := List.mem_map.mp h
      exact l3.app (line_low b ob u hu)
/-- a text after so many changes -/
structure Sz (j : Nat) (z : Str) : Prop where
  len : z.length + 20 ≤ 2 ^ j * 8020
  many : (linesOf z).length ≤ 19 + j
theorem Sz.next {j : Nat} {z y : Str} (h : Sz j z) (c : Chg z y) : Sz (j + 1) y := by
  have a := h.len
  have b := h.many
  have c1 := c.len
  have c2 := c.many
  refine ⟨?_, by omega⟩
  rw [Nat.pow_succ]
  have : 2 ^ j * 2 * 8020 = 2 * (2 ^ j * 8020) := by
    rw [Nat.mul_comm (2 ^ j) 2, Nat.mul_assoc]
  omega
theorem Sz.few {j : Nat} {z : Str} (h : Sz j z) (hj : j ≤ 3) : FewT z := by
  have a := h.len
  have b := h.many
  have : 2 ^ j ≤ 2 ^ 3 := Nat.pow_le_pow_right (by decide) hj
  have m : 2 ^ j * 8020 ≤ 8 * 8020 := Nat.mul_le_mul_right _ this
  exact ⟨by omega, by omega⟩
theorem sz_good {t : Tr} (o : t.Ok) (hd : t.depth ≤ 5) (hk : t.knots ≤ 6) : Sz 0 (text t) := by
  have ll := t.lines_len
  have h1 : wt t.lines ≤ 19 * 415 := by
    have key : ∀ ps : List Str, (∀ p, p ∈ ps → p.length ≤ 414) → wt ps ≤ ps.length * 415 := fun ps hp => by
      have h1 := sum_le hp
      have h2 := wt_sum ps
      rw [← h2]
      omega
    have := key t.lines fun s hs => by
      have := Tr.line_len t o s hs
      omega
    have m : t.lines.length * 415 ≤ 19 * 415 := Nat.mul_le_mul_right _ (by omega)
    omega
  have h2 := join_wt t.lines
  have h3 := join_lines (ps := t.lines) fun p hp => (Tr.line_low t o p hp).one
  have e : text t = Txt.join nlS t.lines := rfl
  rw [e]
  exact ⟨by omega, by omega⟩
theorem back_text {z : Str} {t : Tr} {s : Nat} (h : rdT z = .ok t s) (few : FewT z) : text t = z ∧ t.Bd ∧ t.knots ≤ 12 := by
  obtain ⟨h1, rfl⟩ := rdT_ok h
  have r := rd_ok _ _ _ _ _ h1
  have e := r.eq
  rw [List.drop_zero, List.drop_length, List.append_nil, Tr.linesA_nil] at e
  refine ⟨?_, r.bd few.few.len, ?_⟩
  · unfold text
    rw [← e]
    exact join_split z
  · have := t.lines_len
    have := few.many
    rw [e] at this
    omega
theorem res_told {K : PySem.W.Frag} {H : Hp} {v : V} {t : Tr} {s : Nat} (h : Dp K H v (resD (.ok t s))) : ∃ p v', v = .ref p ∧ SqT K H p [.str (Str.ofString "told"), v'] ∧ Dp K H v' t.enc := by
  cases h with
  | tup h q =>
    cases q with
    | cons q1 q =>
      cases q with
      | cons q2 q =>
        cases q
        cases q1
        exact ⟨_, _, rfl, h, q2⟩
theorem res_bad {K : PySem.W.Frag} {H : Hp} {v : V} {m : Nat} (h : Dp K H v (resD (.bad m))) : ∃ p v', v = .ref p ∧ SqT K H p [.str (Str.ofString "refused"), v'] := by
  cases h with
  | tup h q =>
    cases q with
    | cons q1 q =>
      cases q with
      | cons q2 q =>
        cases q
        cases q1
        exact ⟨_, _, rfl, h⟩
theorem if_no {c : TT} {t1 : TS} {D : Ends} {σ : L2.St} {H : Hp} (P : Hp → Prop) (h : ∀ G : Bool → Hp → Prop, (∀ H1, P H1 → G false H1) → c σ H G) (key : ∀ H1, P H1 → D.nx σ H1) : tIfS c t1 tNext D σ H :=
  h _ fun H1 p => by
    show (if false = true then _ else tNext D σ H1)
    rw [if_neg (by decide)]
    exact key H1 p
theorem seq_if {c : TT} {t1 rest : TS} {D : Ends} {σ : L2.St} {H : Hp} (P : Hp → Prop) (h : ∀ G : Bool → Hp → Prop, (∀ H1, P H1 → G false H1) → c σ H G) (key : ∀ H1, P H1 → rest D σ H1) : tSeq (tIfS c t1 tNext) rest D σ H := if_no (D := { D with nx := rest D }) P h key
theorem cut2 (xs : List V) : (cutV xs none (some 2)).length ≤ 2 := by
  unfold cutV HT.sIx
  rw [List.length_take]
  simp
  omega
def spLaw (K : PySem.W.Frag) : Sp := fun vs H Q _ => ∃ (a : Addr) (ns : List Int), vs = [.ref a] ∧ SqL K H a (ns.map V.int) ∧ ns.length ≤ 63 ∧ ∀ H', Q (.bl true) H'
section
variable {P : Program} {w : World} {K : PySem.W.Frag} {mg : Str → Option Value} {base : Heap}
def nLaw : List Str := ["_law_script", "_law_k", "_law_feed_here", "_law_names", "_law_good", "_law_turn", "_law_text", "_law_more", "_law_due_here"]
theorem scLaw : FnScope nLaw ["_law_script"] (defScope sLaw) := ⟨rfl, rfl, rfl, by decide +kernel, rfl, by decide +kernel, by decide +kernel⟩
theorem ok_law {f fF fD fW fT fS fSh fC fU fO : Addr} {fd fdF fdD fdW fdT fdS fdSh fdC fdU fdO : FuncData} (S : Std mg) (F : Fun K "law" "law" sLaw f fd) (FE : Df K mg "_law_feed" sFeed fF fdF ["_law_script", "_law_k"])
    (D : Df K mg "_law_draw" sDraw fD fdD ["_law_feed_here", "_law_many"])
    (WS : Df K mg "_law_words" sWords fW fdW ["_law_feed_here", "_law_many"]) (GW : FnOk P w K mg base CX0 4 fW fdW ["_law_feed_here", "_law_many"] spWords)
    (TR : Df K mg "_law_tree" sTree fT fdT ["_law_feed_here", "_law_names", "_law_room", "_law_deep"]) (GT : FnOk P w K mg base CX0 13 fT fdT ["_law_feed_here", "_law_names", "_law_room", "_law_deep"] (spTree K 6))
    (SA : Df K mg "_law_same" sSame fS fdS ["_law_found", "_law_due_here"]) (GS : FnOk P w K mg base CX0 37 fS fdS ["_law_found", "_law_due_here"] (spSame K 36))
    (SH : Df K mg "show_tree" pShow fSh fdSh ["told"]) (GSh : FnOk P w K mg base CX0 23 fSh fdSh ["told"] (spShow K))
    (CH : Df K mg "_law_changed" sChanged fC fdC ["_law_feed_here", "_law_text"]) (GC : FnOk P w K mg base CX0 5 fC fdC ["_law_feed_here", "_law_text"] spChanged)
    (DU : Df K mg "_law_due" sDue fU fdU ["_law_text"]) (GU : FnOk P w K mg base CX0 35 fU fdU ["_law_text"] (spDue K))
    (TO : Df K mg "_law_told" sTold fO fdO ["_law_text"]) (GO : FnOk P w K mg base CX0 38 fO fdO ["_law_text"] (spDue K)) : FnOk P w K mg base CX0 39 f fd ["_law_script"] (spLaw K) := by
  have GD : FnOk P w K mg base CX0 1 fD fdD ["_law_feed_here", "_law_many"] spDraw := ok_draw S D.F
  have GF : FnOk P w K mg base CX0 1 fF fdF ["_law_script", "_law_k"] (spFeed K) := ok_feed S FE.F
  refine F.ok scLaw (fun vs H Q E h => ?_) (fun cdv A outer s H vs Q E hr h => ?_)
  · obtain ⟨a, ns, rfl, _⟩ := h
    rfl
  · obtain ⟨a, ns, rfl, hS, hlen, q⟩ := h
    have hr1 : Room 1 _ := hr.mono (by decide)
    have hr4 : Room 4 _ := hr.mono (by decide)
    have hr5 : Room 5 _ := hr.mono (by decide)
    have hr13 : Room 13 _ := hr.mono (by decide)
    have hr23 : Room 23 _ := hr.mono (by decide)
    have hr35 : Room 35 _ := hr.mono (by decide)
    have hr37 : Room 37 _ := hr.mono (by decide)
    refine ⟨_, pss_cons (ps_for PassesOwn.never rfl (pi_range1 (by rfl) S.range (pa_cons (pe_op op_add pe_int (pe_callB call_len_seq (by rfl) S.len PySem.boot_len (pa_cons (pe_slice sl_list (pv 0) po_none (po_some pe_int)) pa_nil))) pa_nil)) (pg_name (i := 1) scLaw.nd rfl (Or.inl rfl))
        (pss_cons (ps_set (i := 2) scLaw.nd rfl (Or.inl rfl) (pe_call GF hr1 rfl FE.g FE.F.kp FE.b .nil pass0 (pa_cons (pv 0) (pa_cons (pv 1) pa_nil))))
        (pss_cons (ps_set (i := 3) scLaw.nd rfl (Or.inl rfl) (pe_call GW hr4 rfl WS.g WS.F.kp WS.b .nil pass0 (pa_cons (pv 2) (pa_cons pe_int pa_nil))))
        (pss_cons (ps_set (i := 4) scLaw.nd rfl (Or.inl rfl) (pe_call GSh hr23 rfl SH.g SH.F.kp SH.b .nil pass0 (pa_cons (pe_call GT hr13 rfl TR.g TR.F.kp TR.b .nil pass0 (pa_cons (pv 2) (pa_cons (pv 3) (pa_cons (pe_call GD hr1 rfl D.g D.F.kp D.b .nil pass0 (pa_cons (pv 2) (pa_cons pe_int pa_nil))) (pa_cons pe_int pa_nil))))) pa_nil)))
        (pss_one (ps_for PassesOwn.never rfl (pi_range1 (by rfl) S.range (pa_cons pe_int pa_nil)) (pg_name (i := 5) scLaw.nd rfl (Or.inl rfl))
          (pss_cons (ps_set (i := 6) scLaw.nd rfl (Or.inl rfl) (pv 4))
          (pss_cons (ps_for PassesOwn.never rfl (pi_range1 (by rfl) S.range (pa_cons (pe_op op_add pe_int (pe_call GD hr1 rfl D.g D.F.kp D.b .nil pass0 (pa_cons (pv 2) (pa_cons pe_int pa_nil)))) pa_nil)) (pg_name (i := 7) scLaw.nd rfl (Or.inl rfl))
            (pss_one (ps_set (i := 6) scLaw.nd rfl (Or.inl rfl) (pe_call GC hr5 rfl CH.g CH.F.kp CH.b .nil pass0 (pa_cons (pv 2) (pa_cons (pv 6) pa_nil))))))
          (pss_cons (ps_set (i := 8) scLaw.nd rfl (Or.inl rfl) (pe_call GU hr35 rfl DU.g DU.F.kp DU.b .nil pass0 (pa_cons (pv 6) pa_nil)))
          (pss_cons (ps_if (PW.pt (pw_and (pt_cmpR op_lt (pe_callB call_len_str (by rfl) S.len PySem.boot_len (pa_cons (pv 6) pa_nil)) pe_int (nomark _))
              (pw_and1 (pt_not (pt_val (pe_call GS hr37 rfl SA.g SA.F.kp SA.b .nil pass0 (pa_cons (pe_call GO hr rfl TO.g TO.F.kp TO.b .nil pass0 (pa_cons (pv 6) pa_nil)) (pa_cons (pv 8) pa_nil)))))))) (pss_one (ps_ret pe_bl)) pss_nil)
          (pss_cons (ps_if (PW.pt (pw_and (pt_cmpR op_eq (pe_ix ix_tup (pv 8) pe_int (fun _ _ => rfl)) pe_str (nomark _))
              (pw_and1 (pt_cmpR op_ne (pe_call GSh hr23 rfl SH.g SH.F.kp SH.b .nil pass0 (pa_cons (pe_ix ix_tup (pv 8) pe_int (fun _ _ => rfl)) pa_nil)) (pv 6) (nomark _))))) (pss_one (ps_ret pe_bl)) pss_nil)
          (pss_one (ps_if (pt_not (pt_val (pe_call GS hr37 rfl SA.g SA.F.kp SA.b .nil pass0 (pa_cons (pe_call GO hr rfl TO.g TO.F.kp TO.b .nil pass0 (pa_cons (pv 4) pa_nil)) (pa_cons (pe_call GU hr35 rfl DU.g DU.F.kp DU.b .nil pass0 (pa_cons (pv 4) pa_nil)) pa_nil))))) (pss_one (ps_ret pe_bl)) pss_nil)))))))))))))
      (pss_one (ps_ret pe_bl)), ?_⟩
    have sz : (16777216 : Nat) ≤ sizeLine := by decide
    refine ⟨_, rfl, _, rfl, a, _, rfl, hS, fun c hc => ⟨c, _, rfl, .inl (SqL.of upd_same), ?_⟩⟩
    have hcut := cut2 (ns.map V.int)
    generalize (cutV (ns.map V.int) none (some 2)) = cut at hcut ⊢
    have sc := same_new (o := .lst cut) hc
    generalize (upd H c (.lst cut)) = H1 at sc ⊢
    refine ⟨_, _, rfl, rfl, 1 + (cut.length : Int), rfl, by omega, by omega, for_range (lo := 0) (n := (1 + (cut.length : Int)).toNat) (fun i σ H' => ∃ (v1 v2 v3 v4 v5 v6 v7 v8 : Option V), σ = [some (.ref a), v1, v2, v3, v4, v5, v6, v7, v8] ∧ Same H H')
      ⟨none, none, none, none, none, none, none, none, rfl, sc⟩ ?_ ?_⟩
    · rintro i σ H2 hi ⟨v1, v2, v3, v4, v5, v6, v7, v8, rfl, s2⟩
      refine ⟨_, rfl, _, rfl, a, ns, i, by show [V.ref a, V.int (0 + (i : Int))] = _; rw [Int.zero_add], s2.seq hS, fun l H3 hl hf3 s3 => ?_⟩
      have hHl : H l = none := s2.free hl
      refine ⟨_, rfl, l, 3, rfl, hf3, by decide, fun nm zs H4 hnm hzl hzn hzo hz4 hf4 k4 => ?_⟩
      have hln : nm ≠ l := fun e => by
        obtain ⟨x, y, e1, _⟩ := hf3
        rw [e, e1] at hnm
        cases hnm
      have N4 : Names K H4 l nm zs := ⟨hz4, hln, by omega, by omega, hzo⟩
      refine ⟨_, rfl, _, rfl, _, rfl, l, 7, rfl, hf4, by decide, by decide, fun d H5 d0 d1 hf5 k5 => ?_⟩
      obtain ⟨dn, rfl⟩ : ∃ dn : Nat, d = (dn : Int) := ⟨d.toNat, by omega⟩
      refine ⟨l, nm, zs, dn, 5, rfl, by decide, by omega, hf5, N4.keep k5, fun v t H6 dv ok dp kn hf6 k6 => ?_⟩
      refine ⟨v, t, rfl, dv, ok.bd, by omega, fun H7 s7 => ?_⟩
      have gz := sz_good ok (by omega) (by omega)
      generalize text t = z0 at gz ⊢
      have s27 : Same H H7 := fun b o e => by
        have e2 := s3 _ _ (s2 _ _ e)
        have n1 := ne_of_none e hHl
        exact s7 _ _ (k6 _ _ n1 (k5 _ _ n1 (k4 _ _ n1 e2)))
      have hf7 := hf6.same s7
      refine ⟨_, rfl, by decide, by decide, for_range (lo := 0) (n := (5 : Int).toNat) (fun j σ H' => ∃ (w5 w6 w7 w8 : Option V), σ = [some (.ref a), some (.int (0 + (i : Int))), some (.ref l), some (.ref nm), some (.str z0), w5, w6, w7, w8] ∧ Same H H' ∧ Feed H' l)
        ⟨v5, v6, v7, v8, rfl, s27, hf7⟩ ?_ ?_⟩
      · rintro j σ H8 hj ⟨w5, w6, w7, w8, rfl, s8, hf8⟩
        refine ⟨_, rfl, _, rfl, l, 3, rfl, hf8, by decide, by decide, fun e H9 e0 e1 hf9 k9 => ⟨_, _, rfl, rfl, 1 + e, rfl, by omega, by omega, ?_⟩⟩
        have s9 : Same H H9 := fun b o e => k9 _ _ (ne_of_none e hHl) (s8 _ _ e)
        refine for_range (lo := 0) (n := (1 + e).toNat) (fun m σ H' => ∃ (z : Str) (w7 : Option V), σ = [some (.ref a), some (.int (0 + (i : Int))), some (.ref l), some (.ref nm), some (.str z0), some (.int (0 + (j : Int))), some (.str z), w7, w8] ∧ Same H H' ∧ Feed H' l ∧ Sz m z)
          ⟨z0, w7, rfl, s9, hf9, gz⟩ ?_ ?_
        · rintro m σ H10 hm ⟨z, w7', rfl, s10, hf10, sz10⟩
          have hm2 : m ≤ 2 := by omega
          have hlen := sz10.len
          have hmany := sz10.many
          have : 2 ^ m ≤ 2 ^ 2 := Nat.pow_le_pow_right (by decide) hm2
          have m4 : 2 ^ m * 8020 ≤ 4 * 8020 := Nat.mul_le_mul_right _ this
          refine ⟨_, rfl, _, rfl, l, z, rfl, by omega, by omega, hf10, fun y H11 hc hf11 k11 => ?_⟩
          exact ⟨y, _, rfl, fun b o e => k11 _ _ (ne_of_none e hHl) (s10 _ _ e), hf11, sz10.next hc⟩
        · rintro σ H10 ⟨z, w7', rfl, s10, hf10, sz10⟩
          have few := sz10.few (by omega)
          have zl := few.len
          have few0 := gz.few (by decide)
          refine ⟨_, rfl, z, rfl, few, fun vd H11 dd s11 => ?_⟩
          have deepz := deep_res (z := z)
          dsimp only [gName]
          refine seq_if (fun H' => Same H11 H') (fun G key => ?_) (fun H12 s12 => ?_)
          · refine ⟨_, rfl, z, rfl, by omega, _, _, rfl, rfl, _, rfl, ?_⟩
            refine ite2 (fun _ => ?_) (fun _ => key _ (Same.refl _))
            refine ⟨_, rfl, z, rfl, few, fun vt H12 dt s12 => ⟨_, rfl, vt, vd, _, rfl, deepz, dt, Dp.same s12 dd, fun H13 s13 => ⟨_, rfl, ?_⟩⟩⟩
            exact key _ (s12.trans s13)
          have dd12 := Dp.same s12 dd
          refine seq_if (fun H' => Same H12 H') (fun G key => ?_) (fun H13 s13 => ?_)
          · cases hrd : rdT z with
            | bad m =>
              rw [hrd] at dd12
              obtain ⟨pd, v', rfl, hpd⟩ := res_bad dd12
              refine ⟨_, rfl, pd, _, _, _, rfl, rfl, hpd, at_of (j := 0) rfl rfl, rfl, _, rfl, ?_⟩
              refine iteF (key _ (Same.refl _))
            | ok t' st =>
              rw [hrd] at dd12
              obtain ⟨pd, v', rfl, hpd, dv'⟩ := res_told dd12
              obtain ⟨et, bt, kt⟩ := back_text hrd few
              refine ⟨_, rfl, pd, _, _, _, rfl, rfl, hpd, at_of (j := 0) rfl rfl, rfl, _, rfl, ?_⟩
              refine iteT ⟨_, rfl, pd, _, _, _, rfl, rfl, hpd, at_of (j := 1) rfl rfl, v', t', rfl, dv', bt, kt, fun H13 s13 => ⟨_, rfl, rfl, _, rfl, ?_⟩⟩
              rw [decide_eq_true (show V.str (text t') = V.str z by rw [et])]
              exact key _ s13
          refine if_no (fun H' => Same H13 H') (fun G key => ?_) (fun H14 s14 => ?_)
          · refine ⟨_, rfl, z0, rfl, few0, fun vt H14 dt s14 => ⟨_, rfl, z0, rfl, few0, fun vu H15 du s15 => ⟨vt, vu, _, rfl, deep_res, Dp.same s15 dt, du, fun H16 s16 => ⟨_, rfl, ?_⟩⟩⟩⟩
            exact key _ ((s14.trans s15).trans s16)
          have s1014 := ((s11.trans s12).trans s13).trans s14
          exact ⟨_, _, _, _, rfl, s10.trans s1014, hf10.same s1014⟩
      · rintro σ H8 ⟨w5, w6, w7, w8, rfl, s8, hf8⟩
        exact ⟨_, _, _, _, _, _, _, _, rfl, s8⟩
    · rintro σ H2 ⟨v1, v2, v3, v4, v5, v6, v7, v8, rfl, s2⟩
      exact q _
end
end LK

namespace LK
open PySem PySem.Spec PyProof.Rows L2 LR
/-! ### the end -/
theorem rows12 {p : Nat → Prop} (h0 : p 0) (h1 : p 1) (h2 : p 2) (h3 : p 3) (h4 : p 4) (h5 : p 5) (h6 : p 6) (h7 : p 7) (h8 : p 8) (h9 : p 9) (h10 : p 10) (h11 : p 11) : ∀ i, i < 12 → p i
  | 0, _ => h0
  | 1, _ => h1
  | 2, _ => h2
  | 3, _ => h3
  | 4, _ => h4
  | 5, _ => h5
  | 6, _ => h6
  | 7, _ => h7
  | 8, _ => h8
  | 9, _ => h9
  | 10, _ => h10
  | 11, _ => h11
  | n + 12, h => absurd h (by omega)
theorem rows11 {p : Nat → Prop} (h0 : p 0) (h1 : p 1) (h2 : p 2) (h3 : p 3) (h4 : p 4) (h5 : p 5) (h6 : p 6) (h7 : p 7) (h8 : p 8) (h9 : p 9) (h10 : p 10) : ∀ i, i < 11 → p i
  | 0, _ => h0
  | 1, _ => h1
  | 2, _ => h2
  | 3, _ => h3
  | 4, _ => h4
  | 5, _ => h5
  | 6, _ => h6
  | 7, _ => h7
  | 8, _ => h8
  | 9, _ => h9
  | 10, _ => h10
  | n + 11, h => absurd h (by omega)
theorem all_mk {l : PySem.W.OpenLaw} {w : World} {K : PySem.W.Frag} {h : Heap} {mg : Str → Option Value} {fa : Addr} (X : K.In h) (G : h.Ns mainGlobals mg) (hfa : mg "law" = some (.ref fa))
    {flaw_feed : Addr} {odlaw_feed anlaw_feed : Option Addr} {sllaw_feed : Array (Option Value)} {oclaw_feed kVlaw_feed dclaw_feed pmlaw_feed cdlaw_feed ctlaw_feed : Value}
    {flaw_draw : Addr} {odlaw_draw anlaw_draw : Option Addr} {sllaw_draw : Array (Option Value)} {oclaw_draw kVlaw_draw dclaw_draw pmlaw_draw cdlaw_draw ctlaw_draw : Value}
    {flaw_pick : Addr} {odlaw_pick anlaw_pick : Option Addr} {sllaw_pick : Array (Option Value)} {oclaw_pick kVlaw_pick dclaw_pick pmlaw_pick cdlaw_pick ctlaw_pick : Value}
    {flaw_same : Addr} {odlaw_same anlaw_same : Option Addr} {sllaw_same : Array (Option Value)} {oclaw_same kVlaw_same dclaw_same pmlaw_same cdlaw_same ctlaw_same : Value}
    {flaw_word : Addr} {odlaw_word anlaw_word : Option Addr} {sllaw_word : Array (Option Value)} {oclaw_word kVlaw_word dclaw_word pmlaw_word cdlaw_word ctlaw_word : Value}
    {flaw_words : Addr} {odlaw_words anlaw_words : Option Addr} {sllaw_words : Array (Option Value)} {oclaw_words kVlaw_words dclaw_words pmlaw_words cdlaw_words ctlaw_words : Value}
    {flaw_sign : Addr} {odlaw_sign anlaw_sign : Option Addr} {sllaw_sign : Array (Option Value)} {oclaw_sign kVlaw_sign dclaw_sign pmlaw_sign cdlaw_sign ctlaw_sign : Value}
    {flaw_bent : Addr} {odlaw_bent anlaw_bent : Option Addr} {sllaw_bent : Array (Option Value)} {oclaw_bent kVlaw_bent dclaw_bent pmlaw_bent cdlaw_bent ctlaw_bent : Value}
    {flaw_refused : Addr} {odlaw_refused anlaw_refused : Option Addr} {sllaw_refused : Array (Option Value)} {oclaw_refused kVlaw_refused dclaw_refused pmlaw_refused cdlaw_refused ctlaw_refused : Value}
    {flaw_term : Addr} {odlaw_term anlaw_term : Option Addr} {sllaw_term : Array (Option Value)} {oclaw_term kVlaw_term dclaw_term pmlaw_term cdlaw_term ctlaw_term : Value}
    {flaw_tree : Addr} {odlaw_tree anlaw_tree : Option Addr} {sllaw_tree : Array (Option Value)} {oclaw_tree kVlaw_tree dclaw_tree pmlaw_tree cdlaw_tree ctlaw_tree : Value}
    {flaw_is_side : Addr} {odlaw_is_side anlaw_is_side : Option Addr} {sllaw_is_side : Array (Option Value)} {oclaw_is_side kVlaw_is_side dclaw_is_side pmlaw_is_side cdlaw_is_side ctlaw_is_side : Value}
    {flaw_branch : Addr} {odlaw_branch anlaw_branch : Option Addr} {sllaw_branch : Array (Option Value)} {oclaw_branch kVlaw_branch dclaw_branch pmlaw_branch cdlaw_branch ctlaw_branch : Value}
    {flaw_due : Addr} {odlaw_due anlaw_due : Option Addr} {sllaw_due : Array (Option Value)} {oclaw_due kVlaw_due dclaw_due pmlaw_due cdlaw_due ctlaw_due : Value}
    {flaw_told : Addr} {odlaw_told anlaw_told : Option Addr} {sllaw_told : Array (Option Value)} {oclaw_told kVlaw_told dclaw_told pmlaw_told cdlaw_told ctlaw_told : Value}
    {flaw_changed : Addr} {odlaw_changed anlaw_changed : Option Addr} {sllaw_changed : Array (Option Value)} {oclaw_changed kVlaw_changed dclaw_changed pmlaw_changed cdlaw_changed ctlaw_changed : Value}
    {flaw : Addr} {odlaw anlaw : Option Addr} {sllaw : Array (Option Value)} {oclaw kVlaw dclaw pmlaw cdlaw ctlaw : Value}
    {fshow_tree : Addr} {odshow_tree anshow_tree : Option Addr} {slshow_tree : Array (Option Value)} {ocshow_tree kVshow_tree dcshow_tree pmshow_tree cdshow_tree ctshow_tree : Value}
    {fread_tree : Addr} {odread_tree anread_tree : Option Addr} {slread_tree : Array (Option Value)} {ocread_tree kVread_tree dcread_tree pmread_tree cdread_tree ctread_tree : Value}
    {flines_of : Addr} {odlines_of anlines_of : Option Addr} {sllines_of : Array (Option Value)} {oclines_of kVlines_of dclines_of pmlines_of cdlines_of ctlines_of : Value}
    {ftree_at : Addr} {odtree_at antree_at : Option Addr} {sltree_at : Array (Option Value)} {octree_at kVtree_at dctree_at pmtree_at cdtree_at cttree_at : Value}
    {fsides_in : Addr} {odsides_in ansides_in : Option Addr} {slsides_in : Array (Option Value)} {ocsides_in kVsides_in dcsides_in pmsides_in cdsides_in ctsides_in : Value}
    {fmay_be_term : Addr} {odmay_be_term anmay_be_term : Option Addr} {slmay_be_term : Array (Option Value)} {ocmay_be_term kVmay_be_term dcmay_be_term pmmay_be_term cdmay_be_term ctmay_be_term : Value}
    {tL tI : Tok}
    {gx0 : Addr}
    {nmx0 qx0 : Str} {Nx0 : Addr} {bsx0 bmx0 : List Value} {snx0 : List Str} {subx0 : List Value} {abx0 : Bool} {colx0 : Option Bool} {ddx0 : Option Addr} {z0x0 z1x0 z2x0 z3x0 z5x0 : Option Value}
    {fx0 : Addr} {odx0 anx0 : Option Addr} {slx0 : Array (Option Value)} {ocx0 kVx0 dcx0 pmx0 cdx0 ctx0 : Value}
    {gx1 : Addr}
    {nmx1 qx1 : Str} {Nx1 : Addr} {bsx1 bmx1 : List Value} {snx1 : List Str} {subx1 : List Value} {abx1 : Bool} {colx1 : Option Bool} {ddx1 : Option Addr} {z0x1 z1x1 z2x1 z3x1 z5x1 : Option Value}
    {fx1 : Addr} {odx1 anx1 : Option Addr} {slx1 : Array (Option Value)} {ocx1 kVx1 dcx1 pmx1 cdx1 ctx1 : Value}
    {gx2 : Addr}
    {nmx2 qx2 : Str} {Nx2 : Addr} {bsx2 bmx2 : List Value} {snx2 : List Str} {subx2 : List Value} {abx2 : Bool} {colx2 : Option Bool} {ddx2 : Option Addr} {z0x2 z1x2 z2x2 z3x2 z5x2 : Option Value}
    {fx2 : Addr} {odx2 anx2 : Option Addr} {slx2 : Array (Option Value)} {ocx2 kVx2 dcx2 pmx2 cdx2 ctx2 : Value}
    {gx3 : Addr}
    {nmx3 qx3 : Str} {Nx3 : Addr} {bsx3 bmx3 : List Value} {snx3 : List Str} {subx3 : List Value} {abx3 : Bool} {colx3 : Option Bool} {ddx3 : Option Addr} {z0x3 z1x3 z2x3 z3x3 z5x3 : Option Value}
    {fx3 : Addr} {odx3 anx3 : Option Addr} {slx3 : Array (Option Value)} {ocx3 kVx3 dcx3 pmx3 cdx3 ctx3 : Value}
    {gx4 : Addr}
    {nmx4 qx4 : Str} {Nx4 : Addr} {bsx4 bmx4 : List Value} {snx4 : List Str} {subx4 : List Value} {abx4 : Bool} {colx4 : Option Bool} {ddx4 : Option Addr} {z0x4 z1x4 z2x4 z3x4 z5x4 : Option Value}
    {fx4 : Addr} {odx4 anx4 : Option Addr} {slx4 : Array (Option Value)} {ocx4 kVx4 dcx4 pmx4 cdx4 ctx4 : Value}
    {gx5 : Addr}
    {nmx5 qx5 : Str} {Nx5 : Addr} {bsx5 bmx5 : List Value} {snx5 : List Str} {subx5 : List Value} {abx5 : Bool} {colx5 : Option Bool} {ddx5 : Option Addr} {z0x5 z1x5 z2x5 z3x5 z5x5 : Option Value}
    {fx5 : Addr} {odx5 anx5 : Option Addr} {slx5 : Array (Option Value)} {ocx5 kVx5 dcx5 pmx5 cdx5 ctx5 : Value}
    {gx6 : Addr}
    {nmx6 qx6 : Str} {Nx6 : Addr} {bsx6 bmx6 : List Value} {snx6 : List Str} {subx6 : List Value} {abx6 : Bool} {colx6 : Option Bool} {ddx6 : Option Addr} {z0x6 z1x6 z2x6 z3x6 z5x6 : Option Value}
    {fx6 : Addr} {odx6 anx6 : Option Addr} {slx6 : Array (Option Value)} {ocx6 kVx6 dcx6 pmx6 cdx6 ctx6 : Value}
    {gx7 : Addr}
    {nmx7 qx7 : Str} {Nx7 : Addr} {bsx7 bmx7 : List Value} {snx7 : List Str} {subx7 : List Value} {abx7 : Bool} {colx7 : Option Bool} {ddx7 : Option Addr} {z0x7 z1x7 z2x7 z3x7 z5x7 : Option Value}
    {fx7 : Addr} {odx7 anx7 : Option Addr} {slx7 : Array (Option Value)} {ocx7 kVx7 dcx7 pmx7 cdx7 ctx7 : Value}
    {gx8 : Addr}
    {nmx8 qx8 : Str} {Nx8 : Addr} {bsx8 bmx8 : List Value} {snx8 : List Str} {subx8 : List Value} {abx8 : Bool} {colx8 : Option Bool} {ddx8 : Option Addr} {z0x8 z1x8 z2x8 z3x8 z5x8 : Option Value}
    {fx8 : Addr} {odx8 anx8 : Option Addr} {slx8 : Array (Option Value)} {ocx8 kVx8 dcx8 pmx8 cdx8 ctx8 : Value}
    {gx9 : Addr}
    {nmx9 qx9 : Str} {Nx9 : Addr} {bsx9 bmx9 : List Value} {snx9 : List Str} {subx9 : List Value} {abx9 : Bool} {colx9 : Option Bool} {ddx9 : Option Addr} {z0x9 z1x9 z2x9 z3x9 z5x9 : Option Value}
    {fx9 : Addr} {odx9 anx9 : Option Addr} {slx9 : Array (Option Value)} {ocx9 kVx9 dcx9 pmx9 cdx9 ctx9 : Value}
    {gx10 : Addr}
    {nmx10 qx10 : Str} {Nx10 : Addr} {bsx10 bmx10 : List Value} {snx10 : List Str} {subx10 : List Value} {abx10 : Bool} {colx10 : Option Bool} {ddx10 : Option Addr} {z0x10 z1x10 z2x10 z3x10 z5x10 : Option Value}
    {fx10 : Addr} {odx10 anx10 : Option Addr} {slx10 : Array (Option Value)} {ocx10 kVx10 dcx10 pmx10 cdx10 ctx10 : Value}
    {gx11 : Addr}
    {nmx11 qx11 : Str} {Nx11 : Addr} {bsx11 bmx11 : List Value} {snx11 : List Str} {subx11 : List Value} {abx11 : Bool} {colx11 : Option Bool} {ddx11 : Option Addr} {z0x11 z1x11 z2x11 z3x11 z5x11 : Option Value}
    {gx12 : Addr}
    {nmx12 qx12 : Str} {Nx12 : Addr} {bsx12 bmx12 : List Value} {snx12 : List Str} {subx12 : List Value} {abx12 : Bool} {colx12 : Option Bool} {ddx12 : Option Addr} {z0x12 z1x12 z2x12 z3x12 z5x12 : Option Value}
    (b_len : PySem.W.nsIn K mainGlobals "len" = some none)
    (b_abs : PySem.W.nsIn K mainGlobals "abs" = some none)
    (b_int : PySem.W.nsIn K mainGlobals "int" = some none)
    (b_range : PySem.W.nsIn K mainGlobals "range" = some none)
    (b_isinstance : PySem.W.nsIn K mainGlobals "isinstance" = some none)
    (b_tuple : PySem.W.nsIn K mainGlobals "tuple" = some none)
    (b_list : PySem.W.nsIn K mainGlobals "list" = some none)
    (b_all : PySem.W.nsIn K mainGlobals "all" = some none)
    (b_zip : PySem.W.nsIn K mainGlobals "zip" = some none)
    (b_bool : PySem.W.nsIn K mainGlobals "bool" = some none)
    (b_str : PySem.W.nsIn K mainGlobals "str" = some none)
    (b_enumerate : PySem.W.nsIn K mainGlobals "enumerate" = some none)
    (b_min : PySem.W.nsIn K mainGlobals "min" = some none)
    (b_ve : PySem.W.nsIn K mainGlobals "ValueError" = some none)
    (alaw_feed : PySem.W.nsIn K mainGlobals "_law_feed" = some (some (.ref flaw_feed)))
    (llaw_feed : K.lookup flaw_feed = some ⟨oclaw_feed, odlaw_feed, .func (PySem.W.fnOf "_law_feed" "_law_feed" (defArgs sFeed) (defBody sFeed) (defScope sFeed) .none kVlaw_feed dclaw_feed pmlaw_feed anlaw_feed cdlaw_feed ctlaw_feed), sllaw_feed⟩)
    (claw_feed : PySem.W.codeIn K cdlaw_feed "_law_feed" = true)
    (klaw_feed : PySem.W.keepIn K (.ref flaw_feed) = true)
    (alaw_draw : PySem.W.nsIn K mainGlobals "_law_draw" = some (some (.ref flaw_draw)))
    (llaw_draw : K.lookup flaw_draw = some ⟨oclaw_draw, odlaw_draw, .func (PySem.W.fnOf "_law_draw" "_law_draw" (defArgs sDraw) (defBody sDraw) (defScope sDraw) .none kVlaw_draw dclaw_draw pmlaw_draw anlaw_draw cdlaw_draw ctlaw_draw), sllaw_draw⟩)
    (claw_draw : PySem.W.codeIn K cdlaw_draw "_law_draw" = true)
    (klaw_draw : PySem.W.keepIn K (.ref flaw_draw) = true)
    (alaw_pick : PySem.W.nsIn K mainGlobals "_law_pick" = some (some (.ref flaw_pick)))
    (llaw_pick : K.lookup flaw_pick = some ⟨oclaw_pick, odlaw_pick, .func (PySem.W.fnOf "_law_pick" "_law_pick" (defArgs sPick) (defBody sPick) (defScope sPick) .none kVlaw_pick dclaw_pick pmlaw_pick anlaw_pick cdlaw_pick ctlaw_pick), sllaw_pick⟩)
    (claw_pick : PySem.W.codeIn K cdlaw_pick "_law_pick" = true)
    (klaw_pick : PySem.W.keepIn K (.ref flaw_pick) = true)
    (alaw_same : PySem.W.nsIn K mainGlobals "_law_same" = some (some (.ref flaw_same)))
    (llaw_same : K.lookup flaw_same = some ⟨oclaw_same, odlaw_same, .func (PySem.W.fnOf "_law_same" "_law_same" (defArgs sSame) (defBody sSame) (defScope sSame) .none kVlaw_same dclaw_same pmlaw_same anlaw_same cdlaw_same ctlaw_same), sllaw_same⟩)
    (claw_same : PySem.W.codeIn K cdlaw_same "_law_same" = true)
    (klaw_same : PySem.W.keepIn K (.ref flaw_same) = true)
    (alaw_word : PySem.W.nsIn K mainGlobals "_law_word" = some (some (.ref flaw_word)))
    (llaw_word : K.lookup flaw_word = some ⟨oclaw_word, odlaw_word, .func (PySem.W.fnOf "_law_word" "_law_word" (defArgs sWord) (defBody sWord) (defScope sWord) .none kVlaw_word dclaw_word pmlaw_word anlaw_word cdlaw_word ctlaw_word), sllaw_word⟩)
    (claw_word : PySem.W.codeIn K cdlaw_word "_law_word" = true)
    (klaw_word : PySem.W.keepIn K (.ref flaw_word) = true)
    (alaw_words : PySem.W.nsIn K mainGlobals "_law_words" = some (some (.ref flaw_words)))
    (llaw_words : K.lookup flaw_words = some ⟨oclaw_words, odlaw_words, .func (PySem.W.fnOf "_law_words" "_law_words" (defArgs sWords) (defBody sWords) (defScope sWords) .none kVlaw_words dclaw_words pmlaw_words anlaw_words cdlaw_words ctlaw_words), sllaw_words⟩)
    (claw_words : PySem.W.codeIn K cdlaw_words "_law_words" = true)
    (klaw_words : PySem.W.keepIn K (.ref flaw_words) = true)
    (alaw_sign : PySem.W.nsIn K mainGlobals "_law_sign" = some (some (.ref flaw_sign)))
    (llaw_sign : K.lookup flaw_sign = some ⟨oclaw_sign, odlaw_sign, .func (PySem.W.fnOf "_law_sign" "_law_sign" (defArgs sSign) (defBody sSign) (defScope sSign) .none kVlaw_sign dclaw_sign pmlaw_sign anlaw_sign cdlaw_sign ctlaw_sign), sllaw_sign⟩)
    (claw_sign : PySem.W.codeIn K cdlaw_sign "_law_sign" = true)
    (klaw_sign : PySem.W.keepIn K (.ref flaw_sign) = true)
    (alaw_bent : PySem.W.nsIn K mainGlobals "_law_bent" = some (some (.ref flaw_bent)))
    (llaw_bent : K.lookup flaw_bent = some ⟨oclaw_bent, odlaw_bent, .func (PySem.W.fnOf "_law_bent" "_law_bent" (defArgs sBent) (defBody sBent) (defScope sBent) .none kVlaw_bent dclaw_bent pmlaw_bent anlaw_bent cdlaw_bent ctlaw_bent), sllaw_bent⟩)
    (claw_bent : PySem.W.codeIn K cdlaw_bent "_law_bent" = true)
    (klaw_bent : PySem.W.keepIn K (.ref flaw_bent) = true)
    (alaw_refused : PySem.W.nsIn K mainGlobals "_law_refused" = some (some (.ref flaw_refused)))
    (llaw_refused : K.lookup flaw_refused = some ⟨oclaw_refused, odlaw_refused, .func (PySem.W.fnOf "_law_refused" "_law_refused" (defArgs sRefused) (defBody sRefused) (defScope sRefused) .none kVlaw_refused dclaw_refused pmlaw_refused anlaw_refused cdlaw_refused ctlaw_refused), sllaw_refused⟩)
    (claw_refused : PySem.W.codeIn K cdlaw_refused "_law_refused" = true)
    (klaw_refused : PySem.W.keepIn K (.ref flaw_refused) = true)
    (alaw_term : PySem.W.nsIn K mainGlobals "_law_term" = some (some (.ref flaw_term)))
    (llaw_term : K.lookup flaw_term = some ⟨oclaw_term, odlaw_term, .func (PySem.W.fnOf "_law_term" "_law_term" (defArgs sTerm) (defBody sTerm) (defScope sTerm) .none kVlaw_term dclaw_term pmlaw_term anlaw_term cdlaw_term ctlaw_term), sllaw_term⟩)
    (claw_term : PySem.W.codeIn K cdlaw_term "_law_term" = true)
    (klaw_term : PySem.W.keepIn K (.ref flaw_term) = true)
    (alaw_tree : PySem.W.nsIn K mainGlobals "_law_tree" = some (some (.ref flaw_tree)))
    (llaw_tree : K.lookup flaw_tree = some ⟨oclaw_tree, odlaw_tree, .func (PySem.W.fnOf "_law_tree" "_law_tree" (defArgs sTree) (defBody sTree) (defScope sTree) .none kVlaw_tree dclaw_tree pmlaw_tree anlaw_tree cdlaw_tree ctlaw_tree), sllaw_tree⟩)
    (claw_tree : PySem.W.codeIn K cdlaw_tree "_law_tree" = true)
    (klaw_tree : PySem.W.keepIn K (.ref flaw_tree) = true)
    (alaw_is_side : PySem.W.nsIn K mainGlobals "_law_is_side" = some (some (.ref flaw_is_side)))
    (llaw_is_side : K.lookup flaw_is_side = some ⟨oclaw_is_side, odlaw_is_side, .func (PySem.W.fnOf "_law_is_side" "_law_is_side" (defArgs sIsSide) (defBody sIsSide) (defScope sIsSide) .none kVlaw_is_side dclaw_is_side pmlaw_is_side anlaw_is_side cdlaw_is_side ctlaw_is_side), sllaw_is_side⟩)
    (claw_is_side : PySem.W.codeIn K cdlaw_is_side "_law_is_side" = true)
    (klaw_is_side : PySem.W.keepIn K (.ref flaw_is_side) = true)
    (alaw_branch : PySem.W.nsIn K mainGlobals "_law_branch" = some (some (.ref flaw_branch)))
    (llaw_branch : K.lookup flaw_branch = some ⟨oclaw_branch, odlaw_branch, .func (PySem.W.fnOf "_law_branch" "_law_branch" (defArgs sBranch) (defBody sBranch) (defScope sBranch) .none kVlaw_branch dclaw_branch pmlaw_branch anlaw_branch cdlaw_branch ctlaw_branch), sllaw_branch⟩)
    (claw_branch : PySem.W.codeIn K cdlaw_branch "_law_branch" = true)
    (klaw_branch : PySem.W.keepIn K (.ref flaw_branch) = true)
    (alaw_due : PySem.W.nsIn K mainGlobals "_law_due" = some (some (.ref flaw_due)))
    (llaw_due : K.lookup flaw_due = some ⟨oclaw_due, odlaw_due, .func (PySem.W.fnOf "_law_due" "_law_due" (defArgs sDue) (defBody sDue) (defScope sDue) .none kVlaw_due dclaw_due pmlaw_due anlaw_due cdlaw_due ctlaw_due), sllaw_due⟩)
    (claw_due : PySem.W.codeIn K cdlaw_due "_law_due" = true)
    (klaw_due : PySem.W.keepIn K (.ref flaw_due) = true)
    (alaw_told : PySem.W.nsIn K mainGlobals "_law_told" = some (some (.ref flaw_told)))
    (llaw_told : K.lookup flaw_told = some ⟨oclaw_told, odlaw_told, .func (PySem.W.fnOf "_law_told" "_law_told" (defArgs sTold) (defBody sTold) (defScope sTold) .none kVlaw_told dclaw_told pmlaw_told anlaw_told cdlaw_told ctlaw_told), sllaw_told⟩)
    (claw_told : PySem.W.codeIn K cdlaw_told "_law_told" = true)
    (klaw_told : PySem.W.keepIn K (.ref flaw_told) = true)
    (alaw_changed : PySem.W.nsIn K mainGlobals "_law_changed" = some (some (.ref flaw_changed)))
    (llaw_changed : K.lookup flaw_changed = some ⟨oclaw_changed, odlaw_changed, .func (PySem.W.fnOf "_law_changed" "_law_changed" (defArgs sChanged) (defBody sChanged) (defScope sChanged) .none kVlaw_changed dclaw_changed pmlaw_changed anlaw_changed cdlaw_changed ctlaw_changed), sllaw_changed⟩)
    (claw_changed : PySem.W.codeIn K cdlaw_changed "_law_changed" = true)
    (klaw_changed : PySem.W.keepIn K (.ref flaw_changed) = true)
    (alaw : PySem.W.nsIn K mainGlobals "law" = some (some (.ref flaw)))
    (llaw : K.lookup flaw = some ⟨oclaw, odlaw, .func (PySem.W.fnOf "law" "law" (defArgs sLaw) (defBody sLaw) (defScope sLaw) .none kVlaw dclaw pmlaw anlaw cdlaw ctlaw), sllaw⟩)
    (claw : PySem.W.codeIn K cdlaw "law" = true)
    (klaw : PySem.W.keepIn K (.ref flaw) = true)
    (ashow_tree : PySem.W.nsIn K mainGlobals "show_tree" = some (some (.ref fshow_tree)))
    (lshow_tree : K.lookup fshow_tree = some ⟨ocshow_tree, odshow_tree, .func (PySem.W.fnOf "show_tree" "show_tree" (defArgs pShow) (defBody pShow) (defScope pShow) .none kVshow_tree dcshow_tree pmshow_tree anshow_tree cdshow_tree ctshow_tree), slshow_tree⟩)
    (cshow_tree : PySem.W.codeIn K cdshow_tree "show_tree" = true)
    (kshow_tree : PySem.W.keepIn K (.ref fshow_tree) = true)
    (aread_tree : PySem.W.nsIn K mainGlobals "read_tree" = some (some (.ref fread_tree)))
    (lread_tree : K.lookup fread_tree = some ⟨ocread_tree, odread_tree, .func (PySem.W.fnOf "read_tree" "read_tree" (defArgs pRead) (defBody pRead) (defScope pRead) .none kVread_tree dcread_tree pmread_tree anread_tree cdread_tree ctread_tree), slread_tree⟩)
    (cread_tree : PySem.W.codeIn K cdread_tree "read_tree" = true)
    (kread_tree : PySem.W.keepIn K (.ref fread_tree) = true)
    (alines_of : PySem.W.nsIn K mainGlobals "_lines_of" = some (some (.ref flines_of)))
    (llines_of : K.lookup flines_of = some ⟨oclines_of, odlines_of, .func (PySem.W.fnOf "_lines_of" "_lines_of" (defArgs pLinesOf) (defBody pLinesOf) (defScope pLinesOf) .none kVlines_of dclines_of pmlines_of anlines_of cdlines_of ctlines_of), sllines_of⟩)
    (clines_of : PySem.W.codeIn K cdlines_of "_lines_of" = true)
    (klines_of : PySem.W.keepIn K (.ref flines_of) = true)
    (atree_at : PySem.W.nsIn K mainGlobals "_tree_at" = some (some (.ref ftree_at)))
    (ltree_at : K.lookup ftree_at = some ⟨octree_at, odtree_at, .func (PySem.W.fnOf "_tree_at" "_tree_at" (defArgs pTreeAt) (defBody pTreeAt) (defScope pTreeAt) .none kVtree_at dctree_at pmtree_at antree_at cdtree_at cttree_at), sltree_at⟩)
    (ctree_at : PySem.W.codeIn K cdtree_at "_tree_at" = true)
    (ktree_at : PySem.W.keepIn K (.ref ftree_at) = true)
    (asides_in : PySem.W.nsIn K mainGlobals "_sides_in" = some (some (.ref fsides_in)))
    (lsides_in : K.lookup fsides_in = some ⟨ocsides_in, odsides_in, .func (PySem.W.fnOf "_sides_in" "_sides_in" (defArgs pSides) (defBody pSides) (defScope pSides) .none kVsides_in dcsides_in pmsides_in ansides_in cdsides_in ctsides_in), slsides_in⟩)
    (csides_in : PySem.W.codeIn K cdsides_in "_sides_in" = true)
    (ksides_in : PySem.W.keepIn K (.ref fsides_in) = true)
    (amay_be_term : PySem.W.nsIn K mainGlobals "_may_be_term" = some (some (.ref fmay_be_term)))
    (lmay_be_term : K.lookup fmay_be_term = some ⟨ocmay_be_term, odmay_be_term, .func (PySem.W.fnOf "_may_be_term" "_may_be_term" (defArgs pMay) (defBody pMay) (defScope pMay) .none kVmay_be_term dcmay_be_term pmmay_be_term anmay_be_term cdmay_be_term ctmay_be_term), slmay_be_term⟩)
    (cmay_be_term : PySem.W.codeIn K cdmay_be_term "_may_be_term" = true)
    (kmay_be_term : PySem.W.keepIn K (.ref fmay_be_term) = true)
    (kLEAF : PySem.W.nsIn K mainGlobals "LEAF" = some (some (.str "so" tL)))
    (kINDENT : PySem.W.nsIn K mainGlobals "INDENT" = some (some (.str "  " tI)))
    (so : PySem.W.specialIn K (.builtin "object.__class__") "__get__" = some (some (.builtin "getset_descriptor.__get__")))
    (tk : PySem.W.takesIn K (.builtin "object.__class__") = some true)
    (gx0a : PySem.W.nsIn K mainGlobals "InvalidStep" = some (some (.ref gx0)))
    (gx0_c : K.lookup gx0 = some (excClassObj nmx0 qx0 gx0 Nx0 bsx0 bmx0 true snx0 subx0 abx0 colx0 ddx0 z0x0 z1x0 z2x0 z3x0 z5x0 "ValueError.__new__"))
    (gx0_r : PySem.HandSPX.refsVE bmx0 = true)
    (gx0_1 : PySem.W.findIn K (.ref gx0) "__setattr__" = some (some (.builtin "object.__setattr__")))
    (gx0_2 : PySem.W.subIn K (.ref gx0) (.type "BaseException") = some true)
    (gx0_3 : PySem.W.typeIn K (.ref gx0) = some (.type "type"))
    (gx0_4 : PySem.W.keepIn K (.ref gx0) = true)
    (gx0_5 : PySem.W.findIn K (.ref gx0) "__getattribute__" = some (some (.builtin "BaseException.__getattribute__")))
    (gx0_6 : PySem.W.findIn K (.ref gx0) "__getattr__" = some none)
    (gx0_7 : PySem.W.hasDictIn K gx0 = true)
    (gx0_8 : PySem.W.findIn K (.ref gx0) "__class__" = some (some (.builtin "object.__class__")))
    (gx0_9 : PySem.W.mroIn K gx0 (.type "object") = some true)
    (ax0 : PySem.W.findIn K (.ref gx0) "__init__" = some (some (.ref fx0)))
    (tx0 : PySem.W.typeIn K (.ref fx0) = some (.type "function"))
    (lx0 : K.lookup fx0 = some ⟨ocx0, odx0, .func (PySem.W.fnOf "__init__" "InvalidStep.__init__" (defArgs (eS 0)) (defBody (eS 0)) (defScope (eS 0)) .none kVx0 dcx0 pmx0 anx0 cdx0 ctx0), slx0⟩)
    (cx0 : PySem.W.codeIn K cdx0 "InvalidStep.__init__" = true)
    (kx0 : PySem.W.keepIn K (.ref fx0) = true)
    (nx0 : PySem.W.findIn K (.ref gx0) "word" = some none)
    (gx1a : PySem.W.nsIn K mainGlobals "InvalidTrait" = some (some (.ref gx1)))
    (gx1_c : K.lookup gx1 = some (excClassObj nmx1 qx1 gx1 Nx1 bsx1 bmx1 true snx1 subx1 abx1 colx1 ddx1 z0x1 z1x1 z2x1 z3x1 z5x1 "ValueError.__new__"))
    (gx1_r : PySem.HandSPX.refsVE bmx1 = true)
    (gx1_1 : PySem.W.findIn K (.ref gx1) "__setattr__" = some (some (.builtin "object.__setattr__")))
    (gx1_2 : PySem.W.subIn K (.ref gx1) (.type "BaseException") = some true)
    (gx1_3 : PySem.W.typeIn K (.ref gx1) = some (.type "type"))
    (gx1_4 : PySem.W.keepIn K (.ref gx1) = true)
    (gx1_5 : PySem.W.findIn K (.ref gx1) "__getattribute__" = some (some (.builtin "BaseException.__getattribute__")))
    (gx1_6 : PySem.W.findIn K (.ref gx1) "__getattr__" = some none)
    (gx1_7 : PySem.W.hasDictIn K gx1 = true)
    (gx1_8 : PySem.W.findIn K (.ref gx1) "__class__" = some (some (.builtin "object.__class__")))
    (gx1_9 : PySem.W.mroIn K gx1 (.type "object") = some true)
    (ax1 : PySem.W.findIn K (.ref gx1) "__init__" = some (some (.ref fx1)))
    (tx1 : PySem.W.typeIn K (.ref fx1) = some (.type "function"))
    (lx1 : K.lookup fx1 = some ⟨ocx1, odx1, .func (PySem.W.fnOf "__init__" "InvalidTrait.__init__" (defArgs (eS 1)) (defBody (eS 1)) (defScope (eS 1)) .none kVx1 dcx1 pmx1 anx1 cdx1 ctx1), slx1⟩)
    (cx1 : PySem.W.codeIn K cdx1 "InvalidTrait.__init__" = true)
    (kx1 : PySem.W.keepIn K (.ref fx1) = true)
    (nx1 : PySem.W.findIn K (.ref gx1) "word" = some none)
    (gx2a : PySem.W.nsIn K mainGlobals "InvalidExpr" = some (some (.ref gx2)))
    (gx2_c : K.lookup gx2 = some (excClassObj nmx2 qx2 gx2 Nx2 bsx2 bmx2 true snx2 subx2 abx2 colx2 ddx2 z0x2 z1x2 z2x2 z3x2 z5x2 "ValueError.__new__"))
    (gx2_r : PySem.HandSPX.refsVE bmx2 = true)
    (gx2_1 : PySem.W.findIn K (.ref gx2) "__setattr__" = some (some (.builtin "object.__setattr__")))
    (gx2_2 : PySem.W.subIn K (.ref gx2) (.type "BaseException") = some true)
    (gx2_3 : PySem.W.typeIn K (.ref gx2) = some (.type "type"))
    (gx2_4 : PySem.W.keepIn K (.ref gx2) = true)
    (gx2_5 : PySem.W.findIn K (.ref gx2) "__getattribute__" = some (some (.builtin "BaseException.__getattribute__")))
    (gx2_6 : PySem.W.findIn K (.ref gx2) "__getattr__" = some none)
    (gx2_7 : PySem.W.hasDictIn K gx2 = true)
    (gx2_8 : PySem.W.findIn K (.ref gx2) "__class__" = some (some (.builtin "object.__class__")))
    (gx2_9 : PySem.W.mroIn K gx2 (.type "object") = some true)
    (ax2 : PySem.W.findIn K (.ref gx2) "__init__" = some (some (.ref fx2)))
    (tx2 : PySem.W.typeIn K (.ref fx2) = some (.type "function"))
    (lx2 : K.lookup fx2 = some ⟨ocx2, odx2, .func (PySem.W.fnOf "__init__" "InvalidExpr.__init__" (defArgs (eS 2)) (defBody (eS 2)) (defScope (eS 2)) .none kVx2 dcx2 pmx2 anx2 cdx2 ctx2), slx2⟩)
    (cx2 : PySem.W.codeIn K cdx2 "InvalidExpr.__init__" = true)
    (kx2 : PySem.W.keepIn K (.ref fx2) = true)
    (nx2 : PySem.W.findIn K (.ref gx2) "word" = some none)
    (gx3a : PySem.W.nsIn K mainGlobals "InvalidRow" = some (some (.ref gx3)))
    (gx3_c : K.lookup gx3 = some (excClassObj nmx3 qx3 gx3 Nx3 bsx3 bmx3 true snx3 subx3 abx3 colx3 ddx3 z0x3 z1x3 z2x3 z3x3 z5x3 "ValueError.__new__"))
    (gx3_r : PySem.HandSPX.refsVE bmx3 = true)
    (gx3_1 : PySem.W.findIn K (.ref gx3) "__setattr__" = some (some (.builtin "object.__setattr__")))
    (gx3_2 : PySem.W.subIn K (.ref gx3) (.type "BaseException") = some true)
    (gx3_3 : PySem.W.typeIn K (.ref gx3) = some (.type "type"))
    (gx3_4 : PySem.W.keepIn K (.ref gx3) = true)
    (gx3_5 : PySem.W.findIn K (.ref gx3) "__getattribute__" = some (some (.builtin "BaseException.__getattribute__")))
    (gx3_6 : PySem.W.findIn K (.ref gx3) "__getattr__" = some none)
    (gx3_7 : PySem.W.hasDictIn K gx3 = true)
    (gx3_8 : PySem.W.findIn K (.ref gx3) "__class__" = some (some (.builtin "object.__class__")))
    (gx3_9 : PySem.W.mroIn K gx3 (.type "object") = some true)
    (ax3 : PySem.W.findIn K (.ref gx3) "__init__" = some (some (.ref fx3)))
    (tx3 : PySem.W.typeIn K (.ref fx3) = some (.type "function"))
    (lx3 : K.lookup fx3 = some ⟨ocx3, odx3, .func (PySem.W.fnOf "__init__" "InvalidRow.__init__" (defArgs (eS 3)) (defBody (eS 3)) (defScope (eS 3)) .none kVx3 dcx3 pmx3 anx3 cdx3 ctx3), slx3⟩)
    (cx3 : PySem.W.codeIn K cdx3 "InvalidRow.__init__" = true)
    (kx3 : PySem.W.keepIn K (.ref fx3) = true)
    (nx3 : PySem.W.findIn K (.ref gx3) "word" = some none)
    (gx4a : PySem.W.nsIn K mainGlobals "InvalidText" = some (some (.ref gx4)))
    (gx4_c : K.lookup gx4 = some (excClassObj nmx4 qx4 gx4 Nx4 bsx4 bmx4 true snx4 subx4 abx4 colx4 ddx4 z0x4 z1x4 z2x4 z3x4 z5x4 "ValueError.__new__"))
    (gx4_r : PySem.HandSPX.refsVE bmx4 = true)
    (gx4_1 : PySem.W.findIn K (.ref gx4) "__setattr__" = some (some (.builtin "object.__setattr__")))
    (gx4_2 : PySem.W.subIn K (.ref gx4) (.type "BaseException") = some true)
    (gx4_3 : PySem.W.typeIn K (.ref gx4) = some (.type "type"))
    (gx4_4 : PySem.W.keepIn K (.ref gx4) = true)
    (gx4_5 : PySem.W.findIn K (.ref gx4) "__getattribute__" = some (some (.builtin "BaseException.__getattribute__")))
    (gx4_6 : PySem.W.findIn K (.ref gx4) "__getattr__" = some none)
    (gx4_7 : PySem.W.hasDictIn K gx4 = true)
    (gx4_8 : PySem.W.findIn K (.ref gx4) "__class__" = some (some (.builtin "object.__class__")))
    (gx4_9 : PySem.W.mroIn K gx4 (.type "object") = some true)
    (ax4 : PySem.W.findIn K (.ref gx4) "__init__" = some (some (.ref fx4)))
    (tx4 : PySem.W.typeIn K (.ref fx4) = some (.type "function"))
    (lx4 : K.lookup fx4 = some ⟨ocx4, odx4, .func (PySem.W.fnOf "__init__" "InvalidText.__init__" (defArgs (eS 4)) (defBody (eS 4)) (defScope (eS 4)) .none kVx4 dcx4 pmx4 anx4 cdx4 ctx4), slx4⟩)
    (cx4 : PySem.W.codeIn K cdx4 "InvalidText.__init__" = true)
    (kx4 : PySem.W.keepIn K (.ref fx4) = true)
    (nx4 : PySem.W.findIn K (.ref gx4) "at" = some none)
    (gx5a : PySem.W.nsIn K mainGlobals "InvalidWorld" = some (some (.ref gx5)))
    (gx5_c : K.lookup gx5 = some (excClassObj nmx5 qx5 gx5 Nx5 bsx5 bmx5 true snx5 subx5 abx5 colx5 ddx5 z0x5 z1x5 z2x5 z3x5 z5x5 "ValueError.__new__"))
    (gx5_r : PySem.HandSPX.refsVE bmx5 = true)
    (gx5_1 : PySem.W.findIn K (.ref gx5) "__setattr__" = some (some (.builtin "object.__setattr__")))
    (gx5_2 : PySem.W.subIn K (.ref gx5) (.type "BaseException") = some true)
    (gx5_3 : PySem.W.typeIn K (.ref gx5) = some (.type "type"))
    (gx5_4 : PySem.W.keepIn K (.ref gx5) = true)
    (gx5_5 : PySem.W.findIn K (.ref gx5) "__getattribute__" = some (some (.builtin "BaseException.__getattribute__")))
    (gx5_6 : PySem.W.findIn K (.ref gx5) "__getattr__" = some none)
    (gx5_7 : PySem.W.hasDictIn K gx5 = true)
    (gx5_8 : PySem.W.findIn K (.ref gx5) "__class__" = some (some (.builtin "object.__class__")))
    (gx5_9 : PySem.W.mroIn K gx5 (.type "object") = some true)
    (ax5 : PySem.W.findIn K (.ref gx5) "__init__" = some (some (.ref fx5)))
    (tx5 : PySem.W.typeIn K (.ref fx5) = some (.type "function"))
    (lx5 : K.lookup fx5 = some ⟨ocx5, odx5, .func (PySem.W.fnOf "__init__" "InvalidWorld.__init__" (defArgs (eS 5)) (defBody (eS 5)) (defScope (eS 5)) .none kVx5 dcx5 pmx5 anx5 cdx5 ctx5), slx5⟩)
    (cx5 : PySem.W.codeIn K cdx5 "InvalidWorld.__init__" = true)
    (kx5 : PySem.W.keepIn K (.ref fx5) = true)
    (nx5 : PySem.W.findIn K (.ref gx5) "word" = some none)
    (gx6a : PySem.W.nsIn K mainGlobals "InvalidStart" = some (some (.ref gx6)))
    (gx6_c : K.lookup gx6 = some (excClassObj nmx6 qx6 gx6 Nx6 bsx6 bmx6 true snx6 subx6 abx6 colx6 ddx6 z0x6 z1x6 z2x6 z3x6 z5x6 "ValueError.__new__"))
    (gx6_r : PySem.HandSPX.refsVE bmx6 = true)
    (gx6_1 : PySem.W.findIn K (.ref gx6) "__setattr__" = some (some (.builtin "object.__setattr__")))
    (gx6_2 : PySem.W.subIn K (.ref gx6) (.type "BaseException") = some true)
    (gx6_3 : PySem.W.typeIn K (.ref gx6) = some (.type "type"))
    (gx6_4 : PySem.W.keepIn K (.ref gx6) = true)
    (gx6_5 : PySem.W.findIn K (.ref gx6) "__getattribute__" = some (some (.builtin "BaseException.__getattribute__")))
    (gx6_6 : PySem.W.findIn K (.ref gx6) "__getattr__" = some none)
    (gx6_7 : PySem.W.hasDictIn K gx6 = true)
    (gx6_8 : PySem.W.findIn K (.ref gx6) "__class__" = some (some (.builtin "object.__class__")))
    (gx6_9 : PySem.W.mroIn K gx6 (.type "object") = some true)
    (ax6 : PySem.W.findIn K (.ref gx6) "__init__" = some (some (.ref fx6)))
    (tx6 : PySem.W.typeIn K (.ref fx6) = some (.type "function"))
    (lx6 : K.lookup fx6 = some ⟨ocx6, odx6, .func (PySem.W.fnOf "__init__" "InvalidStart.__init__" (defArgs (eS 6)) (defBody (eS 6)) (defScope (eS 6)) .none kVx6 dcx6 pmx6 anx6 cdx6 ctx6), slx6⟩)
    (cx6 : PySem.W.codeIn K cdx6 "InvalidStart.__init__" = true)
    (kx6 : PySem.W.keepIn K (.ref fx6) = true)
    (nx6 : PySem.W.findIn K (.ref gx6) "name" = some none)
    (gx7a : PySem.W.nsIn K mainGlobals "InvalidClaim" = some (some (.ref gx7)))
    (gx7_c : K.lookup gx7 = some (excClassObj nmx7 qx7 gx7 Nx7 bsx7 bmx7 true snx7 subx7 abx7 colx7 ddx7 z0x7 z1x7 z2x7 z3x7 z5x7 "ValueError.__new__"))
    (gx7_r : PySem.HandSPX.refsVE bmx7 = true)
    (gx7_1 : PySem.W.findIn K (.ref gx7) "__setattr__" = some (some (.builtin "object.__setattr__")))
    (gx7_2 : PySem.W.subIn K (.ref gx7) (.type "BaseException") = some true)
    (gx7_3 : PySem.W.typeIn K (.ref gx7) = some (.type "type"))
    (gx7_4 : PySem.W.keepIn K (.ref gx7) = true)
    (gx7_5 : PySem.W.findIn K (.ref gx7) "__getattribute__" = some (some (.builtin "BaseException.__getattribute__")))
    (gx7_6 : PySem.W.findIn K (.ref gx7) "__getattr__" = some none)
    (gx7_7 : PySem.W.hasDictIn K gx7 = true)
    (gx7_8 : PySem.W.findIn K (.ref gx7) "__class__" = some (some (.builtin "object.__class__")))
    (gx7_9 : PySem.W.mroIn K gx7 (.type "object") = some true)
    (ax7 : PySem.W.findIn K (.ref gx7) "__init__" = some (some (.ref fx7)))
    (tx7 : PySem.W.typeIn K (.ref fx7) = some (.type "function"))
    (lx7 : K.lookup fx7 = some ⟨ocx7, odx7, .func (PySem.W.fnOf "__init__" "InvalidClaim.__init__" (defArgs (eS 7)) (defBody (eS 7)) (defScope (eS 7)) .none kVx7 dcx7 pmx7 anx7 cdx7 ctx7), slx7⟩)
    (cx7 : PySem.W.codeIn K cdx7 "InvalidClaim.__init__" = true)
    (kx7 : PySem.W.keepIn K (.ref fx7) = true)
    (nx7 : PySem.W.findIn K (.ref gx7) "word" = some none)
    (gx8a : PySem.W.nsIn K mainGlobals "NoName" = some (some (.ref gx8)))
    (gx8_c : K.lookup gx8 = some (excClassObj nmx8 qx8 gx8 Nx8 bsx8 bmx8 true snx8 subx8 abx8 colx8 ddx8 z0x8 z1x8 z2x8 z3x8 z5x8 "ValueError.__new__"))
    (gx8_r : PySem.HandSPX.refsVE bmx8 = true)
    (gx8_1 : PySem.W.findIn K (.ref gx8) "__setattr__" = some (some (.builtin "object.__setattr__")))
    (gx8_2 : PySem.W.subIn K (.ref gx8) (.type "BaseException") = some true)
    (gx8_3 : PySem.W.typeIn K (.ref gx8) = some (.type "type"))
    (gx8_4 : PySem.W.keepIn K (.ref gx8) = true)
    (gx8_5 : PySem.W.findIn K (.ref gx8) "__getattribute__" = some (some (.builtin "BaseException.__getattribute__")))
    (gx8_6 : PySem.W.findIn K (.ref gx8) "__getattr__" = some none)
    (gx8_7 : PySem.W.hasDictIn K gx8 = true)
    (gx8_8 : PySem.W.findIn K (.ref gx8) "__class__" = some (some (.builtin "object.__class__")))
    (gx8_9 : PySem.W.mroIn K gx8 (.type "object") = some true)
    (ax8 : PySem.W.findIn K (.ref gx8) "__init__" = some (some (.ref fx8)))
    (tx8 : PySem.W.typeIn K (.ref fx8) = some (.type "function"))
    (lx8 : K.lookup fx8 = some ⟨ocx8, odx8, .func (PySem.W.fnOf "__init__" "NoName.__init__" (defArgs (eS 8)) (defBody (eS 8)) (defScope (eS 8)) .none kVx8 dcx8 pmx8 anx8 cdx8 ctx8), slx8⟩)
    (cx8 : PySem.W.codeIn K cdx8 "NoName.__init__" = true)
    (kx8 : PySem.W.keepIn K (.ref fx8) = true)
    (nx8 : PySem.W.findIn K (.ref gx8) "name" = some none)
    (gx9a : PySem.W.nsIn K mainGlobals "NoStep" = some (some (.ref gx9)))
    (gx9_c : K.lookup gx9 = some (excClassObj nmx9 qx9 gx9 Nx9 bsx9 bmx9 true snx9 subx9 abx9 colx9 ddx9 z0x9 z1x9 z2x9 z3x9 z5x9 "ValueError.__new__"))
    (gx9_r : PySem.HandSPX.refsVE bmx9 = true)
    (gx9_1 : PySem.W.findIn K (.ref gx9) "__setattr__" = some (some (.builtin "object.__setattr__")))
    (gx9_2 : PySem.W.subIn K (.ref gx9) (.type "BaseException") = some true)
    (gx9_3 : PySem.W.typeIn K (.ref gx9) = some (.type "type"))
    (gx9_4 : PySem.W.keepIn K (.ref gx9) = true)
    (gx9_5 : PySem.W.findIn K (.ref gx9) "__getattribute__" = some (some (.builtin "BaseException.__getattribute__")))
    (gx9_6 : PySem.W.findIn K (.ref gx9) "__getattr__" = some none)
    (gx9_7 : PySem.W.hasDictIn K gx9 = true)
    (gx9_8 : PySem.W.findIn K (.ref gx9) "__class__" = some (some (.builtin "object.__class__")))
    (gx9_9 : PySem.W.mroIn K gx9 (.type "object") = some true)
    (ax9 : PySem.W.findIn K (.ref gx9) "__init__" = some (some (.ref fx9)))
    (tx9 : PySem.W.typeIn K (.ref fx9) = some (.type "function"))
    (lx9 : K.lookup fx9 = some ⟨ocx9, odx9, .func (PySem.W.fnOf "__init__" "NoStep.__init__" (defArgs (eS 9)) (defBody (eS 9)) (defScope (eS 9)) .none kVx9 dcx9 pmx9 anx9 cdx9 ctx9), slx9⟩)
    (cx9 : PySem.W.codeIn K cdx9 "NoStep.__init__" = true)
    (kx9 : PySem.W.keepIn K (.ref fx9) = true)
    (nx9 : PySem.W.findIn K (.ref gx9) "name" = some none)
    (gx10a : PySem.W.nsIn K mainGlobals "NoRow" = some (some (.ref gx10)))
    (gx10_c : K.lookup gx10 = some (excClassObj nmx10 qx10 gx10 Nx10 bsx10 bmx10 true snx10 subx10 abx10 colx10 ddx10 z0x10 z1x10 z2x10 z3x10 z5x10 "ValueError.__new__"))
    (gx10_r : PySem.HandSPX.refsVE bmx10 = true)
    (gx10_1 : PySem.W.findIn K (.ref gx10) "__setattr__" = some (some (.builtin "object.__setattr__")))
    (gx10_2 : PySem.W.subIn K (.ref gx10) (.type "BaseException") = some true)
    (gx10_3 : PySem.W.typeIn K (.ref gx10) = some (.type "type"))
    (gx10_4 : PySem.W.keepIn K (.ref gx10) = true)
    (gx10_5 : PySem.W.findIn K (.ref gx10) "__getattribute__" = some (some (.builtin "BaseException.__getattribute__")))
    (gx10_6 : PySem.W.findIn K (.ref gx10) "__getattr__" = some none)
    (gx10_7 : PySem.W.hasDictIn K gx10 = true)
    (gx10_8 : PySem.W.findIn K (.ref gx10) "__class__" = some (some (.builtin "object.__class__")))
    (gx10_9 : PySem.W.mroIn K gx10 (.type "object") = some true)
    (ax10 : PySem.W.findIn K (.ref gx10) "__init__" = some (some (.ref fx10)))
    (tx10 : PySem.W.typeIn K (.ref fx10) = some (.type "function"))
    (lx10 : K.lookup fx10 = some ⟨ocx10, odx10, .func (PySem.W.fnOf "__init__" "NoRow.__init__" (defArgs (eS 10)) (defBody (eS 10)) (defScope (eS 10)) .none kVx10 dcx10 pmx10 anx10 cdx10 ctx10), slx10⟩)
    (cx10 : PySem.W.codeIn K cdx10 "NoRow.__init__" = true)
    (kx10 : PySem.W.keepIn K (.ref fx10) = true)
    (nx10 : PySem.W.findIn K (.ref gx10) "at" = some none)
    (gx11a : PySem.W.nsIn K mainGlobals "Impossible" = some (some (.ref gx11)))
    (gx11_c : K.lookup gx11 = some (excClassObj nmx11 qx11 gx11 Nx11 bsx11 bmx11 true snx11 subx11 abx11 colx11 ddx11 z0x11 z1x11 z2x11 z3x11 z5x11 "ValueError.__new__"))
    (gx11_r : PySem.HandSPX.refsVE bmx11 = true)
    (gx11_1 : PySem.W.findIn K (.ref gx11) "__setattr__" = some (some (.builtin "object.__setattr__")))
    (gx11_2 : PySem.W.subIn K (.ref gx11) (.type "BaseException") = some true)
    (gx11_3 : PySem.W.typeIn K (.ref gx11) = some (.type "type"))
    (gx11_4 : PySem.W.keepIn K (.ref gx11) = true)
    (gx11_5 : PySem.W.findIn K (.ref gx11) "__getattribute__" = some (some (.builtin "BaseException.__getattribute__")))
    (gx11_6 : PySem.W.findIn K (.ref gx11) "__getattr__" = some none)
    (gx11_7 : PySem.W.hasDictIn K gx11 = true)
    (gx11_8 : PySem.W.findIn K (.ref gx11) "__class__" = some (some (.builtin "object.__class__")))
    (gx11_9 : PySem.W.mroIn K gx11 (.type "object") = some true)
    (ax11 : PySem.W.findIn K (.ref gx11) "__init__" = some (some (.builtin "ValueError.__init__")))
    (gx12a : PySem.W.nsIn K mainGlobals "WaysError" = some (some (.ref gx12)))
    (gx12_c : K.lookup gx12 = some (excClassObj nmx12 qx12 gx12 Nx12 bsx12 bmx12 true snx12 subx12 abx12 colx12 ddx12 z0x12 z1x12 z2x12 z3x12 z5x12 "ValueError.__new__"))
    (gx12_r : PySem.HandSPX.refsVE bmx12 = true)
    (gx12_1 : PySem.W.findIn K (.ref gx12) "__setattr__" = some (some (.builtin "object.__setattr__")))
    (gx12_2 : PySem.W.subIn K (.ref gx12) (.type "BaseException") = some true)
    (gx12_3 : PySem.W.typeIn K (.ref gx12) = some (.type "type"))
    (gx12_4 : PySem.W.keepIn K (.ref gx12) = true)
    (gx12_5 : PySem.W.findIn K (.ref gx12) "__getattribute__" = some (some (.builtin "BaseException.__getattribute__")))
    (gx12_6 : PySem.W.findIn K (.ref gx12) "__getattr__" = some none)
    (gx12_7 : PySem.W.hasDictIn K gx12 = true)
    (gx12_8 : PySem.W.findIn K (.ref gx12) "__class__" = some (some (.builtin "object.__class__")))
    (gx12_9 : PySem.W.mroIn K gx12 (.type "object") = some true)
    (ax12 : PySem.W.findIn K (.ref gx12) "__init__" = some (some (.builtin "ValueError.__init__")))
    (y0_0 : PySem.W.kitOne K (.ref gx0) (.ref gx0) = some true)
    (y0_1 : PySem.W.kitOne K (.ref gx0) (.ref gx1) = some false)
    (y0_2 : PySem.W.kitOne K (.ref gx0) (.ref gx2) = some false)
    (y0_3 : PySem.W.kitOne K (.ref gx0) (.ref gx3) = some false)
    (y0_4 : PySem.W.kitOne K (.ref gx0) (.ref gx4) = some false)
    (y0_5 : PySem.W.kitOne K (.ref gx0) (.ref gx5) = some false)
    (y0_6 : PySem.W.kitOne K (.ref gx0) (.ref gx6) = some false)
    (y0_7 : PySem.W.kitOne K (.ref gx0) (.ref gx7) = some false)
    (y0_8 : PySem.W.kitOne K (.ref gx0) (.ref gx8) = some false)
    (y0_9 : PySem.W.kitOne K (.ref gx0) (.ref gx9) = some false)
    (y0_10 : PySem.W.kitOne K (.ref gx0) (.ref gx10) = some false)
    (y0_11 : PySem.W.kitOne K (.ref gx0) (.ref gx11) = some false)
    (yb0 : PySem.W.kitOne K (.ref gx12) (.ref gx0) = some false)
    (yv0 : PySem.W.kitOne K (.ref gx0) (.type "ValueError") = some true)
    (yw0 : PySem.W.kitOne K (.ref gx0) (.ref gx12) = some true)
    (y1_0 : PySem.W.kitOne K (.ref gx1) (.ref gx0) = some false)
    (y1_1 : PySem.W.kitOne K (.ref gx1) (.ref gx1) = some true)
    (y1_2 : PySem.W.kitOne K (.ref gx1) (.ref gx2) = some false)
    (y1_3 : PySem.W.kitOne K (.ref gx1) (.ref gx3) = some false)
    (y1_4 : PySem.W.kitOne K (.ref gx1) (.ref gx4) = some false)
    (y1_5 : PySem.W.kitOne K (.ref gx1) (.ref gx5) = some false)
    (y1_6 : PySem.W.kitOne K (.ref gx1) (.ref gx6) = some false)
    (y1_7 : PySem.W.kitOne K (.ref gx1) (.ref gx7) = some false)
    (y1_8 : PySem.W.kitOne K (.ref gx1) (.ref gx8) = some false)
    (y1_9 : PySem.W.kitOne K (.ref gx1) (.ref gx9) = some false)
    (y1_10 : PySem.W.kitOne K (.ref gx1) (.ref gx10) = some false)
    (y1_11 : PySem.W.kitOne K (.ref gx1) (.ref gx11) = some false)
    (yb1 : PySem.W.kitOne K (.ref gx12) (.ref gx1) = some false)
    (yv1 : PySem.W.kitOne K (.ref gx1) (.type "ValueError") = some true)
    (yw1 : PySem.W.kitOne K (.ref gx1) (.ref gx12) = some true)
    (y2_0 : PySem.W.kitOne K (.ref gx2) (.ref gx0) = some false)
    (y2_1 : PySem.W.kitOne K (.ref gx2) (.ref gx1) = some false)
    (y2_2 : PySem.W.kitOne K (.ref gx2) (.ref gx2) = some true)
    (y2_3 : PySem.W.kitOne K (.ref gx2) (.ref gx3) = some false)
    (y2_4 : PySem.W.kitOne K (.ref gx2) (.ref gx4) = some false)
    (y2_5 : PySem.W.kitOne K (.ref gx2) (.ref gx5) = some false)
    (y2_6 : PySem.W.kitOne K (.ref gx2) (.ref gx6) = some false)
    (y2_7 : PySem.W.kitOne K (.ref gx2) (.ref gx7) = some false)
    (y2_8 : PySem.W.kitOne K (.ref gx2) (.ref gx8) = some false)
    (y2_9 : PySem.W.kitOne K (.ref gx2) (.ref gx9) = some false)
    (y2_10 : PySem.W.kitOne K (.ref gx2) (.ref gx10) = some false)
    (y2_11 : PySem.W.kitOne K (.ref gx2) (.ref gx11) = some false)
    (yb2 : PySem.W.kitOne K (.ref gx12) (.ref gx2) = some false)
    (yv2 : PySem.W.kitOne K (.ref gx2) (.type "ValueError") = some true)
    (yw2 : PySem.W.kitOne K (.ref gx2) (.ref gx12) = some true)
    (y3_0 : PySem.W.kitOne K (.ref gx3) (.ref gx0) = some false)
    (y3_1 : PySem.W.kitOne K (.ref gx3) (.ref gx1) = some false)
    (y3_2 : PySem.W.kitOne K (.ref gx3) (.ref gx2) = some false)
    (y3_3 : PySem.W.kitOne K (.ref gx3) (.ref gx3) = some true)
    (y3_4 : PySem.W.kitOne K (.ref gx3) (.ref gx4) = some false)
    (y3_5 : PySem.W.kitOne K (.ref gx3) (.ref gx5) = some false)
    (y3_6 : PySem.W.kitOne K (.ref gx3) (.ref gx6) = some false)
    (y3_7 : PySem.W.kitOne K (.ref gx3) (.ref gx7) = some false)
    (y3_8 : PySem.W.kitOne K (.ref gx3) (.ref gx8) = some false)
    (y3_9 : PySem.W.kitOne K (.ref gx3) (.ref gx9) = some false)
    (y3_10 : PySem.W.kitOne K (.ref gx3) (.ref gx10) = some false)
    (y3_11 : PySem.W.kitOne K (.ref gx3) (.ref gx11) = some false)
    (yb3 : PySem.W.kitOne K (.ref gx12) (.ref gx3) = some false)
    (yv3 : PySem.W.kitOne K (.ref gx3) (.type "ValueError") = some true)
    (yw3 : PySem.W.kitOne K (.ref gx3) (.ref gx12) = some true)
    (y4_0 : PySem.W.kitOne K (.ref gx4) (.ref gx0) = some false)
    (y4_1 : PySem.W.kitOne K (.ref gx4) (.ref gx1) = some false)
    (y4_2 : PySem.W.kitOne K (.ref gx4) (.ref gx2) = some false)
    (y4_3 : PySem.W.kitOne K (.ref gx4) (.ref gx3) = some false)
    (y4_4 : PySem.W.kitOne K (.ref gx4) (.ref gx4) = some true)
    (y4_5 : PySem.W.kitOne K (.ref gx4) (.ref gx5) = some false)
    (y4_6 : PySem.W.kitOne K (.ref gx4) (.ref gx6) = some false)
    (y4_7 : PySem.W.kitOne K (.ref gx4) (.ref gx7) = some false)
    (y4_8 : PySem.W.kitOne K (.ref gx4) (.ref gx8) = some false)
    (y4_9 : PySem.W.kitOne K (.ref gx4) (.ref gx9) = some false)
    (y4_10 : PySem.W.kitOne K (.ref gx4) (.ref gx10) = some false)
    (y4_11 : PySem.W.kitOne K (.ref gx4) (.ref gx11) = some false)
    (yb4 : PySem.W.kitOne K (.ref gx12) (.ref gx4) = some false)
    (yv4 : PySem.W.kitOne K (.ref gx4) (.type "ValueError") = some true)
    (yw4 : PySem.W.kitOne K (.ref gx4) (.ref gx12) = some true)
    (y5_0 : PySem.W.kitOne K (.ref gx5) (.ref gx0) = some false)
    (y5_1 : PySem.W.kitOne K (.ref gx5) (.ref gx1) = some false)
    (y5_2 : PySem.W.kitOne K (.ref gx5) (.ref gx2) = some false)
    (y5_3 : PySem.W.kitOne K (.ref gx5) (.ref gx3) = some false)
    (y5_4 : PySem.W.kitOne K (.ref gx5) (.ref gx4) = some false)
    (y5_5 : PySem.W.kitOne K (.ref gx5) (.ref gx5) = some true)
    (y5_6 : PySem.W.kitOne K (.ref gx5) (.ref gx6) = some false)
    (y5_7 : PySem.W.kitOne K (.ref gx5) (.ref gx7) = some false)
    (y5_8 : PySem.W.kitOne K (.ref gx5) (.ref gx8) = some false)
    (y5_9 : PySem.W.kitOne K (.ref gx5) (.ref gx9) = some false)
    (y5_10 : PySem.W.kitOne K (.ref gx5) (.ref gx10) = some false)
    (y5_11 : PySem.W.kitOne K (.ref gx5) (.ref gx11) = some false)
    (yb5 : PySem.W.kitOne K (.ref gx12) (.ref gx5) = some false)
    (yv5 : PySem.W.kitOne K (.ref gx5) (.type "ValueError") = some true)
    (yw5 : PySem.W.kitOne K (.ref gx5) (.ref gx12) = some true)
    (y6_0 : PySem.W.kitOne K (.ref gx6) (.ref gx0) = some false)
    (y6_1 : PySem.W.kitOne K (.ref gx6) (.ref gx1) = some false)
    (y6_2 : PySem.W.kitOne K (.ref gx6) (.ref gx2) = some false)
    (y6_3 : PySem.W.kitOne K (.ref gx6) (.ref gx3) = some false)
    (y6_4 : PySem.W.kitOne K (.ref gx6) (.ref gx4) = some false)
    (y6_5 : PySem.W.kitOne K (.ref gx6) (.ref gx5) = some false)
    (y6_6 : PySem.W.kitOne K (.ref gx6) (.ref gx6) = some true)
    (y6_7 : PySem.W.kitOne K (.ref gx6) (.ref gx7) = some false)
    (y6_8 : PySem.W.kitOne K (.ref gx6) (.ref gx8) = some false)
    (y6_9 : PySem.W.kitOne K (.ref gx6) (.ref gx9) = some false)
    (y6_10 : PySem.W.kitOne K (.ref gx6) (.ref gx10) = some false)
    (y6_11 : PySem.W.kitOne K (.ref gx6) (.ref gx11) = some false)
    (yb6 : PySem.W.kitOne K (.ref gx12) (.ref gx6) = some false)
    (yv6 : PySem.W.kitOne K (.ref gx6) (.type "ValueError") = some true)
    (yw6 : PySem.W.kitOne K (.ref gx6) (.ref gx12) = some true)
    (y7_0 : PySem.W.kitOne K (.ref gx7) (.ref gx0) = some false)
    (y7_1 : PySem.W.kitOne K (.ref gx7) (.ref gx1) = some false)
    (y7_2 : PySem.W.kitOne K (.ref gx7) (.ref gx2) = some false)
    (y7_3 : PySem.W.kitOne K (.ref gx7) (.ref gx3) = some false)
    (y7_4 : PySem.W.kitOne K (.ref gx7) (.ref gx4) = some false)
    (y7_5 : PySem.W.kitOne K (.ref gx7) (.ref gx5) = some false)
    (y7_6 : PySem.W.kitOne K (.ref gx7) (.ref gx6) = some false)
    (y7_7 : PySem.W.kitOne K (.ref gx7) (.ref gx7) = some true)
    (y7_8 : PySem.W.kitOne K (.ref gx7) (.ref gx8) = some false)
    (y7_9 : PySem.W.kitOne K (.ref gx7) (.ref gx9) = some false)
    (y7_10 : PySem.W.kitOne K (.ref gx7) (.ref gx10) = some false)
    (y7_11 : PySem.W.kitOne K (.ref gx7) (.ref gx11) = some false)
    (yb7 : PySem.W.kitOne K (.ref gx12) (.ref gx7) = some false)
    (yv7 : PySem.W.kitOne K (.ref gx7) (.type "ValueError") = some true)
    (yw7 : PySem.W.kitOne K (.ref gx7) (.ref gx12) = some true)
    (y8_0 : PySem.W.kitOne K (.ref gx8) (.ref gx0) = some false)
    (y8_1 : PySem.W.kitOne K (.ref gx8) (.ref gx1) = some false)
    (y8_2 : PySem.W.kitOne K (.ref gx8) (.ref gx2) = some false)
    (y8_3 : PySem.W.kitOne K (.ref gx8) (.ref gx3) = some false)
    (y8_4 : PySem.W.kitOne K (.ref gx8) (.ref gx4) = some false)
    (y8_5 : PySem.W.kitOne K (.ref gx8) (.ref gx5) = some false)
    (y8_6 : PySem.W.kitOne K (.ref gx8) (.ref gx6) = some false)
    (y8_7 : PySem.W.kitOne K (.ref gx8) (.ref gx7) = some false)
    (y8_8 : PySem.W.kitOne K (.ref gx8) (.ref gx8) = some true)
    (y8_9 : PySem.W.kitOne K (.ref gx8) (.ref gx9) = some false)
    (y8_10 : PySem.W.kitOne K (.ref gx8) (.ref gx10) = some false)
    (y8_11 : PySem.W.kitOne K (.ref gx8) (.ref gx11) = some false)
    (yb8 : PySem.W.kitOne K (.ref gx12) (.ref gx8) = some false)
    (yv8 : PySem.W.kitOne K (.ref gx8) (.type "ValueError") = some true)
    (yw8 : PySem.W.kitOne K (.ref gx8) (.ref gx12) = some true)
    (y9_0 : PySem.W.kitOne K (.ref gx9) (.ref gx0) = some false)
    (y9_1 : PySem.W.kitOne K (.ref gx9) (.ref gx1) = some false)
    (y9_2 : PySem.W.kitOne K (.ref gx9) (.ref gx2) = some false)
    (y9_3 : PySem.W.kitOne K (.ref gx9) (.ref gx3) = some false)
    (y9_4 : PySem.W.kitOne K (.ref gx9) (.ref gx4) = some false)
    (y9_5 : PySem.W.kitOne K (.ref gx9) (.ref gx5) = some false)
    (y9_6 : PySem.W.kitOne K (.ref gx9) (.ref gx6) = some false)
    (y9_7 : PySem.W.kitOne K (.ref gx9) (.ref gx7) = some false)
    (y9_8 : PySem.W.kitOne K (.ref gx9) (.ref gx8) = some false)
    (y9_9 : PySem.W.kitOne K (.ref gx9) (.ref gx9) = some true)
    (y9_10 : PySem.W.kitOne K (.ref gx9) (.ref gx10) = some false)
    (y9_11 : PySem.W.kitOne K (.ref gx9) (.ref gx11) = some false)
    (yb9 : PySem.W.kitOne K (.ref gx12) (.ref gx9) = some false)
    (yv9 : PySem.W.kitOne K (.ref gx9) (.type "ValueError") = some true)
    (yw9 : PySem.W.kitOne K (.ref gx9) (.ref gx12) = some true)
    (y10_0 : PySem.W.kitOne K (.ref gx10) (.ref gx0) = some false)
    (y10_1 : PySem.W.kitOne K (.ref gx10) (.ref gx1) = some false)
    (y10_2 : PySem.W.kitOne K (.ref gx10) (.ref gx2) = some false)
    (y10_3 : PySem.W.kitOne K (.ref gx10) (.ref gx3) = some false)
    (y10_4 : PySem.W.kitOne K (.ref gx10) (.ref gx4) = some false)
    (y10_5 : PySem.W.kitOne K (.ref gx10) (.ref gx5) = some false)
    (y10_6 : PySem.W.kitOne K (.ref gx10) (.ref gx6) = some false)
    (y10_7 : PySem.W.kitOne K (.ref gx10) (.ref gx7) = some false)
    (y10_8 : PySem.W.kitOne K (.ref gx10) (.ref gx8) = some false)
    (y10_9 : PySem.W.kitOne K (.ref gx10) (.ref gx9) = some false)
    (y10_10 : PySem.W.kitOne K (.ref gx10) (.ref gx10) = some true)
    (y10_11 : PySem.W.kitOne K (.ref gx10) (.ref gx11) = some false)
    (yb10 : PySem.W.kitOne K (.ref gx12) (.ref gx10) = some false)
    (yv10 : PySem.W.kitOne K (.ref gx10) (.type "ValueError") = some true)
    (yw10 : PySem.W.kitOne K (.ref gx10) (.ref gx12) = some true)
    (y11_0 : PySem.W.kitOne K (.ref gx11) (.ref gx0) = some false)
    (y11_1 : PySem.W.kitOne K (.ref gx11) (.ref gx1) = some false)
    (y11_2 : PySem.W.kitOne K (.ref gx11) (.ref gx2) = some false)
    (y11_3 : PySem.W.kitOne K (.ref gx11) (.ref gx3) = some false)
    (y11_4 : PySem.W.kitOne K (.ref gx11) (.ref gx4) = some false)
    (y11_5 : PySem.W.kitOne K (.ref gx11) (.ref gx5) = some false)
    (y11_6 : PySem.W.kitOne K (.ref gx11) (.ref gx6) = some false)
    (y11_7 : PySem.W.kitOne K (.ref gx11) (.ref gx7) = some false)
    (y11_8 : PySem.W.kitOne K (.ref gx11) (.ref gx8) = some false)
    (y11_9 : PySem.W.kitOne K (.ref gx11) (.ref gx9) = some false)
    (y11_10 : PySem.W.kitOne K (.ref gx11) (.ref gx10) = some false)
    (y11_11 : PySem.W.kitOne K (.ref gx11) (.ref gx11) = some true)
    (yb11 : PySem.W.kitOne K (.ref gx12) (.ref gx11) = some false)
    (yv11 : PySem.W.kitOne K (.ref gx11) (.type "ValueError") = some true)
    (yw11 : PySem.W.kitOne K (.ref gx11) (.ref gx12) = some true)
    (xm : PySem.W.exmOne K (.ref gx4) (.ref gx12) = some true)
    (yvb : PySem.W.kitOne K (.ref gx12) (.type "ValueError") = some true)
    : ∃ fd : FuncData, (∀ (s : Shared) (v : Value), BindsTo s fd ⟨[v], []⟩ [("_law_script", v)]) ∧ ∀ base : Heap, K.In base → base.Ns mainGlobals mg → FnOk l.prog w K mg base CX0 39 fa fd ["_law_script"] (spLaw K) := by
  have e := hfa.symm.trans (PySem.W.mg_of X G alaw)
  cases e
  have S : Std mg := ⟨PySem.W.mg_none_of X G b_len, PySem.W.mg_none_of X G b_abs, PySem.W.mg_none_of X G b_int, PySem.W.mg_none_of X G b_range, PySem.W.mg_none_of X G b_isinstance, PySem.W.mg_none_of X G b_tuple, PySem.W.mg_none_of X G b_list, PySem.W.mg_none_of X G b_all, PySem.W.mg_none_of X G b_zip, PySem.W.mg_none_of X G b_bool, PySem.W.mg_none_of X G b_str, PySem.W.mg_none_of X G b_enumerate, PySem.W.mg_none_of X G b_min⟩
  have hV := PySem.W.mg_none_of X G b_ve
  have Flaw_feed := fun_mk (st := sFeed) llaw_feed claw_feed klaw_feed
  have Dlaw_feed : Df K mg "_law_feed" sFeed _ _ ["_law_script", "_law_k"] := ⟨Flaw_feed, Flaw_feed.binds (ps := ["_law_script", "_law_k"]) fun _ _ _ _ _ _ us hl => match us, hl with | [_, _], _ => rfl, PySem.W.mg_of X G alaw_feed⟩
  have Flaw_draw := fun_mk (st := sDraw) llaw_draw claw_draw klaw_draw
  have Dlaw_draw : Df K mg "_law_draw" sDraw _ _ ["_law_feed_here", "_law_many"] := ⟨Flaw_draw, Flaw_draw.binds (ps := ["_law_feed_here", "_law_many"]) fun _ _ _ _ _ _ us hl => match us, hl with | [_, _], _ => rfl, PySem.W.mg_of X G alaw_draw⟩
  have Flaw_pick := fun_mk (st := sPick) llaw_pick claw_pick klaw_pick
  have Dlaw_pick : Df K mg "_law_pick" sPick _ _ ["_law_feed_here", "_law_items"] := ⟨Flaw_pick, Flaw_pick.binds (ps := ["_law_feed_here", "_law_items"]) fun _ _ _ _ _ _ us hl => match us, hl with | [_, _], _ => rfl, PySem.W.mg_of X G alaw_pick⟩
  have Flaw_same := fun_mk (st := sSame) llaw_same claw_same klaw_same
  have Dlaw_same : Df K mg "_law_same" sSame _ _ ["_law_found", "_law_due_here"] := ⟨Flaw_same, Flaw_same.binds (ps := ["_law_found", "_law_due_here"]) fun _ _ _ _ _ _ us hl => match us, hl with | [_, _], _ => rfl, PySem.W.mg_of X G alaw_same⟩
  have Flaw_word := fun_mk (st := sWord) llaw_word claw_word klaw_word
  have Dlaw_word : Df K mg "_law_word" sWord _ _ ["_law_feed_here"] := ⟨Flaw_word, Flaw_word.binds (ps := ["_law_feed_here"]) fun _ _ _ _ _ _ us hl => match us, hl with | [_], _ => rfl, PySem.W.mg_of X G alaw_word⟩
  have Flaw_words := fun_mk (st := sWords) llaw_words claw_words klaw_words
  have Dlaw_words : Df K mg "_law_words" sWords _ _ ["_law_feed_here", "_law_many"] := ⟨Flaw_words, Flaw_words.binds (ps := ["_law_feed_here", "_law_many"]) fun _ _ _ _ _ _ us hl => match us, hl with | [_, _], _ => rfl, PySem.W.mg_of X G alaw_words⟩
  have Flaw_sign := fun_mk (st := sSign) llaw_sign claw_sign klaw_sign
  have Dlaw_sign : Df K mg "_law_sign" sSign _ _ ["_law_feed_here"] := ⟨Flaw_sign, Flaw_sign.binds (ps := ["_law_feed_here"]) fun _ _ _ _ _ _ us hl => match us, hl with | [_], _ => rfl, PySem.W.mg_of X G alaw_sign⟩
  have Flaw_bent := fun_mk (st := sBent) llaw_bent claw_bent klaw_bent
  have Dlaw_bent : Df K mg "_law_bent" sBent _ _ ["_law_feed_here", "_law_text"] := ⟨Flaw_bent, Flaw_bent.binds (ps := ["_law_feed_here", "_law_text"]) fun _ _ _ _ _ _ us hl => match us, hl with | [_, _], _ => rfl, PySem.W.mg_of X G alaw_bent⟩
  have Flaw_refused := fun_mk (st := sRefused) llaw_refused claw_refused klaw_refused
  have Dlaw_refused : Df K mg "_law_refused" sRefused _ _ ["_law_e"] := ⟨Flaw_refused, Flaw_refused.binds (ps := ["_law_e"]) fun _ _ _ _ _ _ us hl => match us, hl with | [_], _ => rfl, PySem.W.mg_of X G alaw_refused⟩
  have Flaw_term := fun_mk (st := sTerm) llaw_term claw_term klaw_term
  have Dlaw_term : Df K mg "_law_term" sTerm _ _ ["_law_feed_here", "_law_names", "_law_deep"] := ⟨Flaw_term, Flaw_term.binds (ps := ["_law_feed_here", "_law_names", "_law_deep"]) fun _ _ _ _ _ _ us hl => match us, hl with | [_, _, _], _ => rfl, PySem.W.mg_of X G alaw_term⟩
  have Flaw_tree := fun_mk (st := sTree) llaw_tree claw_tree klaw_tree
  have Dlaw_tree : Df K mg "_law_tree" sTree _ _ ["_law_feed_here", "_law_names", "_law_room", "_law_deep"] := ⟨Flaw_tree, Flaw_tree.binds (ps := ["_law_feed_here", "_law_names", "_law_room", "_law_deep"]) fun _ _ _ _ _ _ us hl => match us, hl with | [_, _, _, _], _ => rfl, PySem.W.mg_of X G alaw_tree⟩
  have Flaw_is_side := fun_mk (st := sIsSide) llaw_is_side claw_is_side klaw_is_side
  have Dlaw_is_side : Df K mg "_law_is_side" sIsSide _ _ ["_law_text"] := ⟨Flaw_is_side, Flaw_is_side.binds (ps := ["_law_text"]) fun _ _ _ _ _ _ us hl => match us, hl with | [_], _ => rfl, PySem.W.mg_of X G alaw_is_side⟩
  have Flaw_branch := fun_mk (st := sBranch) llaw_branch claw_branch klaw_branch
  have Dlaw_branch : Df K mg "_law_branch" sBranch _ _ ["_law_lines", "_law_at", "_law_ahead"] := ⟨Flaw_branch, Flaw_branch.binds (ps := ["_law_lines", "_law_at", "_law_ahead"]) fun _ _ _ _ _ _ us hl => match us, hl with | [_, _, _], _ => rfl, PySem.W.mg_of X G alaw_branch⟩
  have Flaw_due := fun_mk (st := sDue) llaw_due claw_due klaw_due
  have Dlaw_due : Df K mg "_law_due" sDue _ _ ["_law_text"] := ⟨Flaw_due, Flaw_due.binds (ps := ["_law_text"]) fun _ _ _ _ _ _ us hl => match us, hl with | [_], _ => rfl, PySem.W.mg_of X G alaw_due⟩
  have Flaw_told := fun_mk (st := sTold) llaw_told claw_told klaw_told
  have Dlaw_told : Df K mg "_law_told" sTold _ _ ["_law_text"] := ⟨Flaw_told, Flaw_told.binds (ps := ["_law_text"]) fun _ _ _ _ _ _ us hl => match us, hl with | [_], _ => rfl, PySem.W.mg_of X G alaw_told⟩
  have Flaw_changed := fun_mk (st := sChanged) llaw_changed claw_changed klaw_changed
  have Dlaw_changed : Df K mg "_law_changed" sChanged _ _ ["_law_feed_here", "_law_text"] := ⟨Flaw_changed, Flaw_changed.binds (ps := ["_law_feed_here", "_law_text"]) fun _ _ _ _ _ _ us hl => match us, hl with | [_, _], _ => rfl, PySem.W.mg_of X G alaw_changed⟩
  have Flaw := fun_mk (st := sLaw) llaw claw klaw
  have Dlaw : Df K mg "law" sLaw _ _ ["_law_script"] := ⟨Flaw, Flaw.binds (ps := ["_law_script"]) fun _ _ _ _ _ _ us hl => match us, hl with | [_], _ => rfl, PySem.W.mg_of X G alaw⟩
  have Fshow_tree := fun_mk (st := pShow) lshow_tree cshow_tree kshow_tree
  have Dshow_tree : Df K mg "show_tree" pShow _ _ ["told"] := ⟨Fshow_tree, Fshow_tree.binds (ps := ["told"]) fun _ _ _ _ _ _ us hl => match us, hl with | [_], _ => rfl, PySem.W.mg_of X G ashow_tree⟩
  have Fread_tree := fun_mk (st := pRead) lread_tree cread_tree kread_tree
  have Dread_tree : Df K mg "read_tree" pRead _ _ ["text"] := ⟨Fread_tree, Fread_tree.binds (ps := ["text"]) fun _ _ _ _ _ _ us hl => match us, hl with | [_], _ => rfl, PySem.W.mg_of X G aread_tree⟩
  have Flines_of := fun_mk (st := pLinesOf) llines_of clines_of klines_of
  have Dlines_of : Df K mg "_lines_of" pLinesOf _ _ ["told", "ahead"] := ⟨Flines_of, Flines_of.binds (ps := ["told", "ahead"]) fun _ _ _ _ _ _ us hl => match us, hl with | [_, _], _ => rfl, PySem.W.mg_of X G alines_of⟩
  have Ftree_at := fun_mk (st := pTreeAt) ltree_at ctree_at ktree_at
  have Dtree_at : Df K mg "_tree_at" pTreeAt _ _ ["lines", "at", "ahead"] := ⟨Ftree_at, Ftree_at.binds (ps := ["lines", "at", "ahead"]) fun _ _ _ _ _ _ us hl => match us, hl with | [_, _, _], _ => rfl, PySem.W.mg_of X G atree_at⟩
  have Fsides_in := fun_mk (st := pSides) lsides_in csides_in ksides_in
  have Dsides_in : Df K mg "_sides_in" pSides _ _ ["lines", "at", "ahead"] := ⟨Fsides_in, Fsides_in.binds (ps := ["lines", "at", "ahead"]) fun _ _ _ _ _ _ us hl => match us, hl with | [_, _, _], _ => rfl, PySem.W.mg_of X G asides_in⟩
  have Fmay_be_term := fun_mk (st := pMay) lmay_be_term cmay_be_term kmay_be_term
  have Dmay_be_term : Df K mg "_may_be_term" pMay _ _ ["text"] := ⟨Fmay_be_term, Fmay_be_term.binds (ps := ["text"]) fun _ _ _ _ _ _ us hl => match us, hl with | [_], _ => rfl, PySem.W.mg_of X G amay_be_term⟩
  have CC : Cs mg tL tI := ⟨PySem.W.mg_of X G kLEAF, PySem.W.mg_of X G kINDENT⟩
  have Tx0 : OexC K gx0 := ⟨⟨_, _, _, _, _, _, _, _, _, _, _, _, _, _, _, gx0_c, gx0_r⟩, gx0_1, gx0_2, gx0_3, gx0_4⟩
  have Ex0 : ExcC K gx0 := ⟨gx0_5, gx0_6, gx0_2, gx0_7, gx0_8, so, tk, gx0_9⟩
  have Fx0 := fun_mk (st := eS 0) lx0 cx0 kx0
  have Rx0 : Er K mg 0 gx0 fx0 _ := ⟨PySem.W.mg_of X G gx0a, Tx0, ⟨gx0_5, gx0_6, gx0_2, gx0_7⟩, Ex0, ax0, tx0, Fx0, Fx0.binds (ps := ["self", "word"]) fun _ _ _ _ _ _ us hl => match us, hl with | [_, _], _ => rfl, nx0⟩
  have Tx1 : OexC K gx1 := ⟨⟨_, _, _, _, _, _, _, _, _, _, _, _, _, _, _, gx1_c, gx1_r⟩, gx1_1, gx1_2, gx1_3, gx1_4⟩
  have Ex1 : ExcC K gx1 := ⟨gx1_5, gx1_6, gx1_2, gx1_7, gx1_8, so, tk, gx1_9⟩
  have Fx1 := fun_mk (st := eS 1) lx1 cx1 kx1
  have Rx1 : Er K mg 1 gx1 fx1 _ := ⟨PySem.W.mg_of X G gx1a, Tx1, ⟨gx1_5, gx1_6, gx1_2, gx1_7⟩, Ex1, ax1, tx1, Fx1, Fx1.binds (ps := ["self", "word"]) fun _ _ _ _ _ _ us hl => match us, hl with | [_, _], _ => rfl, nx1⟩
  have Tx2 : OexC K gx2 := ⟨⟨_, _, _, _, _, _, _, _, _, _, _, _, _, _, _, gx2_c, gx2_r⟩, gx2_1, gx2_2, gx2_3, gx2_4⟩
  have Ex2 : ExcC K gx2 := ⟨gx2_5, gx2_6, gx2_2, gx2_7, gx2_8, so, tk, gx2_9⟩
  have Fx2 := fun_mk (st := eS 2) lx2 cx2 kx2
  have Rx2 : Er K mg 2 gx2 fx2 _ := ⟨PySem.W.mg_of X G gx2a, Tx2, ⟨gx2_5, gx2_6, gx2_2, gx2_7⟩, Ex2, ax2, tx2, Fx2, Fx2.binds (ps := ["self", "word"]) fun _ _ _ _ _ _ us hl => match us, hl with | [_, _], _ => rfl, nx2⟩
  have Tx3 : OexC K gx3 := ⟨⟨_, _, _, _, _, _, _, _, _, _, _, _, _, _, _, gx3_c, gx3_r⟩, gx3_1, gx3_2, gx3_3, gx3_4⟩
  have Ex3 : ExcC K gx3 := ⟨gx3_5, gx3_6, gx3_2, gx3_7, gx3_8, so, tk, gx3_9⟩
  have Fx3 := fun_mk (st := eS 3) lx3 cx3 kx3
  have Rx3 : Er K mg 3 gx3 fx3 _ := ⟨PySem.W.mg_of X G gx3a, Tx3, ⟨gx3_5, gx3_6, gx3_2, gx3_7⟩, Ex3, ax3, tx3, Fx3, Fx3.binds (ps := ["self", "word"]) fun _ _ _ _ _ _ us hl => match us, hl with | [_, _], _ => rfl, nx3⟩
  have Tx4 : OexC K gx4 := ⟨⟨_, _, _, _, _, _, _, _, _, _, _, _, _, _, _, gx4_c, gx4_r⟩, gx4_1, gx4_2, gx4_3, gx4_4⟩
  have Ex4 : ExcC K gx4 := ⟨gx4_5, gx4_6, gx4_2, gx4_7, gx4_8, so, tk, gx4_9⟩
  have Fx4 := fun_mk (st := eS 4) lx4 cx4 kx4
  have Rx4 : Er K mg 4 gx4 fx4 _ := ⟨PySem.W.mg_of X G gx4a, Tx4, ⟨gx4_5, gx4_6, gx4_2, gx4_7⟩, Ex4, ax4, tx4, Fx4, Fx4.binds (ps := ["self", "at"]) fun _ _ _ _ _ _ us hl => match us, hl with | [_, _], _ => rfl, nx4⟩
  have Tx5 : OexC K gx5 := ⟨⟨_, _, _, _, _, _, _, _, _, _, _, _, _, _, _, gx5_c, gx5_r⟩, gx5_1, gx5_2, gx5_3, gx5_4⟩
  have Ex5 : ExcC K gx5 := ⟨gx5_5, gx5_6, gx5_2, gx5_7, gx5_8, so, tk, gx5_9⟩
  have Fx5 := fun_mk (st := eS 5) lx5 cx5 kx5
  have Rx5 : Er K mg 5 gx5 fx5 _ := ⟨PySem.W.mg_of X G gx5a, Tx5, ⟨gx5_5, gx5_6, gx5_2, gx5_7⟩, Ex5, ax5, tx5, Fx5, Fx5.binds (ps := ["self", "word"]) fun _ _ _ _ _ _ us hl => match us, hl with | [_, _], _ => rfl, nx5⟩
  have Tx6 : OexC K gx6 := ⟨⟨_, _, _, _, _, _, _, _, _, _, _, _, _, _, _, gx6_c, gx6_r⟩, gx6_1, gx6_2, gx6_3, gx6_4⟩
  have Ex6 : ExcC K gx6 := ⟨gx6_5, gx6_6, gx6_2, gx6_7, gx6_8, so, tk, gx6_9⟩
  have Fx6 := fun_mk (st := eS 6) lx6 cx6 kx6
  have Rx6 : Er K mg 6 gx6 fx6 _ := ⟨PySem.W.mg_of X G gx6a, Tx6, ⟨gx6_5, gx6_6, gx6_2, gx6_7⟩, Ex6, ax6, tx6, Fx6, Fx6.binds (ps := ["self", "name"]) fun _ _ _ _ _ _ us hl => match us, hl with | [_, _], _ => rfl, nx6⟩
  have Tx7 : OexC K gx7 := ⟨⟨_, _, _, _, _, _, _, _, _, _, _, _, _, _, _, gx7_c, gx7_r⟩, gx7_1, gx7_2, gx7_3, gx7_4⟩
  have Ex7 : ExcC K gx7 := ⟨gx7_5, gx7_6, gx7_2, gx7_7, gx7_8, so, tk, gx7_9⟩
  have Fx7 := fun_mk (st := eS 7) lx7 cx7 kx7
  have Rx7 : Er K mg 7 gx7 fx7 _ := ⟨PySem.W.mg_of X G gx7a, Tx7, ⟨gx7_5, gx7_6, gx7_2, gx7_7⟩, Ex7, ax7, tx7, Fx7, Fx7.binds (ps := ["self", "word"]) fun _ _ _ _ _ _ us hl => match us, hl with | [_, _], _ => rfl, nx7⟩
  have Tx8 : OexC K gx8 := ⟨⟨_, _, _, _, _, _, _, _, _, _, _, _, _, _, _, gx8_c, gx8_r⟩, gx8_1, gx8_2, gx8_3, gx8_4⟩
  have Ex8 : ExcC K gx8 := ⟨gx8_5, gx8_6, gx8_2, gx8_7, gx8_8, so, tk, gx8_9⟩
  have Fx8 := fun_mk (st := eS 8) lx8 cx8 kx8
  have Rx8 : Er K mg 8 gx8 fx8 _ := ⟨PySem.W.mg_of X G gx8a, Tx8, ⟨gx8_5, gx8_6, gx8_2, gx8_7⟩, Ex8, ax8, tx8, Fx8, Fx8.binds (ps := ["self", "name"]) fun _ _ _ _ _ _ us hl => match us, hl with | [_, _], _ => rfl, nx8⟩
  have Tx9 : OexC K gx9 := ⟨⟨_, _, _, _, _, _, _, _, _, _, _, _, _, _, _, gx9_c, gx9_r⟩, gx9_1, gx9_2, gx9_3, gx9_4⟩
  have Ex9 : ExcC K gx9 := ⟨gx9_5, gx9_6, gx9_2, gx9_7, gx9_8, so, tk, gx9_9⟩
  have Fx9 := fun_mk (st := eS 9) lx9 cx9 kx9
  have Rx9 : Er K mg 9 gx9 fx9 _ := ⟨PySem.W.mg_of X G gx9a, Tx9, ⟨gx9_5, gx9_6, gx9_2, gx9_7⟩, Ex9, ax9, tx9, Fx9, Fx9.binds (ps := ["self", "name"]) fun _ _ _ _ _ _ us hl => match us, hl with | [_, _], _ => rfl, nx9⟩
  have Tx10 : OexC K gx10 := ⟨⟨_, _, _, _, _, _, _, _, _, _, _, _, _, _, _, gx10_c, gx10_r⟩, gx10_1, gx10_2, gx10_3, gx10_4⟩
  have Ex10 : ExcC K gx10 := ⟨gx10_5, gx10_6, gx10_2, gx10_7, gx10_8, so, tk, gx10_9⟩
  have Fx10 := fun_mk (st := eS 10) lx10 cx10 kx10
  have Rx10 : Er K mg 10 gx10 fx10 _ := ⟨PySem.W.mg_of X G gx10a, Tx10, ⟨gx10_5, gx10_6, gx10_2, gx10_7⟩, Ex10, ax10, tx10, Fx10, Fx10.binds (ps := ["self", "at"]) fun _ _ _ _ _ _ us hl => match us, hl with | [_, _], _ => rfl, nx10⟩
  have Tx11 : OexC K gx11 := ⟨⟨_, _, _, _, _, _, _, _, _, _, _, _, _, _, _, gx11_c, gx11_r⟩, gx11_1, gx11_2, gx11_3, gx11_4⟩
  have Ex11 : ExcC K gx11 := ⟨gx11_5, gx11_6, gx11_2, gx11_7, gx11_8, so, tk, gx11_9⟩
  have Rx11 : Er0 K mg "Impossible" gx11 := ⟨PySem.W.mg_of X G gx11a, Tx11, Ex11, ax11⟩
  have Tx12 : OexC K gx12 := ⟨⟨_, _, _, _, _, _, _, _, _, _, _, _, _, _, _, gx12_c, gx12_r⟩, gx12_1, gx12_2, gx12_3, gx12_4⟩
  have Ex12 : ExcC K gx12 := ⟨gx12_5, gx12_6, gx12_2, gx12_7, gx12_8, so, tk, gx12_9⟩
  have Rx12 : Er0 K mg "WaysError" gx12 := ⟨PySem.W.mg_of X G gx12a, Tx12, Ex12, ax12⟩
  let C : Nat → Addr := fun i => match i with | 0 => gx0 | 1 => gx1 | 2 => gx2 | 3 => gx3 | 4 => gx4 | 5 => gx5 | 6 => gx6 | 7 => gx7 | 8 => gx8 | 9 => gx9 | 10 => gx10 | _ => gx11
  let cE : Nat → Addr := fun i => match i with | 0 => fx0 | 1 => fx1 | 2 => fx2 | 3 => fx3 | 4 => fx4 | 5 => fx5 | 6 => fx6 | 7 => fx7 | 8 => fx8 | 9 => fx9 | _ => fx10
  let cD : Nat → FuncData := fun i => match i with | 0 => PySem.W.fnOf "__init__" "InvalidStep.__init__" (defArgs (eS 0)) (defBody (eS 0)) (defScope (eS 0)) .none kVx0 dcx0 pmx0 anx0 cdx0 ctx0 | 1 => PySem.W.fnOf "__init__" "InvalidTrait.__init__" (defArgs (eS 1)) (defBody (eS 1)) (defScope (eS 1)) .none kVx1 dcx1 pmx1 anx1 cdx1 ctx1 | 2 => PySem.W.fnOf "__init__" "InvalidExpr.__init__" (defArgs (eS 2)) (defBody (eS 2)) (defScope (eS 2)) .none kVx2 dcx2 pmx2 anx2 cdx2 ctx2 | 3 => PySem.W.fnOf "__init__" "InvalidRow.__init__" (defArgs (eS 3)) (defBody (eS 3)) (defScope (eS 3)) .none kVx3 dcx3 pmx3 anx3 cdx3 ctx3 | 4 => PySem.W.fnOf "__init__" "InvalidText.__init__" (defArgs (eS 4)) (defBody (eS 4)) (defScope (eS 4)) .none kVx4 dcx4 pmx4 anx4 cdx4 ctx4 | 5 => PySem.W.fnOf "__init__" "InvalidWorld.__init__" (defArgs (eS 5)) (defBody (eS 5)) (defScope (eS 5)) .none kVx5 dcx5 pmx5 anx5 cdx5 ctx5 | 6 => PySem.W.fnOf "__init__" "InvalidStart.__init__" (defArgs (eS 6)) (defBody (eS 6)) (defScope (eS 6)) .none kVx6 dcx6 pmx6 anx6 cdx6 ctx6 | 7 => PySem.W.fnOf "__init__" "InvalidClaim.__init__" (defArgs (eS 7)) (defBody (eS 7)) (defScope (eS 7)) .none kVx7 dcx7 pmx7 anx7 cdx7 ctx7 | 8 => PySem.W.fnOf "__init__" "NoName.__init__" (defArgs (eS 8)) (defBody (eS 8)) (defScope (eS 8)) .none kVx8 dcx8 pmx8 anx8 cdx8 ctx8 | 9 => PySem.W.fnOf "__init__" "NoStep.__init__" (defArgs (eS 9)) (defBody (eS 9)) (defScope (eS 9)) .none kVx9 dcx9 pmx9 anx9 cdx9 ctx9 | _ => PySem.W.fnOf "__init__" "NoRow.__init__" (defArgs (eS 10)) (defBody (eS 10)) (defScope (eS 10)) .none kVx10 dcx10 pmx10 anx10 cdx10 ctx10
  have EE : Errs K mg C gx12 cE cD := ⟨rows11 (p := fun i => Er K mg i (C i) (cE i) (cD i)) Rx0 Rx1 Rx2 Rx3 Rx4 Rx5 Rx6 Rx7 Rx8 Rx9 Rx10, Rx11, Rx12,
    fun i j hi hj => rows12 (p := fun i => ∀ j, j < 12 → PySem.W.kitOne K (.ref (C i)) (.ref (C j)) = some (decide (i = j))) (rows12 (p := fun j => PySem.W.kitOne K (.ref (C 0)) (.ref (C j)) = some (decide (0 = j))) y0_0 y0_1 y0_2 y0_3 y0_4 y0_5 y0_6 y0_7 y0_8 y0_9 y0_10 y0_11) (rows12 (p := fun j => PySem.W.kitOne K (.ref (C 1)) (.ref (C j)) = some (decide (1 = j))) y1_0 y1_1 y1_2 y1_3 y1_4 y1_5 y1_6 y1_7 y1_8 y1_9 y1_10 y1_11) (rows12 (p := fun j => PySem.W.kitOne K (.ref (C 2)) (.ref (C j)) = some (decide (2 = j))) y2_0 y2_1 y2_2 y2_3 y2_4 y2_5 y2_6 y2_7 y2_8 y2_9 y2_10 y2_11) (rows12 (p := fun j => PySem.W.kitOne K (.ref (C 3)) (.ref (C j)) = some (decide (3 = j))) y3_0 y3_1 y3_2 y3_3 y3_4 y3_5 y3_6 y3_7 y3_8 y3_9 y3_10 y3_11) (rows12 (p := fun j => PySem.W.kitOne K (.ref (C 4)) (.ref (C j)) = some (decide (4 = j))) y4_0 y4_1 y4_2 y4_3 y4_4 y4_5 y4_6 y4_7 y4_8 y4_9 y4_10 y4_11) (rows12 (p := fun j => PySem.W.kitOne K (.ref (C 5)) (.ref (C j)) = some (decide (5 = j))) y5_0 y5_1 y5_2 y5_3 y5_4 y5_5 y5_6 y5_7 y5_8 y5_9 y5_10 y5_11) (rows12 (p := fun j => PySem.W.kitOne K (.ref (C 6)) (.ref (C j)) = some (decide (6 = j))) y6_0 y6_1 y6_2 y6_3 y6_4 y6_5 y6_6 y6_7 y6_8 y6_9 y6_10 y6_11) (rows12 (p := fun j => PySem.W.kitOne K (.ref (C 7)) (.ref (C j)) = some (decide (7 = j))) y7_0 y7_1 y7_2 y7_3 y7_4 y7_5 y7_6 y7_7 y7_8 y7_9 y7_10 y7_11) (rows12 (p := fun j => PySem.W.kitOne K (.ref (C 8)) (.ref (C j)) = some (decide (8 = j))) y8_0 y8_1 y8_2 y8_3 y8_4 y8_5 y8_6 y8_7 y8_8 y8_9 y8_10 y8_11) (rows12 (p := fun j => PySem.W.kitOne K (.ref (C 9)) (.ref (C j)) = some (decide (9 = j))) y9_0 y9_1 y9_2 y9_3 y9_4 y9_5 y9_6 y9_7 y9_8 y9_9 y9_10 y9_11) (rows12 (p := fun j => PySem.W.kitOne K (.ref (C 10)) (.ref (C j)) = some (decide (10 = j))) y10_0 y10_1 y10_2 y10_3 y10_4 y10_5 y10_6 y10_7 y10_8 y10_9 y10_10 y10_11) (rows12 (p := fun j => PySem.W.kitOne K (.ref (C 11)) (.ref (C j)) = some (decide (11 = j))) y11_0 y11_1 y11_2 y11_3 y11_4 y11_5 y11_6 y11_7 y11_8 y11_9 y11_10 y11_11) i hi j hj,
    rows12 (p := fun j => PySem.W.kitOne K (.ref gx12) (.ref (C j)) = some false) yb0 yb1 yb2 yb3 yb4 yb5 yb6 yb7 yb8 yb9 yb10 yb11,
    rows12 (p := fun i => PySem.W.kitOne K (.ref (C i)) (.type "ValueError") = some true) yv0 yv1 yv2 yv3 yv4 yv5 yv6 yv7 yv8 yv9 yv10 yv11,
    rows12 (p := fun i => PySem.W.kitOne K (.ref (C i)) (.ref gx12) = some true) yw0 yw1 yw2 yw3 yw4 yw5 yw6 yw7 yw8 yw9 yw10 yw11, yvb⟩
  exact ⟨PySem.W.fnOf "law" "law" (defArgs sLaw) (defBody sLaw) (defScope sLaw) .none kVlaw dclaw pmlaw anlaw cdlaw ctlaw, fun s v => .of_eq rfl, fun base _ _ => by
    have e4 := EE.er 4 (by decide)
    have GW := ok_word (P := l.prog) (w := w) (base := base) S Flaw_word Dlaw_draw Dlaw_pick
    have GWS := ok_words (P := l.prog) (w := w) (base := base) S Flaw_words Dlaw_word GW
    have GTE := ok_term (P := l.prog) (w := w) (base := base) S Dlaw_term Dlaw_draw Dlaw_pick 3
    have GTR := ok_tree (P := l.prog) (w := w) (base := base) S Dlaw_tree Dlaw_draw Dlaw_term GTE 6
    have GS := ok_same (P := l.prog) (w := w) (base := base) S Dlaw_same 36
    have GSH := ok_show (P := l.prog) (w := w) (base := base) CC Fshow_tree Dlines_of
    have GSI := ok_sidesX (P := l.prog) (w := w) (base := base) S e4 Dsides_in Dmay_be_term
    have GTA := ok_treeX (P := l.prog) (w := w) (base := base) S CC e4 Dtree_at Dsides_in GSI 32
    have GRD := ok_readX (P := l.prog) (w := w) (base := base) S e4 Fread_tree Dtree_at GTA
    have GB := ok_branch (P := l.prog) (w := w) (base := base) S Dlaw_branch Dlaw_is_side 32
    have GU := ok_due (P := l.prog) (w := w) (base := base) S Dlaw_due Dlaw_branch GB
    have GO := ok_told (P := l.prog) (w := w) (base := base) S EE xm Dlaw_refused Dread_tree GRD Flaw_told
    have GC := ok_changed (P := l.prog) (w := w) (base := base) S Flaw_changed Dlaw_draw Dlaw_pick Dlaw_sign Dlaw_bent
    exact ok_law S Flaw Dlaw_feed Dlaw_draw Dlaw_words GWS Dlaw_tree GTR Dlaw_same GS Dshow_tree GSH Dlaw_changed GC Dlaw_due GU Dlaw_told GO⟩
theorem walk {l : PySem.W.OpenLaw} {q : Program} {loose : List Str} {XP : (Str → Option Value) → Heap → Prop} {YP : World → Heap → Prop} {d : DefRec} {K : Params → PySem.W.Frag} (hn : l.most = some 63) (hdf : d.params.defaults = [])
    (hY : ∀ (w : World) (h : Heap), YP w h → (K w.params).In h)
    (F : ∀ (w : World) (mg : Str → Option Value) (fa : Addr) (h : Heap), (K w.params).In h → h.Ns mainGlobals mg → mg d.name = some (.ref fa) →
      ∃ fd : FuncData, (∀ (s : Shared) (u : Value), BindsTo s fd ⟨[u], []⟩ [("_law_script", u)]) ∧ ∀ base : Heap, (K w.params).In base → base.Ns mainGlobals mg → FnOk l.prog w (K w.params) mg base CX0 39 fa fd ["_law_script"] (spLaw (K w.params))) :
    PySem.W.WalkO q loose XP YP l.row.toRowW d [] (fun f vs => PySem.call f vs) :=
  L2.walk_of (n := 63) (k := 39) (x := "_law_script") (CX := fun _ => CX0) (sp := fun w => spLaw (K w.params)) hn (by decide) hdf ⟨rfl, by decide, by decide⟩ hY F (fun _ _ a ns hl _ hS => ⟨a, ns, rfl, hS, hl, fun _ => rfl⟩) fun _ _ _ _ _ z => z
end LK

open PySem PySem.W PyProof.Rows
set_option maxHeartbeats 0
open_top head for PySem.Challenge.rw_knownways_k12_texts_of_no_tree
set_option maxRecDepth 100000 in
set_option maxHeartbeats 0 in
theorem PySem.Challenge.cw_knownways_k12_texts_of_no_tree_holds : PySem.Challenge.rw_knownways_k12_texts_of_no_tree.Holds := by
  refine head ?_
  k_fill
  refine LK.walk (l := PySem.Challenge.rw_knownways_k12_texts_of_no_tree) rfl rfl (fun w h Y => PySem.W.kIn_of Y) ?F
  case F =>
    intro w mg fa h KX G hmg
    refine' LK.all_mk KX G hmg ?b_len ?b_abs ?b_int ?b_range ?b_isinstance ?b_tuple ?b_list ?b_all ?b_zip ?b_bool ?b_str ?b_enumerate ?b_min ?b_ve ?alaw_feed ?llaw_feed ?claw_feed ?klaw_feed ?alaw_draw ?llaw_draw ?claw_draw ?klaw_draw ?alaw_pick ?llaw_pick ?claw_pick ?klaw_pick ?alaw_same ?llaw_same ?claw_same ?klaw_same ?alaw_word ?llaw_word ?claw_word ?klaw_word ?alaw_words ?llaw_words ?claw_words ?klaw_words ?alaw_sign ?llaw_sign ?claw_sign ?klaw_sign ?alaw_bent ?llaw_bent ?claw_bent ?klaw_bent ?alaw_refused ?llaw_refused ?claw_refused ?klaw_refused ?alaw_term ?llaw_term ?claw_term ?klaw_term ?alaw_tree ?llaw_tree ?claw_tree ?klaw_tree ?alaw_is_side ?llaw_is_side ?claw_is_side ?klaw_is_side ?alaw_branch ?llaw_branch ?claw_branch ?klaw_branch ?alaw_due ?llaw_due ?claw_due ?klaw_due ?alaw_told ?llaw_told ?claw_told ?klaw_told ?alaw_changed ?llaw_changed ?claw_changed ?klaw_changed ?alaw ?llaw ?claw ?klaw ?ashow_tree ?lshow_tree ?cshow_tree ?kshow_tree ?aread_tree ?lread_tree ?cread_tree ?kread_tree ?alines_of ?llines_of ?clines_of ?klines_of ?atree_at ?ltree_at ?ctree_at ?ktree_at ?asides_in ?lsides_in ?csides_in ?ksides_in ?amay_be_term ?lmay_be_term ?cmay_be_term ?kmay_be_term ?kLEAF ?kINDENT ?so ?tk ?gx0a ?gx0_c ?gx0_r ?gx0_1 ?gx0_2 ?gx0_3 ?gx0_4 ?gx0_5 ?gx0_6 ?gx0_7 ?gx0_8 ?gx0_9 ?ax0 ?tx0 ?lx0 ?cx0 ?kx0 ?nx0 ?gx1a ?gx1_c ?gx1_r ?gx1_1 ?gx1_2 ?gx1_3 ?gx1_4 ?gx1_5 ?gx1_6 ?gx1_7 ?gx1_8 ?gx1_9 ?ax1 ?tx1 ?lx1 ?cx1 ?kx1 ?nx1 ?gx2a ?gx2_c ?gx2_r ?gx2_1 ?gx2_2 ?gx2_3 ?gx2_4 ?gx2_5 ?gx2_6 ?gx2_7 ?gx2_8 ?gx2_9 ?ax2 ?tx2 ?lx2 ?cx2 ?kx2 ?nx2 ?gx3a ?gx3_c ?gx3_r ?gx3_1 ?gx3_2 ?gx3_3 ?gx3_4 ?gx3_5 ?gx3_6 ?gx3_7 ?gx3_8 ?gx3_9 ?ax3 ?tx3 ?lx3 ?cx3 ?kx3 ?nx3 ?gx4a ?gx4_c ?gx4_r ?gx4_1 ?gx4_2 ?gx4_3 ?gx4_4 ?gx4_5 ?gx4_6 ?gx4_7 ?gx4_8 ?gx4_9 ?ax4 ?tx4 ?lx4 ?cx4 ?kx4 ?nx4 ?gx5a ?gx5_c ?gx5_r ?gx5_1 ?gx5_2 ?gx5_3 ?gx5_4 ?gx5_5 ?gx5_6 ?gx5_7 ?gx5_8 ?gx5_9 ?ax5 ?tx5 ?lx5 ?cx5 ?kx5 ?nx5 ?gx6a ?gx6_c ?gx6_r ?gx6_1 ?gx6_2 ?gx6_3 ?gx6_4 ?gx6_5 ?gx6_6 ?gx6_7 ?gx6_8 ?gx6_9 ?ax6 ?tx6 ?lx6 ?cx6 ?kx6 ?nx6 ?gx7a ?gx7_c ?gx7_r ?gx7_1 ?gx7_2 ?gx7_3 ?gx7_4 ?gx7_5 ?gx7_6 ?gx7_7 ?gx7_8 ?gx7_9 ?ax7 ?tx7 ?lx7 ?cx7 ?kx7 ?nx7 ?gx8a ?gx8_c ?gx8_r ?gx8_1 ?gx8_2 ?gx8_3 ?gx8_4 ?gx8_5 ?gx8_6 ?gx8_7 ?gx8_8 ?gx8_9 ?ax8 ?tx8 ?lx8 ?cx8 ?kx8 ?nx8 ?gx9a ?gx9_c ?gx9_r ?gx9_1 ?gx9_2 ?gx9_3 ?gx9_4 ?gx9_5 ?gx9_6 ?gx9_7 ?gx9_8 ?gx9_9 ?ax9 ?tx9 ?lx9 ?cx9 ?kx9 ?nx9 ?gx10a ?gx10_c ?gx10_r ?gx10_1 ?gx10_2 ?gx10_3 ?gx10_4 ?gx10_5 ?gx10_6 ?gx10_7 ?gx10_8 ?gx10_9 ?ax10 ?tx10 ?lx10 ?cx10 ?kx10 ?nx10 ?gx11a ?gx11_c ?gx11_r ?gx11_1 ?gx11_2 ?gx11_3 ?gx11_4 ?gx11_5 ?gx11_6 ?gx11_7 ?gx11_8 ?gx11_9 ?ax11 ?gx12a ?gx12_c ?gx12_r ?gx12_1 ?gx12_2 ?gx12_3 ?gx12_4 ?gx12_5 ?gx12_6 ?gx12_7 ?gx12_8 ?gx12_9 ?ax12 ?y0_0 ?y0_1 ?y0_2 ?y0_3 ?y0_4 ?y0_5 ?y0_6 ?y0_7 ?y0_8 ?y0_9 ?y0_10 ?y0_11 ?yb0 ?yv0 ?yw0 ?y1_0 ?y1_1 ?y1_2 ?y1_3 ?y1_4 ?y1_5 ?y1_6 ?y1_7 ?y1_8 ?y1_9 ?y1_10 ?y1_11 ?yb1 ?yv1 ?yw1 ?y2_0 ?y2_1 ?y2_2 ?y2_3 ?y2_4 ?y2_5 ?y2_6 ?y2_7 ?y2_8 ?y2_9 ?y2_10 ?y2_11 ?yb2 ?yv2 ?yw2 ?y3_0 ?y3_1 ?y3_2 ?y3_3 ?y3_4 ?y3_5 ?y3_6 ?y3_7 ?y3_8 ?y3_9 ?y3_10 ?y3_11 ?yb3 ?yv3 ?yw3 ?y4_0 ?y4_1 ?y4_2 ?y4_3 ?y4_4 ?y4_5 ?y4_6 ?y4_7 ?y4_8 ?y4_9 ?y4_10 ?y4_11 ?yb4 ?yv4 ?yw4 ?y5_0 ?y5_1 ?y5_2 ?y5_3 ?y5_4 ?y5_5 ?y5_6 ?y5_7 ?y5_8 ?y5_9 ?y5_10 ?y5_11 ?yb5 ?yv5 ?yw5 ?y6_0 ?y6_1 ?y6_2 ?y6_3 ?y6_4 ?y6_5 ?y6_6 ?y6_7 ?y6_8 ?y6_9 ?y6_10 ?y6_11 ?yb6 ?yv6 ?yw6 ?y7_0 ?y7_1 ?y7_2 ?y7_3 ?y7_4 ?y7_5 ?y7_6 ?y7_7 ?y7_8 ?y7_9 ?y7_10 ?y7_11 ?yb7 ?yv7 ?yw7 ?y8_0 ?y8_1 ?y8_2 ?y8_3 ?y8_4 ?y8_5 ?y8_6 ?y8_7 ?y8_8 ?y8_9 ?y8_10 ?y8_11 ?yb8 ?yv8 ?yw8 ?y9_0 ?y9_1 ?y9_2 ?y9_3 ?y9_4 ?y9_5 ?y9_6 ?y9_7 ?y9_8 ?y9_9 ?y9_10 ?y9_11 ?yb9 ?yv9 ?yw9 ?y10_0 ?y10_1 ?y10_2 ?y10_3 ?y10_4 ?y10_5 ?y10_6 ?y10_7 ?y10_8 ?y10_9 ?y10_10 ?y10_11 ?yb10 ?yv10 ?yw10 ?y11_0 ?y11_1 ?y11_2 ?y11_3 ?y11_4 ?y11_5 ?y11_6 ?y11_7 ?y11_8 ?y11_9 ?y11_10 ?y11_11 ?yb11 ?yv11 ?yw11 ?xm ?yvb
    (case b_len => k_is)
    (case b_abs => k_is)
    (case b_int => k_is)
    (case b_range => k_is)
    (case b_isinstance => k_is)
    (case b_tuple => k_is)
    (case b_list => k_is)
    (case b_all => k_is)
    (case b_zip => k_is)
    (case b_bool => k_is)
    (case b_str => k_is)
    (case b_enumerate => k_is)
    (case b_min => k_is)
    (case b_ve => k_is)
    (case alaw_feed => k_is)
    (case llaw_feed => k_is)
    (case claw_feed => k_is)
    (case klaw_feed => k_is)
    (case alaw_draw => k_is)
    (case llaw_draw => k_is)
    (case claw_draw => k_is)
    (case klaw_draw => k_is)
    (case alaw_pick => k_is)
    (case llaw_pick => k_is)
    (case claw_pick => k_is)
    (case klaw_pick => k_is)
    (case alaw_same => k_is)
    (case llaw_same => k_is)
    (case claw_same => k_is)
    (case klaw_same => k_is)
    (case alaw_word => k_is)
    (case llaw_word => k_is)
    (case claw_word => k_is)
    (case klaw_word => k_is)
    (case alaw_words => k_is)
    (case llaw_words => k_is)
    (case claw_words => k_is)
    (case klaw_words => k_is)
    (case alaw_sign => k_is)
    (case llaw_sign => k_is)
    (case claw_sign => k_is)
    (case klaw_sign => k_is)
    (case alaw_bent => k_is)
    (case llaw_bent => k_is)
    (case claw_bent => k_is)
    (case klaw_bent => k_is)
    (case alaw_refused => k_is)
    (case llaw_refused => k_is)
    (case claw_refused => k_is)
    (case klaw_refused => k_is)
    (case alaw_term => k_is)
    (case llaw_term => k_is)
    (case claw_term => k_is)
    (case klaw_term => k_is)
    (case alaw_tree => k_is)
    (case llaw_tree => k_is)
    (case claw_tree => k_is)
    (case klaw_tree => k_is)
    (case alaw_is_side => k_is)
    (case llaw_is_side => k_is)
    (case claw_is_side => k_is)
    (case klaw_is_side => k_is)
    (case alaw_branch => k_is)
    (case llaw_branch => k_is)
    (case claw_branch => k_is)
    (case klaw_branch => k_is)
    (case alaw_due => k_is)
    (case llaw_due => k_is)
    (case claw_due => k_is)
    (case klaw_due => k_is)
    (case alaw_told => k_is)
    (case llaw_told => k_is)
    (case claw_told => k_is)
    (case klaw_told => k_is)
    (case alaw_changed => k_is)
    (case llaw_changed => k_is)
    (case claw_changed => k_is)
    (case klaw_changed => k_is)
    (case alaw => k_is)
    (case llaw => k_is)
    (case claw => k_is)
    (case klaw => k_is)
    (case ashow_tree => k_is)
    (case lshow_tree => k_is)
    (case cshow_tree => k_is)
    (case kshow_tree => k_is)
    (case aread_tree => k_is)
    (case lread_tree => k_is)
    (case cread_tree => k_is)
    (case kread_tree => k_is)
    (case alines_of => k_is)
    (case llines_of => k_is)
    (case clines_of => k_is)
    (case klines_of => k_is)
    (case atree_at => k_is)
    (case ltree_at => k_is)
    (case ctree_at => k_is)
    (case ktree_at => k_is)
    (case asides_in => k_is)
    (case lsides_in => k_is)
    (case csides_in => k_is)
    (case ksides_in => k_is)
    (case amay_be_term => k_is)
    (case lmay_be_term => k_is)
    (case cmay_be_term => k_is)
    (case kmay_be_term => k_is)
    (case kLEAF => k_is)
    (case kINDENT => k_is)
    (case so => k_is)
    (case tk => k_is)
    (case gx0a => k_is)
    (case gx0_c => k_is)
    (case gx0_r => decide +kernel)
    (case gx0_1 => k_is)
    (case gx0_2 => k_is)
    (case gx0_3 => k_is)
    (case gx0_4 => k_is)
    (case gx0_5 => k_is)
    (case gx0_6 => k_is)
    (case gx0_7 => k_is)
    (case gx0_8 => k_is)
    (case gx0_9 => k_is)
    (case ax0 => k_is)
    (case tx0 => k_is)
    (case lx0 => k_is)
    (case cx0 => k_is)
    (case kx0 => k_is)
    (case nx0 => k_is)
    (case gx1a => k_is)
    (case gx1_c => k_is)
    (case gx1_r => decide +kernel)
    (case gx1_1 => k_is)
    (case gx1_2 => k_is)
    (case gx1_3 => k_is)
    (case gx1_4 => k_is)
    (case gx1_5 => k_is)
    (case gx1_6 => k_is)
    (case gx1_7 => k_is)
    (case gx1_8 => k_is)
    (case gx1_9 => k_is)
    (case ax1 => k_is)
    (case tx1 => k_is)
    (case lx1 => k_is)
    (case cx1 => k_is)
    (case kx1 => k_is)
    (case nx1 => k_is)
    (case gx2a => k_is)
    (case gx2_c => k_is)
    (case gx2_r => decide +kernel)
    (case gx2_1 => k_is)
    (case gx2_2 => k_is)
    (case gx2_3 => k_is)
    (case gx2_4 => k_is)
    (case gx2_5 => k_is)
    (case gx2_6 => k_is)
    (case gx2_7 => k_is)
    (case gx2_8 => k_is)
    (case gx2_9 => k_is)
    (case ax2 => k_is)
    (case tx2 => k_is)
    (case lx2 => k_is)
    (case cx2 => k_is)
    (case kx2 => k_is)
    (case nx2 => k_is)
    (case gx3a => k_is)
    (case gx3_c => k_is)
    (case gx3_r => decide +kernel)
    (case gx3_1 => k_is)
    (case gx3_2 => k_is)
    (case gx3_3 => k_is)
    (case gx3_4 => k_is)
    (case gx3_5 => k_is)
    (case gx3_6 => k_is)
    (case gx3_7 => k_is)
    (case gx3_8 => k_is)
    (case gx3_9 => k_is)
    (case ax3 => k_is)
    (case tx3 => k_is)
    (case lx3 => k_is)
    (case cx3 => k_is)
    (case kx3 => k_is)
    (case nx3 => k_is)
    (case gx4a => k_is)
    (case gx4_c => k_is)
    (case gx4_r => decide +kernel)
    (case gx4_1 => k_is)
    (case gx4_2 => k_is)
    (case gx4_3 => k_is)
    (case gx4_4 => k_is)
    (case gx4_5 => k_is)
    (case gx4_6 => k_is)
    (case gx4_7 => k_is)
    (case gx4_8 => k_is)
    (case gx4_9 => k_is)
    (case ax4 => k_is)
    (case tx4 => k_is)
    (case lx4 => k_is)
    (case cx4 => k_is)
    (case kx4 => k_is)
    (case nx4 => k_is)
    (case gx5a => k_is)
    (case gx5_c => k_is)
    (case gx5_r => decide +kernel)
    (case gx5_1 => k_is)
    (case gx5_2 => k_is)
    (case gx5_3 => k_is)
    (case gx5_4 => k_is)
    (case gx5_5 => k_is)
    (case gx5_6 => k_is)
    (case gx5_7 => k_is)
    (case gx5_8 => k_is)
    (case gx5_9 => k_is)
    (case ax5 => k_is)
    (case tx5 => k_is)
    (case lx5 => k_is)
    (case cx5 => k_is)
    (case kx5 => k_is)
    (case nx5 => k_is)
    (case gx6a => k_is)
    (case gx6_c => k_is)
    (case gx6_r => decide +kernel)
    (case gx6_1 => k_is)
    (case gx6_2 => k_is)
    (case gx6_3 => k_is)
    (case gx6_4 => k_is)
    (case gx6_5 => k_is)
    (case gx6_6 => k_is)
    (case gx6_7 => k_is)
    (case gx6_8 => k_is)
    (case gx6_9 => k_is)
    (case ax6 => k_is)
    (case tx6 => k_is)
    (case lx6 => k_is)
    (case cx6 => k_is)
    (case kx6 => k_is)
    (case nx6 => k_is)
    (case gx7a => k_is)
    (case gx7_c => k_is)
    (case gx7_r => decide +kernel)
    (case gx7_1 => k_is)
    (case gx7_2 => k_is)
    (case gx7_3 => k_is)
    (case gx7_4 => k_is)
    (case gx7_5 => k_is)
    (case gx7_6 => k_is)
    (case gx7_7 => k_is)
    (case gx7_8 => k_is)
    (case gx7_9 => k_is)
    (case ax7 => k_is)
    (case tx7 => k_is)
    (case lx7 => k_is)
    (case cx7 => k_is)
    (case kx7 => k_is)
    (case nx7 => k_is)
    (case gx8a => k_is)
    (case gx8_c => k_is)
    (case gx8_r => decide +kernel)
    (case gx8_1 => k_is)
    (case gx8_2 => k_is)
    (case gx8_3 => k_is)
    (case gx8_4 => k_is)
    (case gx8_5 => k_is)
    (case gx8_6 => k_is)
    (case gx8_7 => k_is)
    (case gx8_8 => k_is)
    (case gx8_9 => k_is)
    (case ax8 => k_is)
    (case tx8 => k_is)
    (case lx8 => k_is)
    (case cx8 => k_is)
    (case kx8 => k_is)
    (case nx8 => k_is)
    (case gx9a => k_is)
    (case gx9_c => k_is)
    (case gx9_r => decide +kernel)
    (case gx9_1 => k_is)
    (case gx9_2 => k_is)
    (case gx9_3 => k_is)
    (case gx9_4 => k_is)
    (case gx9_5 => k_is)
    (case gx9_6 => k_is)
    (case gx9_7 => k_is)
    (case gx9_8 => k_is)
    (case gx9_9 => k_is)
    (case ax9 => k_is)
    (case tx9 => k_is)
    (case lx9 => k_is)
    (case cx9 => k_is)
    (case kx9 => k_is)
    (case nx9 => k_is)
    (case gx10a => k_is)
    (case gx10_c => k_is)
    (case gx10_r => decide +kernel)
    (case gx10_1 => k_is)
    (case gx10_2 => k_is)
    (case gx10_3 => k_is)
    (case gx10_4 => k_is)
    (case gx10_5 => k_is)
    (case gx10_6 => k_is)
    (case gx10_7 => k_is)
    (case gx10_8 => k_is)
    (case gx10_9 => k_is)
    (case ax10 => k_is)
    (case tx10 => k_is)
    (case lx10 => k_is)
    (case cx10 => k_is)
    (case kx10 => k_is)
    (case nx10 => k_is)
    (case gx11a => k_is)
    (case gx11_c => k_is)
    (case gx11_r => decide +kernel)
    (case gx11_1 => k_is)
    (case gx11_2 => k_is)
    (case gx11_3 => k_is)
    (case gx11_4 => k_is)
    (case gx11_5 => k_is)
    (case gx11_6 => k_is)
    (case gx11_7 => k_is)
    (case gx11_8 => k_is)
    (case gx11_9 => k_is)
    (case ax11 => k_is)
    (case gx12a => k_is)
    (case gx12_c => k_is)
    (case gx12_r => decide +kernel)
    (case gx12_1 => k_is)
    (case gx12_2 => k_is)
    (case gx12_3 => k_is)
    (case gx12_4 => k_is)
    (case gx12_5 => k_is)
    (case gx12_6 => k_is)
    (case gx12_7 => k_is)
    (case gx12_8 => k_is)
    (case gx12_9 => k_is)
    (case ax12 => k_is)
    (case y0_0 => kit_is)
    (case y0_1 => kit_is)
    (case y0_2 => kit_is)
    (case y0_3 => kit_is)
    (case y0_4 => kit_is)
    (case y0_5 => kit_is)
    (case y0_6 => kit_is)
    (case y0_7 => kit_is)
    (case y0_8 => kit_is)
    (case y0_9 => kit_is)
    (case y0_10 => kit_is)
    (case y0_11 => kit_is)
    (case yb0 => kit_is)
    (case yv0 => kit_is)
    (case yw0 => kit_is)
    (case y1_0 => kit_is)
    (case y1_1 => kit_is)
    (case y1_2 => kit_is)
    (case y1_3 => kit_is)
    (case y1_4 => kit_is)
    (case y1_5 => kit_is)
    (case y1_6 => kit_is)
    (case y1_7 => kit_is)
    (case y1_8 => kit_is)
    (case y1_9 => kit_is)
    (case y1_10 => kit_is)
    (case y1_11 => kit_is)
    (case yb1 => kit_is)
    (case yv1 => kit_is)
    (case yw1 => kit_is)
    (case y2_0 => kit_is)
    (case y2_1 => kit_is)
    (case y2_2 => kit_is)
    (case y2_3 => kit_is)
    (case y2_4 => kit_is)
    (case y2_5 => kit_is)
    (case y2_6 => kit_is)
    (case y2_7 => kit_is)
    (case y2_8 => kit_is)
    (case y2_9 => kit_is)
    (case y2_10 => kit_is)
    (case y2_11 => kit_is)
    (case yb2 => kit_is)
    (case yv2 => kit_is)
    (case yw2 => kit_is)
    (case y3_0 => kit_is)
    (case y3_1 => kit_is)
    (case y3_2 => kit_is)
    (case y3_3 => kit_is)
    (case y3_4 => kit_is)
    (case y3_5 => kit_is)
    (case y3_6 => kit_is)
    (case y3_7 => kit_is)
    (case y3_8 => kit_is)
    (case y3_9 => kit_is)
    (case y3_10 => kit_is)
    (case y3_11 => kit_is)
    (case yb3 => kit_is)
    (case yv3 => kit_is)
    (case yw3 => kit_is)
    (case y4_0 => kit_is)
    (case y4_1 => kit_is)
    (case y4_2 => kit_is)
    (case y4_3 => kit_is)
    (case y4_4 => kit_is)
    (case y4_5 => kit_is)
    (case y4_6 => kit_is)
    (case y4_7 => kit_is)
    (case y4_8 => kit_is)
    (case y4_9 => kit_is)
    (case y4_10 => kit_is)
    (case y4_11 => kit_is)
    (case yb4 => kit_is)
    (case yv4 => kit_is)
    (case yw4 => kit_is)
    (case y5_0 => kit_is)
    (case y5_1 => kit_is)
    (case y5_2 => kit_is)
    (case y5_3 => kit_is)
    (case y5_4 => kit_is)
    (case y5_5 => kit_is)
    (case y5_6 => kit_is)
    (case y5_7 => kit_is)
    (case y5_8 => kit_is)
    (case y5_9 => kit_is)
    (case y5_10 => kit_is)
    (case y5_11 => kit_is)
    (case yb5 => kit_is)
    (case yv5 => kit_is)
    (case yw5 => kit_is)
    (case y6_0 => kit_is)
    (case y6_1 => kit_is)
    (case y6_2 => kit_is)
    (case y6_3 => kit_is)
    (case y6_4 => kit_is)
    (case y6_5 => kit_is)
    (case y6_6 => kit_is)
    (case y6_7 => kit_is)
    (case y6_8 => kit_is)
    (case y6_9 => kit_is)
    (case y6_10 => kit_is)
    (case y6_11 => kit_is)
    (case yb6 => kit_is)
    (case yv6 => kit_is)
    (case yw6 => kit_is)
    (case y7_0 => kit_is)
    (case y7_1 => kit_is)
    (case y7_2 => kit_is)
    (case y7_3 => kit_is)
    (case y7_4 => kit_is)
    (case y7_5 => kit_is)
    (case y7_6 => kit_is)
    (case y7_7 => kit_is)
    (case y7_8 => kit_is)
    (case y7_9 => kit_is)
    (case y7_10 => kit_is)
    (case y7_11 => kit_is)
    (case yb7 => kit_is)
    (case yv7 => kit_is)
    (case yw7 => kit_is)
    (case y8_0 => kit_is)
    (case y8_1 => kit_is)
    (case y8_2 => kit_is)
    (case y8_3 => kit_is)
    (case y8_4 => kit_is)
    (case y8_5 => kit_is)
    (case y8_6 => kit_is)
    (case y8_7 => kit_is)
    (case y8_8 => kit_is)
    (case y8_9 => kit_is)
    (case y8_10 => kit_is)
    (case y8_11 => kit_is)
    (case yb8 => kit_is)
    (case yv8 => kit_is)
    (case yw8 => kit_is)
    (case y9_0 => kit_is)
    (case y9_1 => kit_is)
    (case y9_2 => kit_is)
    (case y9_3 => kit_is)
    (case y9_4 => kit_is)
    (case y9_5 => kit_is)
    (case y9_6 => kit_is)
    (case y9_7 => kit_is)
    (case y9_8 => kit_is)
    (case y9_9 => kit_is)
    (case y9_10 => kit_is)
    (case y9_11 => kit_is)
    (case yb9 => kit_is)
    (case yv9 => kit_is)
    (case yw9 => kit_is)
    (case y10_0 => kit_is)
    (case y10_1 => kit_is)
    (case y10_2 => kit_is)
    (case y10_3 => kit_is)
    (case y10_4 => kit_is)
    (case y10_5 => kit_is)
    (case y10_6 => kit_is)
    (case y10_7 => kit_is)
    (case y10_8 => kit_is)
    (case y10_9 => kit_is)
    (case y10_10 => kit_is)
    (case y10_11 => kit_is)
    (case yb10 => kit_is)
    (case yv10 => kit_is)
    (case yw10 => kit_is)
    (case y11_0 => kit_is)
    (case y11_1 => kit_is)
    (case y11_2 => kit_is)
    (case y11_3 => kit_is)
    (case y11_4 => kit_is)
    (case y11_5 => kit_is)
    (case y11_6 => kit_is)
    (case y11_7 => kit_is)
    (case y11_8 => kit_is)
    (case y11_9 => kit_is)
    (case y11_10 => kit_is)
    (case y11_11 => kit_is)
    (case yb11 => kit_is)
    (case yv11 => kit_is)
    (case yw11 => kit_is)
    (case xm => kts_exm)
    (case yvb => kit_is)
