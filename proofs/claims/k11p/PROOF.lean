import PyProof.Rows.All
import Wide.All
import OpenK.AllK
import Wide.FinOn
import HandS.Base
import HandS.Call
import HandS.List
import HandS.Comp
import HandS.Ends
import HandS.Dict
import HandS.Iter
import HandS.Text
import HandS.Words
import HandS.WordsList
import HandS.Conv
import HandS.More
import HandS.ForMost
import HandS.Zip
import HandS.IsInst
import HandS.TupAny
import HandS.FStr
import HandS.StrMore
import HandS.Star
import HandS.TryOnly
import HandS.Codes
import KE.RegKIsAll
import KE.RegKTryMore
import PySem.Challenge.RW_knownways_k11_trees_as_texts
set_option Elab.async false
set_option linter.all false
set_option maxRecDepth 100000
set_option maxHeartbeats 4000000
namespace LK
open PySem PySem.Spec PyProof.Rows L2
def top (i : Nat) : Stmt := PySem.Challenge.pw_knownways_k11_trees_as_texts.main.body.getD i (.Pass ⟨0, 0, 0, 0⟩)
abbrev sFeed : Stmt := top 13
abbrev sDraw : Stmt := top 14
abbrev sPick : Stmt := top 15
abbrev sSame : Stmt := top 16
abbrev sWord : Stmt := top 17
abbrev sWords : Stmt := top 18
abbrev sTerm : Stmt := top 19
abbrev sTree : Stmt := top 20
abbrev sLines : Stmt := top 21
abbrev sLaw : Stmt := top 22
/-- the built-ins that stand -/
structure Std (mg : Str → Option Value) : Prop where
  len : mg "len" = none
  abs : mg "abs" = none
  int : mg "int" = none
  range : mg "range" = none
  isi : mg "isinstance" = none
  tuple : mg "tuple" = none
  list : mg "list" = none
  all : mg "all" = none
  zip : mg "zip" = none
  bool : mg "bool" = none
  str : mg "str" = none
/-- a def of the text, as its callers see it -/
structure Df (K : PySem.W.Frag) (mg : Str → Option Value) (x : Str) (st : Stmt) (f : Addr) (fd : FuncData) (ps : List Str) : Prop where
  F : Fun K x x st f fd
  b : Binds K fd ps []
  g : mg x = some (.ref f)
/-- all but l stands -/
def Keep (l : Addr) (H H' : Hp) : Prop := ∀ b o, b ≠ l → H b = some o → H' b = some o
theorem Keep.refl {l : Addr} {H : Hp} : Keep l H H := fun _ _ _ e => e
theorem Keep.trans {l : Addr} {H H1 H2 : Hp} (a : Keep l H H1) (b : Keep l H1 H2) : Keep l H H2 := fun c o n e => b c o n (a c o n e)
theorem Keep.same {l : Addr} {H H1 : Hp} (a : Same H H1) : Keep l H H1 := fun c o n e => a c o e
theorem Keep.put {l : Addr} {H : Hp} {o : HO} : Keep l H (upd H l o) := fun c u n e => by rw [upd_ne n]; exact e
theorem same_new {H : Hp} {p : Addr} {o : HO} (h : H p = none) : Same H (upd H p o) := fun c u e => by rw [upd_ne (ne_of_none e h)]; exact e
theorem Keep.new {l : Addr} {H : Hp} {p : Addr} {o : HO} (h : H p = none) : Keep l H (upd H p o) := Keep.same (same_new h)
/-- the feed of draws at l -/
def Feed (H : Hp) (l : Addr) : Prop := ∃ a b : Int, H l = some (.lst [.int a, .int b]) ∧ 0 ≤ a ∧ 0 ≤ b
theorem Feed.keep {l m : Addr} {H H' : Hp} (h : Feed H l) (k : Keep m H H') (n : l ≠ m) : Feed H' l := by
  obtain ⟨a, b, e, h0, h1⟩ := h
  exact ⟨a, b, k _ _ n e, h0, h1⟩
theorem Feed.same {l : Addr} {H H' : Hp} (h : Feed H l) (k : Same H H') : Feed H' l := by
  obtain ⟨a, b, e, h0, h1⟩ := h
  exact ⟨a, b, k _ _ e, h0, h1⟩
theorem Feed.ne {l d : Addr} {H : Hp} (h : Feed H l) (e : H d = none) : l ≠ d := by
  obtain ⟨a, b, q, _⟩ := h
  exact ne_of_none q e
def spFeed (K : PySem.W.Frag) : Sp := fun vs H Q _ => ∃ (a : Addr) (ns : List Int) (k : Nat), vs = [.ref a, .int k] ∧ SqL K H a (ns.map V.int) ∧
  ∀ l H', H l = none → Feed H' l → Same H H' → Q (.ref l) H'
def spDraw : Sp := fun vs H Q _ => ∃ (l : Addr) (m : Int), vs = [.ref l, .int m] ∧ Feed H l ∧ 1 ≤ m ∧ m < 1073741824 ∧
  ∀ d H', 0 ≤ d → d < m → Feed H' l → Keep l H H' → Q (.int d) H'
section
variable {P : Program} {w : World} {K : PySem.W.Frag} {mg : Str → Option Value} {base : Heap}
theorem scFeed : FnScope ["_law_script", "_law_k", "_law_cell"] ["_law_script", "_law_k"] (defScope sFeed) := ⟨rfl, rfl, rfl, by decide +kernel, rfl, by decide +kernel, by decide +kernel⟩
theorem item_int {ns : List Int} {j : Nat} (h : j < ns.length) : (ns.map V.int)[j]? = some (V.int ns[j]) := by
  rw [List.getElem?_map, List.getElem?_eq_getElem h]
  rfl
theorem ok_feed {f : Addr} {fd : FuncData} (S : Std mg) (F : Fun K "_law_feed" "_law_feed" sFeed f fd) : FnOk P w K mg base CX0 1 f fd ["_law_script", "_law_k"] (spFeed K) := by
  refine F.ok scFeed (fun vs H Q E h => ?_) (fun cdv A outer s H vs Q E hr h => ?_)
  · obtain ⟨a, ns, k, rfl, _⟩ := h
    rfl
  · obtain ⟨a, ns, k, rfl, hS, q⟩ := h
    refine ⟨_, pss_cons (ps_set (i := 2) scFeed.nd rfl (Or.inl rfl) (pe_op op_add (pe_op op_mul pe_int (pv 1)) pe_int))
      (pss_cons (ps_if (pt_cmpR op_lt (pv 1) (pe_callB call_len_seq (by rfl) S.len PySem.boot_len (pa_cons (pv 0) pa_nil)) (nomark _))
          (pss_one (ps_set (i := 2) scFeed.nd rfl (Or.inl rfl) (pe_ix ix_list (pv 0) (pv 1) (fun _ _ => rfl))))
          (pss_one (ps_if (pt_cmpR op_gt (pe_callB call_len_seq (by rfl) S.len PySem.boot_len (pa_cons (pv 0) pa_nil)) pe_int (nomark _))
            (pss_one (ps_set (i := 2) scFeed.nd rfl (Or.inl rfl) (pe_op op_add (pv 2) (pe_op op_mul (pe_op op_mod (pe_callB call_abs (by rfl) S.abs (by decide +kernel) (pa_cons
              (pe_ix ix_list (pv 0) (pe_op op_mod (pe_callTy call_int1 (by rfl) S.int (by decide +kernel) (pa_cons (pv 1) pa_nil)) (pe_callB call_len_seq (by rfl) S.len PySem.boot_len (pa_cons (pv 0) pa_nil))) (fun _ _ => rfl)) pa_nil)) pe_int) pe_int))))
            pss_nil)))
      (pss_cons (ps_if (pt_cmpR op_lt (pv 2) pe_int (nomark _)) (pss_one (ps_set (i := 2) scFeed.nd rfl (Or.inl rfl) (pe_op op_sub pe_int (pe_op op_mul pe_int (pv 2))))) pss_nil)
      (pss_one (ps_ret (pe_lst (pa_cons (pe_ifExp (pt_cmpR op_ge (pv 2) (pe_op op_pow pe_int pe_int) (nomark _)) (pv 2) pe_int)
        (pa_cons (pe_op op_add (pe_op op_add (pe_op op_mod (pe_callTy call_int1 (by rfl) S.int (by decide +kernel) (pa_cons (pv 2) pa_nil)) pe_int) (pe_op op_mul pe_int (pv 1))) pe_int) pa_nil))))))), ?_⟩
    -- the end, from any value of the cell
    have fin : ∀ c : Int, 0 ≤ c → (tRet (tLst (tCons (tIf (tTest (tOp (rI0 fun i j => .bl (decide (j ≤ i))) (tVar 2) (tOp (rI CPow fun i j => .int (i ^ j.toNat)) (tC (.int 10)) (tC (.int 18))))) (tVar 2) (tC (.int 0)))
        (tCons (tOp (rI0 fun i j => .int (i + j)) (tOp (rI0 fun i j => .int (i + j)) (tOp (rI (fun _ j => 0 < j) fun i j => .int (i % j)) (tCB (fun xs H Q => (∃ i, xs = [.int i] ∧ Q (.int i) H) ∨ ∃ k, xs = [.bl k] ∧ Q (.int (if k then 1 else 0)) H) (tCons (tVar 2) tNil)) (tC (.int 1000003))) (tOp (rI CMul fun i j => .int (i * j)) (tC (.int 13)) (tVar 1))) (tC (.int 1))) tNil))))
        { nx := fun _ H' => Q .non H', rt := Q } [some (.ref a), some (.int k), some (.int c)] H := by
      intro c hc
      have stp : ∀ x : Int, 0 ≤ x → ∀ p, H p = none → Q (.ref p) (upd H p (.lst [.int x, .int (c % 1000003 + 13 * k + 1)])) := fun x hx p hp =>
        q p _ hp ⟨x, _, upd_same, hx, by omega⟩ (same_new hp)
      refine ⟨_, rfl, _, _, rfl, rfl, ⟨by decide, by decide, by decide⟩, _, _, rfl, rfl, _, rfl, ite2 (fun h1 => ?_) (fun h1 => ?_)⟩
      · refine ⟨_, rfl, _, rfl, .inl ⟨_, rfl, _, _, rfl, rfl, (by show (0 : Int) < 1000003; decide), _, rfl, _, _, rfl, rfl, .inl ⟨by decide, by decide⟩, _, _, rfl, rfl, _, _, rfl, rfl, (by show 2 ≤ sizeLine; decide), stp c hc⟩⟩
      · refine ⟨_, rfl, .inl ⟨_, rfl, _, _, rfl, rfl, (by show (0 : Int) < 1000003; decide), _, rfl, _, _, rfl, rfl, .inl ⟨by decide, by decide⟩, _, _, rfl, rfl, _, _, rfl, rfl, (by show 2 ≤ sizeLine; decide), stp 0 (Int.le_refl 0)⟩⟩
    have neg : ∀ c : Int, tSeq (tIfS (tTest (tOp (rI0 fun i j => .bl (decide (i < j))) (tVar 2) (tC (.int 0)))) (tAsg (tOp (rI0 fun i j => .int (i - j)) (tC (.int 3)) (tOp (rI CMul fun i j => .int (i * j)) (tC (.int 5)) (tVar 2))) (gName 2)) tNext) (tRet (tLst (tCons (tIf (tTest (tOp (rI0 fun i j => .bl (decide (j ≤ i))) (tVar 2) (tOp (rI CPow fun i j => .int (i ^ j.toNat)) (tC (.int 10)) (tC (.int 18))))) (tVar 2) (tC (.int 0)))
        (tCons (tOp (rI0 fun i j => .int (i + j)) (tOp (rI0 fun i j => .int (i + j)) (tOp (rI (fun _ j => 0 < j) fun i j => .int (i % j)) (tCB (fun xs H Q => (∃ i, xs = [.int i] ∧ Q (.int i) H) ∨ ∃ k, xs = [.bl k] ∧ Q (.int (if k then 1 else 0)) H) (tCons (tVar 2) tNil)) (tC (.int 1000003))) (tOp (rI CMul fun i j => .int (i * j)) (tC (.int 13)) (tVar 1))) (tC (.int 1))) tNil))))
        { nx := fun _ H' => Q .non H', rt := Q } [some (.ref a), some (.int k), some (.int c)] H := by
      intro c
      refine ⟨_, rfl, _, _, rfl, rfl, _, rfl, ite2 (fun h1 => ?_) (fun h1 => ?_)⟩
      · have h2 : c < 0 := of_decide_eq_true h1
        exact ⟨_, rfl, _, _, rfl, rfl, .inl ⟨by decide, by decide⟩, _, _, rfl, rfl, fin (3 - 5 * c) (by omega)⟩
      · have h2 : ¬ c < 0 := fun e => h1 (decide_eq_true e)
        exact fin c (by omega)
    refine ⟨_, rfl, _, _, rfl, rfl, .inl ⟨by decide, by decide⟩, _, _, rfl, rfl, ?_⟩
    refine ⟨_, rfl, _, rfl, a, _, rfl, .inl hS, _, _, rfl, rfl, _, rfl, ite2 (fun h1 => ?_) (fun h1 => ?_)⟩
    · have h2 : (k : Int) < ((ns.map V.int).length : Nat) := of_decide_eq_true h1
      have h3 : k < ns.length := by rw [List.length_map] at h2; omega
      exact ⟨_, rfl, _, rfl, a, _, _, _, rfl, rfl, hS, atI_nat (item_int h3), neg _⟩
    · refine ⟨_, rfl, a, _, rfl, .inl hS, _, _, rfl, rfl, _, rfl, ite2 (fun h2 => ?_) (fun h2 => ?_)⟩
      · have h3 : (0 : Int) < ((ns.map V.int).length : Nat) := of_decide_eq_true h2
        have h4 : 0 < ns.length := by rw [List.length_map] at h3; omega
        obtain ⟨j, ej, hj⟩ : ∃ j : Nat, (k : Int) % ((ns.map V.int).length : Nat) = (j : Int) ∧ j < ns.length := by
          have e1 := Int.emod_nonneg (k : Int) (b := ((ns.map V.int).length : Nat)) (by omega)
          have e2 := Int.emod_lt_of_pos (k : Int) h3
          refine ⟨((k : Int) % ((ns.map V.int).length : Nat)).toNat, by omega, ?_⟩
          have e3 : (ns.map V.int).length = ns.length := List.length_map ..
          omega
        refine ⟨_, rfl, _, rfl, _, rfl, .inl ⟨_, rfl, _, rfl, a, _, rfl, .inl hS, _, _, rfl, rfl, h3, a, _, _, _, rfl, rfl, hS, at_of ej (item_int hj), ?_⟩⟩
        exact ⟨_, rfl, _, _, rfl, rfl, (by show (0 : Int) < 1000003; decide), _, _, rfl, rfl, .inr ⟨by decide, by decide⟩, _, _, rfl, rfl, neg _⟩
      · exact neg _
end
end LK

namespace LK
open PySem PySem.Spec PyProof.Rows L2
def spPick (K : PySem.W.Frag) : Sp := fun vs H Q _ => ∃ (l : Addr) (x : V) (P : V → Prop), vs = [.ref l, x] ∧ Feed H l ∧
  ((∃ z : Str, x = .str z ∧ 0 < z.length ∧ z.length ≤ 1000 ∧ ∀ c, c ∈ z.cps.toList → P (.str ⟨#[c]⟩)) ∨ (∃ (a : Addr) (xs : List V), x = .ref a ∧ a ≠ l ∧ SqL K H a xs ∧ 0 < xs.length ∧ xs.length ≤ 1000 ∧ ∀ v, v ∈ xs → P v)) ∧
  ∀ v H', P v → Feed H' l → Keep l H H' → Q v H'
section
variable {P : Program} {w : World} {K : PySem.W.Frag} {mg : Str → Option Value} {base : Heap}
theorem scDraw : FnScope ["_law_feed_here", "_law_many", "_law_digit"] ["_law_feed_here", "_law_many"] (defScope sDraw) := ⟨rfl, rfl, rfl, by decide +kernel, rfl, by decide +kernel, by decide +kernel⟩
theorem ok_draw {f : Addr} {fd : FuncData} (S : Std mg) (F : Fun K "_law_draw" "_law_draw" sDraw f fd) : FnOk P w K mg base CX0 1 f fd ["_law_feed_here", "_law_many"] spDraw := by
  refine F.ok scDraw (fun vs H Q E h => ?_) (fun cdv A outer s H vs Q E hr h => ?_)
  · obtain ⟨l, m, rfl, _⟩ := h
    rfl
  · obtain ⟨l, m, rfl, ⟨a, b, hl, ha, hb⟩, h1, h2, q⟩ := h
    refine ⟨_, pss_cons (ps_if (pt_cmpR op_gt (pe_ix ix_list (pv 0) pe_int (fun _ _ => rfl)) pe_int (nomark _))
        (pss_cons (ps_set (i := 2) scDraw.nd rfl (Or.inl rfl) (pe_op op_mod (pe_callTy call_int1 (by rfl) S.int (by decide +kernel) (pa_cons (pe_ix ix_list (pv 0) pe_int (fun _ _ => rfl)) pa_nil)) (pv 1)))
        (pss_cons (ps_asg (pe_op op_fdiv (pe_ix ix_list (pv 0) pe_int (fun _ _ => rfl)) (pv 1)) (pg_sub (pv 0) pe_int set_list))
        (pss_one (ps_ret (pv 2))))) pss_nil)
      (pss_cons (ps_asg (pe_op op_mod (pe_callTy call_int1 (by rfl) S.int (by decide +kernel) (pa_cons (pe_op op_add (pe_op op_mul (pe_ix ix_list (pv 0) pe_int (fun _ _ => rfl)) pe_int) pe_int) pa_nil)) pe_int) (pg_sub (pv 0) pe_int set_list))
      (pss_one (ps_ret (pe_op op_mod (pe_callTy call_int1 (by rfl) S.int (by decide +kernel) (pa_cons (pe_op op_fdiv (pe_ix ix_list (pv 0) pe_int (fun _ _ => rfl)) pe_int) pa_nil)) (pv 1))))), ?_⟩
    have hS : SqL K H l [.int a, .int b] := SqL.of hl
    refine ⟨_, rfl, l, _, _, _, rfl, rfl, hS, rfl, _, _, rfl, rfl, _, rfl, ite2 (fun c => ?_) (fun c => ?_)⟩
    · refine ⟨_, rfl, l, _, _, _, rfl, rfl, hS, rfl, .inl ⟨_, rfl, _, rfl, _, _, rfl, rfl, (by show 0 < m; omega), ?_⟩⟩
      refine ⟨_, rfl, l, _, _, _, rfl, rfl, hS, rfl, _, rfl, _, _, rfl, rfl, ⟨by omega, h2⟩, _, rfl, l, _, _, 0, rfl, rfl, hl, rfl, _, rfl, ?_⟩
      exact q _ _ (Int.emod_nonneg _ (by omega)) (Int.emod_lt_of_pos _ (by omega)) ⟨_, _, upd_same, Int.ediv_nonneg ha (by omega), hb⟩ Keep.put
    · refine ⟨_, rfl, l, _, _, _, rfl, rfl, hS, rfl, _, _, rfl, rfl, .inr ⟨by decide, by decide⟩, _, _, rfl, rfl, .inl ⟨_, rfl, _, _, rfl, rfl, (by show (0 : Int) < 2147483647; decide), _, rfl, l, _, _, 1, rfl, rfl, hl, rfl, ?_⟩⟩
      refine ⟨_, rfl, l, _, _, _, rfl, rfl, SqL.of upd_same, rfl, _, _, rfl, rfl, ⟨by decide, by decide⟩, .inl ⟨_, rfl, _, rfl, _, _, rfl, rfl, (by show 0 < m; omega), ?_⟩⟩
      exact q _ _ (Int.emod_nonneg _ (by omega)) (Int.emod_lt_of_pos _ (by omega)) ⟨_, _, upd_same, ha, Int.emod_nonneg _ (by decide)⟩ Keep.put
theorem scPick : FnScope ["_law_feed_here", "_law_items"] ["_law_feed_here", "_law_items"] (defScope sPick) := ⟨rfl, rfl, rfl, by decide +kernel, rfl, by decide +kernel, by decide +kernel⟩
theorem ok_pick {f fD : Addr} {fd fdD : FuncData} (S : Std mg) (F : Fun K "_law_pick" "_law_pick" sPick f fd) (D : Df K mg "_law_draw" sDraw fD fdD ["_law_feed_here", "_law_many"]) : FnOk P w K mg base CX0 2 f fd ["_law_feed_here", "_law_items"] (spPick K) := by
  have GD : FnOk P w K mg base CX0 1 fD fdD ["_law_feed_here", "_law_many"] spDraw := ok_draw S D.F
  refine F.ok scPick (fun vs H Q E h => ?_) (fun cdv A outer s H vs Q E hr h => ?_)
  · obtain ⟨l, x, PP, rfl, _⟩ := h
    rfl
  · obtain ⟨l, x, PP, rfl, hf, hi, q⟩ := h
    refine ⟨_, pss_one (ps_ret (pe_ix ix_seq (pv 1) (pe_call GD hr rfl D.g D.F.kp D.b .nil pass0 (pa_cons (pv 0) (pa_cons (pe_callB call_len (by rfl) S.len PySem.boot_len (pa_cons (pv 1) pa_nil)) pa_nil))) (fun _ _ => rfl))), ?_⟩
    rcases hi with ⟨z, rfl, h0, h1, hP⟩ | ⟨a, xs, rfl, hne, hS, h0, h1, hP⟩
    · refine ⟨_, rfl, _, rfl, _, rfl, _, z.length, rfl, ⟨Nat.le_of_lt (small1000 h1), rfl⟩, l, (z.length : Int), rfl, hf, by omega, by omega, fun d H' d0 d1 hf' kp => ?_⟩
      obtain ⟨j, rfl⟩ : ∃ j : Nat, d = (j : Int) := ⟨d.toNat, by omega⟩
      have hj : j < z.cps.toList.length := by
        have : z.length = z.cps.toList.length := by show z.cps.size = _; simp
        omega
      refine .inr (.inr ⟨z, (j : Int), z.cps.toList[j], rfl, rfl, Nat.le_of_lt (small1000 h1), atI_nat (List.getElem?_eq_getElem hj), ?_⟩)
      exact q _ _ (hP _ (List.getElem_mem hj)) hf' kp
    · refine ⟨_, rfl, _, rfl, _, rfl, _, xs.length, rfl, .inl ⟨_, hS, rfl⟩, l, (xs.length : Int), rfl, hf, by omega, by omega, fun d H' d0 d1 hf' kp => ?_⟩
      obtain ⟨j, rfl⟩ : ∃ j : Nat, d = (j : Int) := ⟨d.toNat, by omega⟩
      have hj : j < xs.length := by omega
      have hS' : SqL K H' a xs := by
        rcases hS with (h | ⟨o, h⟩) | h
        · exact .inl (.inl (kp _ _ hne h))
        · exact .inl (.inr ⟨o, kp _ _ hne h⟩)
        · exact .inr h
      refine .inl ⟨a, xs, (j : Int), xs[j], rfl, rfl, hS', atI_nat (List.getElem?_eq_getElem hj), ?_⟩
      exact q _ _ (hP _ (List.getElem_mem hj)) hf' kp
end
end LK

namespace LK
open PySem PySem.Spec PyProof.Rows L2
/-- a name: one to four lower-case letters -/
structure NameOk (z : Str) : Prop where
  pos : 0 < z.length
  len : z.length ≤ 4
  low : ∀ c, c ∈ TL.tl z → 97 ≤ c ∧ c ≤ 122
  nif : z ≠ "if"
  nelse : z ≠ "else"
  nend : z ≠ "end"
def letters : Str := "abcdefghijklmnopqrstuvwxyz"
theorem letters_low : ∀ c, c ∈ TL.tl letters → 97 ≤ c ∧ c ≤ 122 := by decide +kernel
theorem letters_len : letters.length = 26 := by decide +kernel
theorem joinL_nil_flat : ∀ ps : List (List Nat), TL.joinL [] ps = ps.flatten
  | [] => rfl
  | [p] => by simp [TL.joinL]
  | p :: q :: r => by
    show p ++ ([] ++ TL.joinL [] (q :: r)) = _
    rw [joinL_nil_flat (q :: r), List.nil_append]
    rfl
theorem flat_one : ∀ {ys : List Str}, (∀ y, y ∈ ys → y.length = 1) → ((ys.map TL.tl).flatten).length = ys.length
  | [], _ => rfl
  | y :: r, h => by
    rw [List.map_cons, List.flatten_cons, List.length_append, flat_one fun z hz => h z (List.mem_cons_of_mem _ hz), ← TL.len_tl, h y (List.mem_cons_self ..), List.length_cons]
    omega
theorem tl_join0 (ys : List Str) : TL.tl (Txt.join "" ys) = (ys.map TL.tl).flatten := by
  rw [TL.join_eq, TL.tl_join]
  exact joinL_nil_flat _
theorem sum_one : ∀ {ys : List Str}, (∀ y, y ∈ ys → y.length = 1) → (ys.map (·.length)).sum = ys.length
  | [], _ => rfl
  | y :: r, h => by
    rw [List.map_cons, List.sum_cons, sum_one fun z hz => h z (List.mem_cons_of_mem _ hz), h y (List.mem_cons_self ..), List.length_cons]
    omega
theorem nameOk_q : NameOk "q" := ⟨by decide +kernel, by decide +kernel, by decide +kernel, by decide +kernel, by decide +kernel, by decide +kernel⟩
def spWord : Sp := fun vs H Q _ => ∃ (l : Addr), vs = [.ref l] ∧ Feed H l ∧ ∀ z H', NameOk z → Feed H' l → Keep l H H' → Q (.str z) H'
section
variable {P : Program} {w : World} {K : PySem.W.Frag} {mg : Str → Option Value} {base : Heap}
def nWord : List Str := ["_law_feed_here", "_law_letters", "_law_word_here", "_law_k"]
theorem scWord : FnScope nWord ["_law_feed_here"] (defScope sWord) := ⟨rfl, rfl, rfl, by decide +kernel, rfl, by decide +kernel, by decide +kernel⟩
theorem ok_word {f fD fP : Addr} {fd fdD fdP : FuncData} (S : Std mg) (F : Fun K "_law_word" "_law_word" sWord f fd) (D : Df K mg "_law_draw" sDraw fD fdD ["_law_feed_here", "_law_many"]) (PK : Df K mg "_law_pick" sPick fP fdP ["_law_feed_here", "_law_items"]) : FnOk P w K mg base CX0 3 f fd ["_law_feed_here"] spWord := by
  have GD : FnOk P w K mg base CX0 1 fD fdD ["_law_feed_here", "_law_many"] spDraw := ok_draw S D.F
  have GP : FnOk P w K mg base CX0 2 fP fdP ["_law_feed_here", "_law_items"] (spPick K) := ok_pick S PK.F D
  refine F.ok scWord (fun vs H Q E h => ?_) (fun cdv A outer s H vs Q E hr h => ?_)
  · obtain ⟨l, rfl, _⟩ := h
    rfl
  · obtain ⟨l, rfl, hf, q⟩ := h
    have hr1 : Room 1 _ := hr.mono (by decide)
    refine ⟨_, pss_cons (ps_set (i := 1) scWord.nd rfl (Or.inr rfl) pe_str)
      (pss_cons (ps_set (i := 2) scWord.nd rfl (Or.inl rfl) (pe_join pe_str (pe_lc (own := [("_law_k", 3)]) (g := gName 3) (tt := tYes) rfl scWord.nd
          (pi_range1 (by rfl) S.range (pa_cons (pe_op op_add pe_int (pe_call GD hr1 rfl D.g D.F.kp D.b .nil pass0 (pa_cons (pv 0) (pa_cons pe_int pa_nil)))) pa_nil))
          (blkOk_by (N := nWord) (sc := defScope sWord) (by decide +kernel)) (fun _ _ _ _ _ => pg_name (i := 3) scWord.nd rfl (Or.inl rfl)) (fun _ _ _ _ _ => pts_nil)
          (fun _ _ _ _ _ => pe_call GP hr rfl PK.g PK.F.kp PK.b .nil pass0 (pa_cons (pv 0) (pa_cons (pv 1) pa_nil))))))
      (pss_one (ps_ret (pe_ifExp (pt_cmpR op_in_seq (pv 2) (pe_tup (pa_cons pe_str (pa_cons pe_str (pa_cons pe_str pa_nil)))) (by rfl)) pe_str (pv 2))))), ?_⟩
    refine ⟨⟨_, rfl⟩, _, rfl, l, 4, rfl, hf, by decide, by decide, fun d H1 d0 d1 hf1 k1 => ⟨_, _, rfl, rfl, 1 + d, rfl, by omega, by omega, fun D hD => ?_⟩⟩
    have hlD : l ≠ D := fun e => by
      obtain ⟨a, b, e1, _⟩ := hf1
      rw [e, hD] at e1
      cases e1
    refine lc_range (lo := 0) (n := (1 + d).toNat) (fun i H2 => Feed H2 l ∧ (∀ b o, b ≠ l → H b = some o → H2 b = some o) ∧ ∃ ys : List Str, ys.length = i ∧ H2 D = some (.lst (ys.map V.str)) ∧ ∀ y, y ∈ ys → y.length = 1 ∧ ∀ c, c ∈ TL.tl y → 97 ≤ c ∧ c ≤ 122)
      ⟨hf1.same (same_new hD), fun b o n e => same_new hD b o (k1 b o n e), [], rfl, upd_same, fun y hy => by simp at hy⟩ ?_ ?_
    · rintro i H2 hi ⟨hf2, k2, ys, el, hy, hys⟩
      refine ⟨rfl, _, rfl, _, rfl, l, .str letters, (fun v => ∃ c : Nat, v = .str ⟨#[c]⟩ ∧ 97 ≤ c ∧ c ≤ 122), rfl, hf2, .inl ⟨_, rfl, by decide +kernel, by decide +kernel, fun c hc => ⟨c, rfl, letters_low c hc⟩⟩, ?_⟩
      rintro v H3 ⟨c, rfl, c0, c1⟩ hf3 k3
      refine ⟨ys.map V.str, k3 _ _ hlD.symm hy, ?_, ?_⟩
      · rw [List.length_map]
        exact small1000 (by omega)
      · refine ⟨hf3.keep (m := D) Keep.put hlD, fun b o n e => ?_, ys ++ [⟨#[c]⟩], by simp [el], by rw [upd_same]; simp, fun y hy' => ?_⟩
        · by_cases hb : b = D
          · exfalso
            rw [hb] at e n
            have z := k1 _ _ n e
            rw [hD] at z
            cases z
          · rw [upd_ne hb]
            exact k3 b o n (k2 b o n e)
        · rcases List.mem_append.mp hy' with z | z
          · exact hys y z
          · have e : y = ⟨#[c]⟩ := by simpa using z
            subst e
            exact ⟨rfl, fun c' hc' => by
              have e : c' = c := by simpa [TL.tl] using hc'
              subst e
              exact ⟨c0, c1⟩⟩
    · rintro H2 ⟨hf2, k2, ys, el, hy, hys⟩
      have hone : ∀ y, y ∈ ys → y.length = 1 := fun y h => (hys y h).1
      have l1 : ys.length = 1 + d.toNat := by omega
      have htl := tl_join0 ys
      have hlen : (Txt.join "" ys).length = ys.length := by rw [TL.len_tl, htl, flat_one hone]
      have hlow : ∀ c, c ∈ TL.tl (Txt.join "" ys) → 97 ≤ c ∧ c ≤ 122 := fun c hc => by
        rw [htl] at hc
        obtain ⟨l', h1, h2⟩ := List.mem_flatten.mp hc
        obtain ⟨y, hy', rfl⟩ := List.mem_map.mp h1
        exact (hys y hy').2 c h2
      refine ⟨_, _, ys, rfl, rfl, .inl (SqL.of hy), ?_, ?_⟩
      · rw [sum_one hone]
        show ys.length + ys.length * 0 ≤ 16777216
        omega
      refine ⟨_, rfl, (by show 3 ≤ sizeLine; decide), fun p hp => ⟨p, _, rfl, .inr (SqT.of upd_same), rfl, rfl, _, rfl, ?_⟩⟩
      have hl2 : l ≠ p := fun e => by
        obtain ⟨a, b, e1, _⟩ := hf2
        rw [e, hp] at e1
        cases e1
      have kk : Keep l H (upd H2 p (.tup [.str "if", .str "else", .str "end"])) := fun b o n e => same_new hp b o (k2 b o n e)
      refine ite2 (fun c => ?_) (fun c => ?_)
      · exact q _ _ nameOk_q (hf2.same (same_new hp)) kk
      · refine ⟨_, rfl, q _ _ ⟨by omega, by omega, hlow, fun e => ?_, fun e => ?_, fun e => ?_⟩ (hf2.same (same_new hp)) kk⟩
        · exact c (by rw [e]; decide +kernel)
        · exact c (by rw [e]; decide +kernel)
        · exact c (by rw [e]; decide +kernel)
end
end LK

namespace LK
open PySem PySem.Spec PyProof.Rows L2
/-- the signs of a text, each a text -/
def signs (z : Str) : List Str := (TL.tl z).map fun c => (⟨#[c]⟩ : Str)
section
variable {X : Cx}
/-- list(text) -/
theorem call_list_txt (hc : X.calm = true) : CallR X (.type "list") (fun xs H Q => ∃ z : Str, xs = [.str z] ∧ z.length ≤ sizeLine ∧ ∀ l, H l = none → Q (.ref l) (upd H l (.lst ((signs z).map V.str)))) := by
  intro pins s σ H xs us Q I r h
  obtain ⟨z, rfl, hz, q⟩ := h
  obtain ⟨u, rfl, rx⟩ := vals1 r
  obtain ⟨t, rfl⟩ := rx
  refine call_list_str (I.ok.hd hc) z t (fun h' tk acc c' hk e' hi => ?_) hz
  have hl : acc.toList.length = ((signs z).map V.str).length := by
    rw [Array.length_toList, hi.1, List.length_map]
    unfold signs
    rw [List.length_map]
    show z.cps.size = z.cps.toList.length
    simp
  refine ⟨.ref s.heap.objs.size, upd H s.heap.objs.size (.lst ((signs z).map V.str)), I.laid hk (Nat.le_refl _) (show ObjOk X.prog X.w _ _ _ (.lst ((signs z).map V.str)) from ⟨?_, acc.toList, c', ?_, ?_⟩), rfl, q _ (I.hok.fresh (Nat.le_refl _))⟩
  · rw [← hl, Array.length_toList, hi.1]
    exact hz
  · refine vals_of_idx _ _ hl fun j u hj => ?_
    obtain ⟨c, tk', e1, rfl⟩ := hi.2 j u (by rw [← hj, Array.getElem?_toList])
    refine ⟨.str ⟨#[c]⟩, ?_, ⟨tk', rfl⟩⟩
    unfold signs
    rw [List.getElem?_map, List.getElem?_map]
    show Option.map _ (Option.map _ z.cps.toList[j]?) = _
    rw [Array.getElem?_toList, e1]
    rfl
  · rw [Array.toArray_toList]
    exact e'
end
theorem signs_nodup : (signs letters).Nodup := by decide +kernel
theorem signs_len : (signs letters).length = 26 := by decide +kernel
theorem signs_ok : ∀ y, y ∈ signs letters → NameOk y := fun y h => by
  obtain ⟨c, hc, rfl⟩ := List.mem_map.mp h
  refine ⟨by show 0 < 1; decide, by show 1 ≤ 4; decide, fun c' hc' => ?_, fun e => ?_, fun e => ?_, fun e => ?_⟩
  · have e : c' = c := by simpa [TL.tl] using hc'
    subst e
    exact letters_low _ hc
  · have z := congrArg Str.length e
    revert z
    show ¬ (1 = Str.length "if")
    decide +kernel
  · have z := congrArg Str.length e
    revert z
    show ¬ (1 = Str.length "else")
    decide +kernel
  · have z := congrArg Str.length e
    revert z
    show ¬ (1 = Str.length "end")
    decide +kernel
theorem some_other {α : Type} [DecidableEq α] : ∀ (found ls : List α), ls.Nodup → found.length < ls.length → ∃ w, w ∈ ls ∧ w ∉ found
  | [], [], _, h => absurd h (Nat.lt_irrefl _)
  | [], a :: _, _, _ => ⟨a, List.mem_cons_self .., by simp⟩
  | x :: r, ls, nd, h => by
    obtain ⟨w, h1, h2⟩ := some_other r (ls.erase x) (nd.erase x) (by
      have := List.length_erase (a := x) (l := ls)
      rw [this]
      rw [List.length_cons] at h
      split <;> omega)
    have h3 := (nd.mem_erase_iff).mp h1
    exact ⟨w, h3.2, by simp [h3.1, h2]⟩
theorem in_strs (z : Str) : ∀ ys : List Str, inV (V.str z) (ys.map V.str) = decide (z ∈ ys)
  | [] => rfl
  | y :: r => by
    have ih := in_strs z r
    unfold inV at ih ⊢
    rw [List.map_cons, List.any_cons, ih]
    by_cases h : y = z
    · subst h
      simp [eqV]
    · have h' : ¬ z = y := fun e => h e.symm
      simp [eqV, h, h']
theorem flat_all (ys : List Str) : (ys.map V.str).all flatV = true := by
  rw [List.all_eq_true]
  intro v hv
  obtain ⟨y, _, rfl⟩ := List.mem_map.mp hv
  rfl
def spWords : Sp := fun vs H Q _ => ∃ (l : Addr) (m : Nat), vs = [.ref l, .int m] ∧ Feed H l ∧ m ≤ 20 ∧
  ∀ (p : Addr) (zs : List Str) (H' : Hp), H p = none → zs.length = m → zs.Nodup → (∀ z, z ∈ zs → NameOk z) → H' p = some (.lst (zs.map V.str)) → Feed H' l → Keep l H H' → Q (.ref p) H'
section
variable {P : Program} {w : World} {K : PySem.W.Frag} {mg : Str → Option Value} {base : Heap}
def nWords : List Str := ["_law_feed_here", "_law_many", "_law_found", "_law_k", "_law_some", "_law_word_here"]
theorem scWords : FnScope nWords ["_law_feed_here", "_law_many"] (defScope sWords) := ⟨rfl, rfl, rfl, by decide +kernel, rfl, by decide +kernel, by decide +kernel⟩
theorem ok_words {f fW : Addr} {fd fdW : FuncData} (S : Std mg) (F : Fun K "_law_words" "_law_words" sWords f fd) (W : Df K mg "_law_word" sWord fW fdW ["_law_feed_here"]) (GW : FnOk P w K mg base CX0 3 fW fdW ["_law_feed_here"] spWord) :
    FnOk P w K mg base CX0 4 f fd ["_law_feed_here", "_law_many"] spWords := by
  refine F.ok scWords (fun vs H Q E h => ?_) (fun cdv A outer s H vs Q E hr h => ?_)
  · obtain ⟨l, m, rfl, _⟩ := h
    rfl
  · obtain ⟨l, m, rfl, hf, hm, q⟩ := h
    refine ⟨_, pss_cons (ps_set (i := 2) scWords.nd rfl (Or.inr rfl) (pe_lst pa_nil))
      (pss_cons (ps_for PassesOwn.never rfl (pi_range1 (by rfl) S.range (pa_cons (pv 1) pa_nil)) (pg_name (i := 3) scWords.nd rfl (Or.inl rfl))
        (pss_cons (ps_set (i := 4) scWords.nd rfl (Or.inl rfl) (pe_op op_cat (pe_lst (pa_cons (pe_call GW hr rfl W.g W.F.kp W.b .nil pass0 (pa_cons (pv 0) pa_nil)) pa_nil)) (pe_callTy (call_list_txt rfl) (by rfl) S.list (by decide +kernel) (pa_cons pe_str pa_nil))))
        (pss_one (ps_expr (pe_bm PySem.F.plainAttrs_list PySem.F.slot_list_append PySem.F.type_list_append mt_append (pv 2) (pa_cons
          (pe_ix ix_list (pe_lc (own := [("_law_word_here", 5)]) (g := gName 5) (tt := tTest (tOp (rIn K true) (tVar 5) (tVar 2))) rfl scWords.nd (pi_list (pv 4)) (blkOk_by (N := nWords) (sc := defScope sWords) (by decide +kernel)) (fun _ _ _ _ _ => pg_name (i := 5) scWords.nd rfl (Or.inl rfl))
            (fun _ _ _ _ _ => pts_one (pt_cmpR op_notIn_seq (pv 5) (pv 2) (by rfl))) (fun _ _ _ _ _ => pv 5)) pe_int (fun _ _ => rfl)) pa_nil))))))
      (pss_one (ps_ret (pv 2)))), ?_⟩
    refine ⟨(by show 0 ≤ sizeLine; decide), fun p hp => ?_⟩
    have hlp : l ≠ p := fun e => by
      obtain ⟨a, b, e1, _⟩ := hf
      rw [e, hp] at e1
      cases e1
    refine ⟨_, rfl, (m : Int), rfl, by omega, by omega, for_range (lo := 0) (n := (m : Int).toNat) (fun i σ H' => ∃ (zs : List Str) (v3 v4 : Option V), σ = [some (.ref l), some (.int m), some (.ref p), v3, v4, none] ∧ zs.length = i ∧ zs.Nodup ∧ (∀ z, z ∈ zs → NameOk z) ∧
        H' p = some (.lst (zs.map V.str)) ∧ Feed H' l ∧ Keep l H H') ⟨[], none, none, rfl, rfl, List.nodup_nil, fun z h => by simp at h, upd_same, hf.same (same_new hp), Keep.new hp⟩ ?_ ?_⟩
    · rintro i σ H1 hi ⟨zs, v3, v4, rfl, el, nd, ok, hz, hf1, k1⟩
      have hi' : i < m := by omega
      refine ⟨_, rfl, l, rfl, hf1, fun z H2 zok hf2 k2 => ⟨(by show 1 ≤ sizeLine; decide), fun a ha => ⟨_, rfl, by decide +kernel, fun b hb => ?_⟩⟩⟩
      have hpH2 : H2 p = some (.lst (zs.map V.str)) := k2 _ _ hlp.symm hz
      have hab : a ≠ b := ne_of_none upd_same hb
      refine ⟨a, b, _, _, rfl, rfl, by rw [upd_ne hab]; exact upd_same, upd_same, by rw [List.length_map]; show 1 + (signs letters).length ≤ sizeLine; rw [signs_len]; decide, fun c hc => ?_⟩
      have sm : Same H2 (upd (upd (upd H2 a (.lst [V.str z])) b (.lst ((signs "abcdefghijklmnopqrstuvwxyz").map V.str))) c (.lst ([V.str z] ++ (signs "abcdefghijklmnopqrstuvwxyz").map V.str))) := ((same_new ha).trans (same_new hb)).trans (same_new hc)
      generalize hH3 : (upd (upd (upd H2 a (.lst [V.str z])) b (.lst ((signs "abcdefghijklmnopqrstuvwxyz").map V.str))) c (.lst ([V.str z] ++ (signs "abcdefghijklmnopqrstuvwxyz").map V.str))) = H3 at sm ⊢
      have hc3 : H3 c = some (.lst ((z :: signs letters).map V.str)) := by rw [← hH3, upd_same]; rfl
      have hp3 := sm _ _ hpH2
      refine ⟨_, rfl, .inl ⟨rfl, _, SqL.of hp3⟩, _, rfl, c, rfl, ⟨_, SqL.of hc3⟩, fun d hd => ?_⟩
      have hdH : ∀ b o, H3 b = some o → b ≠ d := fun b o e => ne_of_none e hd
      refine lc_list (K := K) (a := c) (xs := (z :: signs letters).map V.str) (fun i H' => Keep d H3 H' ∧ H' d = some (.lst ((((z :: signs letters).take i).filter fun u => decide (u ∉ zs)).map V.str)))
        ⟨Keep.new hd, by rw [upd_same]; rfl⟩ (fun i H' _ ⟨k, _⟩ => SqL.of (k _ _ (hdH _ _ hc3) hc3)) ?_ ?_
      · rintro j x H4 hx ⟨k4, hd4⟩
        rw [List.getElem?_map] at hx
        obtain ⟨u, hu, rfl⟩ : ∃ u, (z :: signs letters)[j]? = some u ∧ x = V.str u := by
          cases e : (z :: signs letters)[j]? with
          | none =>
            rw [e] at hx
            cases hx
          | some u =>
            rw [e] at hx
            exact ⟨u, rfl, (Option.some.inj hx).symm⟩
        have tk : (z :: signs letters).take (j + 1) = (z :: signs letters).take j ++ [u] := by rw [List.take_add_one, hu]; rfl
        have hj : j < 27 := by
          have := (List.getElem?_eq_some_iff.mp hu).1
          rw [List.length_cons, signs_len] at this
          omega
        refine ⟨rfl, _, rfl, _, rfl, p, _, rfl, .inl (SqL.of (k4 _ _ (hdH _ _ hp3) hp3)), rfl, flat_all _, _, rfl, ?_⟩
        show (if (!inV (V.str u) (zs.map V.str)) = true then _ else _)
        rw [in_strs]
        by_cases hm' : u ∈ zs
        · rw [decide_eq_true hm']
          refine iteF ⟨k4, ?_⟩
          rw [hd4, tk, List.filter_append]
          simp [hm']
        · rw [decide_eq_false hm']
          refine iteT ⟨_, rfl, _, hd4, ?_, fun b o n e => by rw [upd_ne n]; exact k4 b o n e, ?_⟩
          · rw [List.length_map]
            have := List.length_filter_le (fun u => decide (u ∉ zs)) ((z :: signs letters).take j)
            have h2 := List.length_take_le j (z :: signs letters)
            exact small1000 (by omega)
          · rw [upd_same, tk, List.filter_append]
            simp [hm']
      · rintro H4 ⟨k4, hd4⟩
        rw [List.length_map, List.take_length] at hd4
        obtain ⟨w0, hw1, hw2⟩ := some_other zs (signs letters) signs_nodup (by rw [signs_len]; omega)
        have hne : ((z :: signs letters).filter fun u => decide (u ∉ zs)) ≠ [] := fun e => by
          have : w0 ∈ (z :: signs letters).filter fun u => decide (u ∉ zs) := List.mem_filter.mpr ⟨List.mem_cons_of_mem _ hw1, by simp [hw2]⟩
          rw [e] at this
          cases this
        obtain ⟨y, r, ey⟩ := List.exists_cons_of_ne_nil hne
        have hy : y ∈ (z :: signs letters).filter fun u => decide (u ∉ zs) := by rw [ey]; exact List.mem_cons_self ..
        have hy1 := (List.mem_filter.mp hy).1
        have hy2 : y ∉ zs := by simpa using (List.mem_filter.mp hy).2
        rw [ey] at hd4
        have yok : NameOk y := by
          rcases List.mem_cons.mp hy1 with e | e
          · rw [e]; exact zok
          · exact signs_ok y e
        have hp4 := k4 _ _ (hdH _ _ hp3) hp3
        refine ⟨d, _, 0, V.str y, rfl, rfl, SqL.of hd4, at_of (j := 0) rfl rfl, p, _, _, rfl, rfl, hp4, ?_, ?_⟩
        · rw [List.length_map]
          exact small1000 (by omega)
        · have hf4 : Feed H4 l := (hf2.same sm).keep k4 ((hf2.same sm).ne hd)
          refine ⟨zs ++ [y], _, _, rfl, by simp [el], ?_, fun u hu => ?_, by rw [upd_same]; simp, hf4.keep (m := p) Keep.put hlp, fun b o n e => ?_⟩
          · rw [List.nodup_append]
            exact ⟨nd, by simp, fun a ha b hb e => by
              have e' : b = y := by simpa using hb
              rw [e, e'] at ha
              exact hy2 ha⟩
          · rcases List.mem_append.mp hu with e | e
            · exact ok u e
            · have e' : u = y := by simpa using e
              rw [e']
              exact yok
          · rw [upd_ne (ne_of_none e hp)]
            have e3 := sm _ _ (k2 b o n (k1 b o n e))
            exact k4 b o (hdH _ _ e3) e3
    · rintro σ H1 ⟨zs, v3, v4, rfl, el, nd, ok, hz, hf1, k1⟩
      exact ⟨_, rfl, q p zs H1 hp (by omega) nd ok hz hf1 k1⟩
end
end LK

namespace LK
open PySem PySem.Spec PyProof.Rows L2
/-! ### data persist -/
mutual
theorem Dp.same {K : PySem.W.Frag} {H H' : Hp} (s : Same H H') : ∀ {d : PyData} {v : V}, Dp K H v d → Dp K H' v d
  | _, _, .non => .non
  | _, _, .bl b => .bl b
  | _, _, .int i => .int i
  | _, _, .str x => .str x
  | _, _, .lst h a => .lst (s.seq h) (DpAll.same s a)
  | _, _, .tup h a => .tup (by
      rcases h with (h | ⟨o, h⟩) | h
      · exact .inl (.inl (s _ _ h))
      · exact .inl (.inr ⟨o, s _ _ h⟩)
      · exact .inr h) (DpAll.same s a)
theorem DpAll.same {K : PySem.W.Frag} {H H' : Hp} (s : Same H H') : ∀ {ds : List PyData} {vs : List V}, DpAll K H vs ds → DpAll K H' vs ds
  | _, _, .nil => .nil
  | _, _, .cons h a => .cons (Dp.same s h) (DpAll.same s a)
end

/-- data of at most so many levels, sequences short -/
def Deep : Nat → PyData → Prop
  | 0, _ => False
  | n + 1, .list ds => ds.length ≤ 1000 ∧ ∀ d, d ∈ ds → Deep n d
  | n + 1, .tuple ds => ds.length ≤ 1000 ∧ ∀ d, d ∈ ds → Deep n d
  | _ + 1, .dict _ => False
  | _ + 1, _ => True
theorem DpAll.len {K : PySem.W.Frag} {H : Hp} : ∀ {ds : List PyData} {vs : List V}, DpAll K H vs ds → vs.length = ds.length
  | _, _, .nil => rfl
  | _, _, .cons _ a => by rw [List.length_cons, List.length_cons, DpAll.len a]
theorem DpAll.get {K : PySem.W.Frag} {H : Hp} : ∀ {ds : List PyData} {vs : List V}, DpAll K H vs ds → ∀ (i : Nat) (x : V), vs[i]? = some x → ∃ d, ds[i]? = some d ∧ Dp K H x d
  | _, _, .nil, i, x, h => by simp at h
  | _, _, .cons h a, 0, x, e => by
    have e' := Option.some.inj e
    subst e'
    exact ⟨_, rfl, h⟩
  | _, _, .cons h a, i + 1, x, e => by
    obtain ⟨d, h1, h2⟩ := DpAll.get a i x (by simpa using e)
    exact ⟨d, by simpa using h1, h2⟩
def tyD : PyData → String
  | .none => "NoneType"
  | .bool _ => "bool"
  | .int _ => "int"
  | .str _ => "str"
  | .list _ => "list"
  | .tuple _ => "tuple"
  | .dict _ => "dict"
theorem TyX.of_dp {K : PySem.W.Frag} {H : Hp} {x : V} {d : PyData} (h : Dp K H x d) : TyX K H x (.type (tyD d)) := by
  cases h with
  | non => exact .base .non
  | bl b => exact .base (.bl b)
  | int i => exact .base (.int i)
  | str z => exact .base (.str z)
  | lst h _ =>
    rcases h with (h | ⟨o, h⟩) | ⟨o, its, n, h, hc, _⟩
    · exact .base (.lst h)
    · exact .base (.frz h)
    · exact .kList h hc
  | tup h _ =>
    rcases h with (h | ⟨o, h⟩) | ⟨o, its, n, h, hc, _⟩
    · exact .base (.tup h)
    · exact .fTuple h
    · exact .kTuple h hc

/-- a comprehension over zip of two lists of one length -/
theorem lc_zipL {K : PySem.W.Frag} {a b : Addr} {xs ys : List V} {g : TG} {tt : TT} {te : TE} {vs : List Nat} {σ : L2.St} {H1 : Hp} {D : Addr} {Qd : Hp → Prop} (hl : xs.length = ys.length) (Pv : Nat → Hp → Prop) (h0 : Pv 0 (upd H1 D (.lst []))) (hq : ∀ i H, Pv i H → SqL K H a xs ∧ SqL K H b ys)
    (hs : ∀ (i : Nat) (x y : V) (T : Addr) (H : Hp), xs[i]? = some x → ys[i]? = some y → Pv i H → H T = none → g (.ref T) (wipe σ vs) (upd H T (.tup [x, y])) fun σ2 H2 => wipe σ2 vs = wipe σ vs ∧ tt σ2 H2 fun b H3 =>
      if b = true then te σ2 H3 fun y H4 => ∃ acc, H4 D = some (.lst acc) ∧ acc.length < sizeLine ∧ Pv (i + 1) (upd H4 D (.lst (acc ++ [y]))) else Pv (i + 1) H3) (hd : ∀ H, Pv xs.length H → Qd H) :
    ∃ W : Nat → Nat → Hp → Prop, (∃ m, W 0 m (upd H1 D (.lst []))) ∧ ∀ i m H, W i m H →
      ((Itz K a b).stop i H ∧ Qd H) ∨ ((Itz K a b).go i H ∧ ∃ Nx : Hp → Prop, (∀ H', Nx H' → ∃ m', m' < m ∧ W (i + 1) m' H') ∧ ∀ x H', (Itz K a b).yld i H x H' → g x (wipe σ vs) H' fun σ2 H2 => wipe σ2 vs = wipe σ vs ∧ tt σ2 H2 fun b H3 =>
        if b = true then te σ2 H3 fun y H4 => ∃ acc, H4 D = some (.lst acc) ∧ acc.length < sizeLine ∧ Nx (upd H4 D (.lst (acc ++ [y]))) else Nx H3) := by
  refine ⟨fun i m H => m = xs.length - i ∧ i ≤ xs.length ∧ Pv i H, ⟨xs.length, by simp, Nat.zero_le _, h0⟩, ?_⟩
  rintro i m H ⟨rfl, hi, p⟩
  obtain ⟨q1, q2⟩ := hq i H p
  by_cases hlt : i < xs.length
  · refine .inr ⟨⟨xs, ys, xs[i], ys[i]'(by omega), q1, q2, by simp [hlt], by simp [← hl, hlt]⟩, Pv (i + 1), fun H' p' => ⟨xs.length - (i + 1), by omega, rfl, hlt, p'⟩, fun v H' y => ?_⟩
    obtain ⟨T, x, y', rfl, hT, rfl, hx, hy⟩ := y
    exact hs i x y' T H (hx xs q1) (hy ys q2) p hT
  · have e : i = xs.length := by omega
    subst e
    exact .inl ⟨⟨xs, ys, q1, q2, .inl (Nat.le_refl _)⟩, hd H p⟩
theorem lc_zipT {K : PySem.W.Frag} {a b : Addr} {xs ys : List V} {g : TG} {tt : TT} {te : TE} {vs : List Nat} {σ : L2.St} {H1 : Hp} {D : Addr} {Qd : Hp → Prop} (hl : xs.length = ys.length) (Pv : Nat → Hp → Prop) (h0 : Pv 0 (upd H1 D (.lst []))) (hq : ∀ i H, Pv i H → SqT K H a xs ∧ SqT K H b ys)
    (hs : ∀ (i : Nat) (x y : V) (T : Addr) (H : Hp), xs[i]? = some x → ys[i]? = some y → Pv i H → H T = none → g (.ref T) (wipe σ vs) (upd H T (.tup [x, y])) fun σ2 H2 => wipe σ2 vs = wipe σ vs ∧ tt σ2 H2 fun b H3 =>
      if b = true then te σ2 H3 fun y H4 => ∃ acc, H4 D = some (.lst acc) ∧ acc.length < sizeLine ∧ Pv (i + 1) (upd H4 D (.lst (acc ++ [y]))) else Pv (i + 1) H3) (hd : ∀ H, Pv xs.length H → Qd H) :
    ∃ W : Nat → Nat → Hp → Prop, (∃ m, W 0 m (upd H1 D (.lst []))) ∧ ∀ i m H, W i m H →
      ((RZ.ItzT K a b).stop i H ∧ Qd H) ∨ ((RZ.ItzT K a b).go i H ∧ ∃ Nx : Hp → Prop, (∀ H', Nx H' → ∃ m', m' < m ∧ W (i + 1) m' H') ∧ ∀ x H', (RZ.ItzT K a b).yld i H x H' → g x (wipe σ vs) H' fun σ2 H2 => wipe σ2 vs = wipe σ vs ∧ tt σ2 H2 fun b H3 =>
        if b = true then te σ2 H3 fun y H4 => ∃ acc, H4 D = some (.lst acc) ∧ acc.length < sizeLine ∧ Nx (upd H4 D (.lst (acc ++ [y]))) else Nx H3) := by
  refine ⟨fun i m H => m = xs.length - i ∧ i ≤ xs.length ∧ Pv i H, ⟨xs.length, by simp, Nat.zero_le _, h0⟩, ?_⟩
  rintro i m H ⟨rfl, hi, p⟩
  obtain ⟨q1, q2⟩ := hq i H p
  by_cases hlt : i < xs.length
  · refine .inr ⟨⟨xs, ys, xs[i], ys[i]'(by omega), q1, q2, by simp [hlt], by simp [← hl, hlt]⟩, Pv (i + 1), fun H' p' => ⟨xs.length - (i + 1), by omega, rfl, hlt, p'⟩, fun v H' y => ?_⟩
    obtain ⟨T, x, y', rfl, hT, rfl, hx, hy⟩ := y
    exact hs i x y' T H (hx xs q1) (hy ys q2) p hT
  · have e : i = xs.length := by omega
    subst e
    exact .inl ⟨⟨xs, ys, q1, q2, .inl (Nat.le_refl _)⟩, hd H p⟩
def spSame (K : PySem.W.Frag) (n : Nat) : Sp := fun vs H Q _ => ∃ (x y : V) (d : PyData), vs = [x, y] ∧ Deep n d ∧ Dp K H x d ∧ Dp K H y d ∧ ∀ H', Same H H' → Q (.bl true) H'
theorem kit2 {K : PySem.W.Frag} {t : String} {r1 r2 : Bool} (h1 : kitB t "tuple" = some r1) (h2 : kitB t "list" = some r2) : PySem.W.kitAny K (.type t) [.type "tuple", .type "list"] = some (r1 || r2) := by
  refine kitAny_cons (kit_ty h1) (fun e => ?_) (fun e => by rw [e]; rfl)
  refine kitAny_cons (kit_ty h2) (fun e' => ?_) (fun e' => by rw [e, e']; rfl)
  rw [e, e']
  exact kitAny_nil
theorem SqT.same {K : PySem.W.Frag} {H H' : Hp} {a : Addr} {xs : List V} (e : Same H H') (h : SqT K H a xs) : SqT K H' a xs := by
  rcases h with (h | ⟨o, h⟩) | h
  · exact .inl (.inl (e _ _ h))
  · exact .inl (.inr ⟨o, e _ _ h⟩)
  · exact .inr h
section
variable {P : Program} {w : World} {K : PySem.W.Frag} {mg : Str → Option Value} {base : Heap}
def nSame : List Str := ["_law_found", "_law_due", "_law_one", "_law_other"]
theorem scSame : FnScope nSame ["_law_found", "_law_due"] (defScope sSame) := ⟨rfl, rfl, rfl, by decide +kernel, rfl, by decide +kernel, by decide +kernel⟩
theorem ok_same {f : Addr} {fd : FuncData} (S : Std mg) (D : Df K mg "_law_same" sSame f fd ["_law_found", "_law_due"]) : ∀ n, FnOk P w K mg base CX0 (n + 1) f fd ["_law_found", "_law_due"] (spSame K n)
  | 0 => D.F.ok scSame (fun vs H Q E h => by obtain ⟨x, y, d, _, h, _⟩ := h; exact h.elim) (fun cdv A outer s H vs Q E hr h => by obtain ⟨x, y, d, _, h, _⟩ := h; exact h.elim)
  | n + 1 => by
    have G := ok_same S D n
    refine D.F.ok scSame (fun vs H Q E h => ?_) (fun cdv A outer s H vs Q E hr h => ?_)
    · obtain ⟨x, y, d, rfl, _⟩ := h
      rfl
    · obtain ⟨x, y, d, rfl, hd, hx, hy, q⟩ := h
      have tx := TyX.of_dp hx
      have ty := TyX.of_dp hy
      refine ⟨_, pss_cons (ps_if (pt_val (pe_callB call_isiT (by rfl) S.isi (by decide +kernel) (pa_cons (pv 1) (pa_cons (pe_tup (pa_cons (pe_bltn (v := .ty "tuple") (by rfl) S.tuple (by decide +kernel) rfl) (pa_cons (pe_bltn (v := .ty "list") (by rfl) S.list (by decide +kernel) rfl) pa_nil))) pa_nil))))
        (pss_cons (ps_if (PW.pt (pw_or (pt_cmpR op_ne (pe_callB call_isi (by rfl) S.isi (by decide +kernel) (pa_cons (pv 0) (pa_cons (pe_bltn (v := .ty "tuple") (by rfl) S.tuple (by decide +kernel) rfl) pa_nil))) (pe_callB call_isi (by rfl) S.isi (by decide +kernel) (pa_cons (pv 1) (pa_cons (pe_bltn (v := .ty "tuple") (by rfl) S.tuple (by decide +kernel) rfl) pa_nil))) (nomark _))
            (pw_or1 (pt_cmpR op_ne (pe_callB call_isi (by rfl) S.isi (by decide +kernel) (pa_cons (pv 0) (pa_cons (pe_bltn (v := .ty "list") (by rfl) S.list (by decide +kernel) rfl) pa_nil))) (pe_callB call_isi (by rfl) S.isi (by decide +kernel) (pa_cons (pv 1) (pa_cons (pe_bltn (v := .ty "list") (by rfl) S.list (by decide +kernel) rfl) pa_nil))) (nomark _)))))
          (pss_one (ps_ret pe_bl)) pss_nil)
        (pss_one (ps_ret (pe_and (pe_cmpR op_eq (pe_callB call_len (by rfl) S.len PySem.boot_len (pa_cons (pv 0) pa_nil)) (pe_callB call_len (by rfl) S.len PySem.boot_len (pa_cons (pv 1) pa_nil)) (nomark _))
          (pe_one (pe_callB (cr_all rfl) (by rfl) S.all (by decide +kernel) (pa_cons (pe_lc (own := [("_law_one", 2), ("_law_other", 3)]) (g := gTup K 2 (gCons (gName 2) (gCons (gName 3) gNil))) (tt := tYes) rfl scSame.nd
            (RZ.pi_zipA (by rfl) S.zip (pa_cons (pv 0) (pa_cons (pv 1) pa_nil))) (blkOk_by (N := nSame) (sc := defScope sSame) (by decide +kernel))
            (fun _ _ _ _ _ => pg_tup rfl (pgs_cons (pg_name (i := 2) scSame.nd rfl (Or.inl rfl)) (pgs_cons (pg_name (i := 3) scSame.nd rfl (Or.inl rfl)) pgs_nil))) (fun _ _ _ _ _ => pts_nil)
            (fun _ _ _ _ _ => pe_call G hr rfl D.g D.F.kp D.b .nil pass0 (pa_cons (pv 2) (pa_cons (pv 3) pa_nil)))) pa_nil))))))) pss_nil)
        (pss_one (ps_ret (pe_and (pe_cmpR op_eq (pe_callB call_isi (by rfl) S.isi (by decide +kernel) (pa_cons (pv 0) (pa_cons (pe_bltn (v := .ty "bool") (by rfl) S.bool (by decide +kernel) rfl) pa_nil))) (pe_callB call_isi (by rfl) S.isi (by decide +kernel) (pa_cons (pv 1) (pa_cons (pe_bltn (v := .ty "bool") (by rfl) S.bool (by decide +kernel) rfl) pa_nil))) (nomark _))
          (pe_one (pe_cmpR op_eq (pv 0) (pv 1) (nomark _)))))), ?_⟩
      refine ⟨_, rfl, (by show 2 ≤ sizeLine; decide), fun p hp => ?_⟩
      have s1 : Same H (upd H p (.tup [.ty "tuple", .ty "list"])) := same_new hp
      have tx1 := TyX.of_dp (Dp.same s1 hx)
      have ty1 := TyX.of_dp (Dp.same s1 hy)
      have kp := q _ s1
      have key : (∃ bb, x = y ∧ kitB (tyD d) "tuple" = some false ∧ kitB (tyD d) "list" = some false ∧ kitB (tyD d) "bool" = some bb ∧ scal x y = true) ∨
          (∃ (a b : Addr) (xs ys : List V) (ds : List PyData) (t l : Bool), x = .ref a ∧ y = .ref b ∧ ds.length ≤ 1000 ∧ (∀ d, d ∈ ds → Deep n d) ∧ DpAll K H xs ds ∧ DpAll K H ys ds ∧ kitB (tyD d) "tuple" = some t ∧ kitB (tyD d) "list" = some l ∧ (t || l) = true ∧
            ((SqL K H a xs ∧ SqL K H b ys) ∨ (SqT K H a xs ∧ SqT K H b ys))) := by
        cases hx with
        | non =>
          cases hy
          exact .inl ⟨false, rfl, by decide +kernel, by decide +kernel, by decide +kernel, rfl⟩
        | bl b =>
          cases hy
          exact .inl ⟨true, rfl, (show kitB "bool" "tuple" = some false by decide +kernel), (show kitB "bool" "list" = some false by decide +kernel), (show kitB "bool" "bool" = some true by decide +kernel), rfl⟩
        | int i =>
          cases hy
          exact .inl ⟨false, rfl, (show kitB "int" "tuple" = some false by decide +kernel), (show kitB "int" "list" = some false by decide +kernel), (show kitB "int" "bool" = some false by decide +kernel), rfl⟩
        | str z =>
          cases hy
          exact .inl ⟨false, rfl, (show kitB "str" "tuple" = some false by decide +kernel), (show kitB "str" "list" = some false by decide +kernel), (show kitB "str" "bool" = some false by decide +kernel), rfl⟩
        | lst h a =>
          cases hy with
          | lst h' a' => exact .inr ⟨_, _, _, _, _, false, true, rfl, rfl, hd.1, hd.2, a, a', (show kitB "list" "tuple" = some false by decide +kernel), (show kitB "list" "list" = some true by decide +kernel), rfl, .inl ⟨h, h'⟩⟩
        | tup h a =>
          cases hy with
          | tup h' a' => exact .inr ⟨_, _, _, _, _, true, false, rfl, rfl, hd.1, hd.2, a, a', (show kitB "tuple" "tuple" = some true by decide +kernel), (show kitB "tuple" "list" = some false by decide +kernel), rfl, .inr ⟨h, h'⟩⟩
      rcases key with ⟨bb, exy, k1, k2, k3, hs⟩ | ⟨a, b, xs, ys, ds, t, l, rfl, rfl, hlen, hdeep, ax, ay, k1, k2, k3, hq⟩
      · refine ⟨y, p, _, _, _, _, rfl, upd_same, .cons (.ty _) (.cons (.ty _) .nil), ty1, kit2 k1 k2, _, rfl, iteF ?_⟩
        refine ⟨_, rfl, _, _, _, _, bb, rfl, .ty "bool", tx1, kit_ty k3, _, rfl, _, _, _, _, bb, rfl, .ty "bool", ty1, kit_ty k3, rfl, _, rfl, ?_⟩
        rw [decide_eq_true (show V.bl bb = V.bl bb from rfl)]
        refine iteT ⟨_, rfl, _, rfl, hs, ?_⟩
        rw [decide_eq_true exy]
        exact kp
      · refine ⟨_, p, _, _, _, _, rfl, upd_same, .cons (.ty _) (.cons (.ty _) .nil), ty1, kit2 k1 k2, _, rfl, ?_⟩
        rw [k3]
        refine iteT ?_
        refine ⟨_, rfl, _, _, _, _, t, rfl, .ty "tuple", tx1, kit_ty k1, _, rfl, _, _, _, _, t, rfl, .ty "tuple", ty1, kit_ty k1, rfl, _, rfl, ?_⟩
        rw [decide_eq_true (show V.bl t = V.bl t from rfl)]
        refine iteF ?_
        refine ⟨_, rfl, _, _, _, _, l, rfl, .ty "list", tx1, kit_ty k2, _, rfl, _, _, _, _, l, rfl, .ty "list", ty1, kit_ty k2, rfl, _, rfl, ?_⟩
        rw [decide_eq_true (show V.bl l = V.bl l from rfl)]
        refine iteF ?_
        have lx := DpAll.len ax
        have ly := DpAll.len ay
        have hxy : xs.length = ys.length := by omega
        have l1 : LenV K (V.ref a) (upd H p (.tup [.ty "tuple", .ty "list"])) xs.length := by
          rcases hq with ⟨h, _⟩ | ⟨h, _⟩
          · exact .inl ⟨_, s1.seq h, rfl⟩
          · exact .inr ⟨_, SqT.same s1 h, rfl⟩
        have l2 : LenV K (V.ref b) (upd H p (.tup [.ty "tuple", .ty "list"])) ys.length := by
          rcases hq with ⟨_, h⟩ | ⟨_, h⟩
          · exact .inl ⟨_, s1.seq h, rfl⟩
          · exact .inr ⟨_, SqT.same s1 h, rfl⟩
        refine ⟨_, rfl, _, _, rfl, l1, _, rfl, _, _, rfl, l2, rfl, _, rfl, ?_⟩
        rw [decide_eq_true (show V.int xs.length = V.int ys.length by rw [hxy])]
        refine iteT ?_
        -- all([..])
        have inv0 : ∀ D : Addr, (upd H p (.tup [.ty "tuple", .ty "list"])) D = none → Keep D H (upd (upd H p (.tup [.ty "tuple", .ty "list"])) D (.lst [])) := fun D hD => (Keep.same s1).trans (Keep.new hD)
        have turn : ∀ (D : Addr), H D = none → ∀ (i : Nat) (x y : V) (T : Addr) (H4 : Hp), xs[i]? = some x → ys[i]? = some y → (Keep D H H4 ∧ H4 D = some (.lst (List.replicate i (V.bl true)))) → H4 T = none →
            spSame K n [x, y] (upd H4 T (.tup [x, y])) (fun y H5 => ∃ acc, H5 D = some (.lst acc) ∧ acc.length < sizeLine ∧ (Keep D H (upd H5 D (.lst (acc ++ [y]))) ∧ (upd H5 D (.lst (acc ++ [y]))) D = some (.lst (List.replicate (i + 1) (V.bl true))))) E0 := by
          rintro D hD i x y T H4 hx hy ⟨k4, d4⟩ hT
          have sH : Same H H4 := fun b o e => k4 b o (ne_of_none e hD) e
          obtain ⟨d1, e1, q1⟩ := DpAll.get ax i x hx
          obtain ⟨d2, e2, q2⟩ := DpAll.get ay i y hy
          rw [e1] at e2
          cases e2
          have s4 : Same H (upd H4 T (.tup [x, y])) := sH.trans (same_new hT)
          refine ⟨x, y, d1, rfl, hdeep d1 (List.mem_of_getElem? e1), Dp.same s4 q1, Dp.same s4 q2, fun H5 s5 => ?_⟩
          have hi : i < ds.length := (List.getElem?_eq_some_iff.mp e1).1
          refine ⟨_, s5 _ _ (same_new hT _ _ d4), by rw [List.length_replicate]; exact small1000 (by omega), fun b o n e => ?_, ?_⟩
          · rw [upd_ne n]
            exact s5 _ _ (s4 b o e)
          · rw [upd_same, List.replicate_succ']
        have fin : ∀ (D : Addr), H D = none → ∀ H4 : Hp, (Keep D H H4 ∧ H4 D = some (.lst (List.replicate xs.length (V.bl true)))) → ∃ (a' : Addr) (bs : List Bool), [V.ref D] = [V.ref a'] ∧ SqL K H4 a' (bs.map V.bl) ∧ Q (.bl (bs.all id)) H4 := by
          rintro D hD H4 ⟨k4, d4⟩
          have sH : Same H H4 := fun b o e => k4 b o (ne_of_none e hD) e
          refine ⟨D, List.replicate xs.length true, rfl, SqL.of (by rw [List.map_replicate]; exact d4), ?_⟩
          have e : (List.replicate xs.length true).all id = true := by
            rw [List.all_eq_true]
            intro b hb
            exact (List.mem_replicate.mp hb).2
          rw [e]
          exact q _ sH
        refine ⟨_, rfl, _, rfl, a, b, xs, ys, rfl, ?_⟩
        rcases hq with ⟨h1, h2⟩ | ⟨h1, h2⟩
        · refine .inl ⟨s1.seq h1, s1.seq h2, fun D hD => lc_zipL hxy (fun i H4 => Keep D H H4 ∧ H4 D = some (.lst (List.replicate i (V.bl true)))) ⟨inv0 D hD, upd_same⟩
            (fun i H4 ⟨k4, _⟩ => ?_) (fun i x y T H4 hx hy pv4 hT => ?_) (fin D (s1.free hD))⟩
          · have sH : Same H H4 := fun b o e => k4 b o (ne_of_none e (s1.free hD)) e
            exact ⟨sH.seq h1, sH.seq h2⟩
          · exact ⟨T, _, rfl, SqT.of upd_same, rfl, _, _, rfl, _, _, rfl, rfl, rfl, _, rfl, _, rfl, turn D (s1.free hD) i x y T H4 hx hy pv4 hT⟩
        · refine .inr ⟨SqT.same s1 h1, SqT.same s1 h2, fun D hD => lc_zipT hxy (fun i H4 => Keep D H H4 ∧ H4 D = some (.lst (List.replicate i (V.bl true)))) ⟨inv0 D hD, upd_same⟩
            (fun i H4 ⟨k4, _⟩ => ?_) (fun i x y T H4 hx hy pv4 hT => ?_) (fin D (s1.free hD))⟩
          · have sH : Same H H4 := fun b o e => k4 b o (ne_of_none e (s1.free hD)) e
            exact ⟨SqT.same sH h1, SqT.same sH h2⟩
          · exact ⟨T, _, rfl, SqT.of upd_same, rfl, _, _, rfl, _, _, rfl, rfl, rfl, _, rfl, _, rfl, turn D (s1.free hD) i x y T H4 hx hy pv4 hT⟩
end
end LK

namespace LK
open PySem PySem.Spec PyProof.Rows L2
/-! ### the texts of terms -/
def Ch (c : Nat) : Prop := 32 ≤ c ∧ c < 127 ∧ c ≠ 60 ∧ c ≠ 61
instance (c : Nat) : Decidable (Ch c) := by unfold Ch; infer_instance
def AllCh (z : Str) : Prop := ∀ c, c ∈ TL.tl z → Ch c
def Hd (z : Str) : Prop := ∃ c r, TL.tl z = c :: r ∧ c ≠ 32
def Lst (z : Str) : Prop := ∃ r c, TL.tl z = r ++ [c] ∧ c ≠ 32
structure Side (z : Str) : Prop where
  all : AllCh z
  hd : Hd z
  lst : Lst z
theorem AllCh.app {x y : Str} (a : AllCh x) (b : AllCh y) : AllCh (x ++ y) := fun c h => by
  rw [TL.tl_append] at h
  rcases List.mem_append.mp h with h | h
  · exact a c h
  · exact b c h
theorem Hd.app {x y : Str} (a : Hd x) : Hd (x ++ y) := by
  obtain ⟨c, r, e, n⟩ := a
  exact ⟨c, r ++ TL.tl y, by rw [TL.tl_append, e]; rfl, n⟩
theorem Lst.app {x y : Str} (a : Lst y) : Lst (x ++ y) := by
  obtain ⟨r, c, e, n⟩ := a
  exact ⟨TL.tl x ++ r, c, by rw [TL.tl_append, e, List.append_assoc], n⟩
theorem len_app (x y : Str) : (x ++ y).length = x.length + y.length := by
  rw [TL.len_tl, TL.tl_append, List.length_append, ← TL.len_tl, ← TL.len_tl]
theorem NameOk.ne {z : Str} (h : NameOk z) : TL.tl z ≠ [] := fun e => by
  have := h.pos
  rw [TL.len_tl, e] at this
  exact absurd this (Nat.lt_irrefl _)
theorem NameOk.side {z : Str} (h : NameOk z) : Side z := by
  refine ⟨fun c hc => ?_, ?_, ?_⟩
  · obtain ⟨a, b⟩ := h.low c hc
    exact ⟨by omega, by omega, by omega, by omega⟩
  · obtain ⟨c, r, e⟩ := List.exists_cons_of_ne_nil h.ne
    have := h.low c (by rw [e]; exact List.mem_cons_self ..)
    exact ⟨c, r, e, by omega⟩
  · have e := List.dropLast_concat_getLast h.ne
    have := h.low _ (List.getLast_mem h.ne)
    exact ⟨_, _, e.symm, by omega⟩
def numS (n : Nat) : Str := Str.ofString (toString ((n : Nat) : Int))
theorem numS_all (n : Nat) : AllCh (numS n) := fun c h => by
  unfold numS at h
  rw [TL.tl_num] at h
  by_cases hc : c < 48 ∨ 57 < c
  · exact absurd h (TL.numL_free hc)
  · exact ⟨by omega, by omega, by omega, by omega⟩
theorem numS_len {n : Nat} (h : n < 100) : (numS n).length ≤ 2 := by
  unfold numS
  rw [TL.len_tl, TL.tl_num]
  exact TL.numL_len (k := 2) (by decide) (by omega)
theorem joinL_all {S : List Nat} {p : Nat → Prop} (hS : ∀ c, c ∈ S → p c) : ∀ {ps : List (List Nat)}, (∀ l, l ∈ ps → ∀ c, c ∈ l → p c) → ∀ c, c ∈ TL.joinL S ps → p c
  | [], _, c, h => by cases h
  | [l], hp, c, h => hp l (List.mem_singleton.mpr rfl) c h
  | l :: q :: r, hp, c, h => by
    rcases List.mem_append.mp (show c ∈ l ++ (S ++ TL.joinL S (q :: r)) from h) with h | h
    · exact hp l (List.mem_cons_self ..) c h
    · rcases List.mem_append.mp h with h | h
      · exact hS c h
      · exact joinL_all hS (fun l' h' => hp l' (List.mem_cons_of_mem _ h')) c h
theorem joinL_len {S : List Nat} {k : Nat} : ∀ {ps : List (List Nat)}, (∀ l, l ∈ ps → l.length ≤ k) → (TL.joinL S ps).length ≤ ps.length * (k + S.length)
  | [], _ => by simp [TL.joinL]
  | [l], hp => by
    have := hp l (List.mem_singleton.mpr rfl)
    show l.length ≤ 1 * (k + S.length)
    omega
  | l :: q :: r, hp => by
    have h1 := hp l (List.mem_cons_self ..)
    have h2 := joinL_len (S := S) (k := k) (ps := q :: r) fun l' h' => hp l' (List.mem_cons_of_mem _ h')
    show (l ++ (S ++ TL.joinL S (q :: r))).length ≤ _
    rw [List.length_append, List.length_append, List.length_cons (a := l), Nat.add_mul]
    omega
theorem join_all {S : Str} (hS : AllCh S) {ps : List Str} (h : ∀ p, p ∈ ps → AllCh p) : AllCh (Txt.join S ps) := fun c hc => by
  rw [TL.join_eq, TL.tl_join] at hc
  refine joinL_all (p := Ch) hS (fun l hl => ?_) c hc
  obtain ⟨z, hz, rfl⟩ := List.mem_map.mp hl
  exact h z hz
theorem join_len {S : Str} {k : Nat} {ps : List Str} (h : ∀ p, p ∈ ps → p.length ≤ k) : (Txt.join S ps).length ≤ ps.length * (k + S.length) := by
  rw [TL.len_tl, TL.join_eq, TL.tl_join]
  have := joinL_len (S := TL.tl S) (k := k) (ps := ps.map TL.tl) fun l hl => by
    obtain ⟨z, hz, rfl⟩ := List.mem_map.mp hl
    rw [← TL.len_tl]
    exact h z hz
  rw [List.length_map, ← TL.len_tl] at this
  exact this
theorem sum_le {k : Nat} : ∀ {ps : List Str}, (∀ p, p ∈ ps → p.length ≤ k) → (ps.map (·.length)).sum ≤ ps.length * k
  | [], _ => by simp
  | p :: r, h => by
    have h1 := h p (List.mem_cons_self ..)
    have h2 := sum_le (k := k) (ps := r) fun q hq => h q (List.mem_cons_of_mem _ hq)
    rw [List.map_cons, List.sum_cons, List.length_cons, Nat.add_mul]
    omega
/-- how long a term may be, so deep -/
def tb : Nat → Nat
  | 0 => 20
  | n + 1 => 2 * tb n + 12
theorem tb_mono (n : Nat) : 20 ≤ tb n := by
  induction n with
  | zero => exact Nat.le_refl _
  | succ n ih => show 20 ≤ 2 * tb n + 12; omega
/-- a list of names stands at a -/
structure Names (K : PySem.W.Frag) (H : Hp) (l a : Addr) (ns : List Str) : Prop where
  sq : H a = some (.lst (ns.map V.str))
  ne : a ≠ l
  pos : 0 < ns.length
  len : ns.length ≤ 20
  ok : ∀ z, z ∈ ns → NameOk z
theorem Names.keep {K : PySem.W.Frag} {H H' : Hp} {l a : Addr} {ns : List Str} (h : Names K H l a ns) (k : Keep l H H') : Names K H' l a ns := ⟨k _ _ h.ne h.sq, h.ne, h.pos, h.len, h.ok⟩
def spTerm (K : PySem.W.Frag) (n : Nat) : Sp := fun vs H Q _ => ∃ (l a : Addr) (ns : List Str) (dp : Nat), vs = [.ref l, .ref a, .int dp] ∧ dp < n ∧ dp ≤ 8 ∧ Feed H l ∧ Names K H l a ns ∧
  ∀ z H', Side z → z.length ≤ tb dp → Feed H' l → Keep l H H' → Q (.str z) H'
section
variable {P : Program} {w : World} {K : PySem.W.Frag} {mg : Str → Option Value} {base : Heap}
def nTerm : List Str := ["_law_feed_here", "_law_names", "_law_deep", "_law_way", "_law_name", "_law_parts", "_law_k"]
theorem scTerm : FnScope nTerm ["_law_feed_here", "_law_names", "_law_deep"] (defScope sTerm) := ⟨rfl, rfl, rfl, by decide +kernel, rfl, by decide +kernel, by decide +kernel⟩
/-- one of the names, picked -/
theorem pick_name {H : Hp} {l a : Addr} {ns : List Str} {Q : VK} (hf : Feed H l) (hn : Names K H l a ns) (q : ∀ z H', NameOk z → Feed H' l → Keep l H H' → Q (.str z) H') : spPick K [.ref l, .ref a] H Q E0 :=
  ⟨l, .ref a, (fun v => ∃ z, v = .str z ∧ NameOk z), rfl, hf, .inr ⟨a, ns.map V.str, rfl, hn.ne, SqL.of hn.sq, by rw [List.length_map]; exact hn.pos, by rw [List.length_map]; have := hn.len; omega, fun v hv => by
    obtain ⟨z, hz, rfl⟩ := List.mem_map.mp hv
    exact ⟨z, rfl, hn.ok z hz⟩⟩, fun v H' ⟨z, e, hz⟩ hf' k => by rw [e]; exact q z H' hz hf' k⟩
theorem tb8 : ∀ n, n ≤ 8 → tb n ≤ 20000 := by decide +kernel
theorem ok_term {f fD fP : Addr} {fd fdD fdP : FuncData} (S : Std mg) (T : Df K mg "_law_term" sTerm f fd ["_law_feed_here", "_law_names", "_law_deep"]) (D : Df K mg "_law_draw" sDraw fD fdD ["_law_feed_here", "_law_many"])
    (PK : Df K mg "_law_pick" sPick fP fdP ["_law_feed_here", "_law_items"]) : ∀ n, FnOk P w K mg base CX0 (n + 3) f fd ["_law_feed_here", "_law_names", "_law_deep"] (spTerm K n)
  | 0 => T.F.ok scTerm (fun vs H Q E h => by obtain ⟨_, _, _, _, _, h, _⟩ := h; exact absurd h (Nat.not_lt_zero _)) (fun cdv A outer s H vs Q E hr h => by obtain ⟨_, _, _, _, _, h, _⟩ := h; exact absurd h (Nat.not_lt_zero _))
  | n + 1 => by
    have G := ok_term S T D PK n
    have GD : FnOk P w K mg base CX0 1 fD fdD ["_law_feed_here", "_law_many"] spDraw := ok_draw S D.F
    have GP : FnOk P w K mg base CX0 2 fP fdP ["_law_feed_here", "_law_items"] (spPick K) := ok_pick S PK.F D
    refine T.F.ok scTerm (fun vs H Q E h => ?_) (fun cdv A outer s H vs Q E hr h => ?_)
    · obtain ⟨_, _, _, _, rfl, _⟩ := h
      rfl
    · obtain ⟨l, a, ns, dp, rfl, hdp, hd8, hf, hn, q⟩ := h
      have hr1 : Room 1 _ := hr.mono (by omega)
      have hr2 : Room 2 _ := hr.mono (by omega)
      have hn' : Room (n + 3) _ := hr.mono (by omega)
      refine ⟨_, pss_cons (ps_set (i := 3) scTerm.nd rfl (Or.inl rfl) (pe_call GD hr1 rfl D.g D.F.kp D.b .nil pass0 (pa_cons (pv 0) (pa_cons pe_int pa_nil))))
        (pss_cons (ps_set (i := 4) scTerm.nd rfl (Or.inl rfl) (pe_call GP hr2 rfl PK.g PK.F.kp PK.b .nil pass0 (pa_cons (pv 0) (pa_cons (pv 1) pa_nil))))
        (pss_cons (ps_if (pt_cmpR op_eq (pv 3) pe_int (nomark _)) (pss_one (ps_ret (pe_op op_add_str (pv 4) pe_str))) pss_nil)
        (pss_cons (ps_if (pt_cmpR op_eq (pv 3) pe_int (nomark _)) (pss_one (ps_ret (pe_op op_add_str (pe_op op_add_str (pe_op op_add_str (pe_op op_add_str (pe_op op_add_str (pe_op op_add_str pe_str
            (pe_callTy call_str_int (by rfl) S.str (by decide +kernel) (pa_cons (pe_call GD hr1 rfl D.g D.F.kp D.b .nil pass0 (pa_cons (pv 0) (pa_cons pe_int pa_nil))) pa_nil))) pe_str)
            (pe_callTy call_str_int (by rfl) S.str (by decide +kernel) (pa_cons (pe_call GD hr1 rfl D.g D.F.kp D.b .nil pass0 (pa_cons (pv 0) (pa_cons pe_int pa_nil))) pa_nil))) pe_str) (pv 4)) pe_str))) pss_nil)
        (pss_cons (ps_if (PW.pt (pw_or (pt_cmpR op_eq (pv 3) pe_int (nomark _)) (pw_or1 (pt_cmpR op_eq (pv 2) pe_int (nomark _))))) (pss_one (ps_ret (pv 4))) pss_nil)
        (pss_cons (ps_setLc (i := 5) (own := [("_law_k", 6)]) (g := gName 6) (tt := tYes) rfl scTerm.nd rfl rfl (sw_true rfl rfl rfl (by decide +kernel))
            (pi_range1 (by rfl) S.range (pa_cons (pe_op op_add pe_int (pe_call GD hr1 rfl D.g D.F.kp D.b .nil pass0 (pa_cons (pv 0) (pa_cons pe_int pa_nil)))) pa_nil))
            (blkOk_by (N := nTerm) (sc := defScope sTerm) (by decide +kernel)) (fun _ _ _ _ _ => pg_name (i := 6) scTerm.nd rfl (Or.inl rfl)) (fun _ _ _ _ _ => pts_nil)
            (fun _ _ _ _ _ => pe_call G hn' rfl T.g T.F.kp T.b .nil pass0 (pa_cons (pv 0) (pa_cons (pv 1) (pa_cons (pe_op op_sub (pv 2) pe_int) pa_nil)))))
        (pss_one (ps_ret (pe_op op_add_str (pe_op op_add_str (pe_op op_add_str (pe_call GP hr2 rfl PK.g PK.F.kp PK.b .nil pass0 (pa_cons (pv 0) (pa_cons (pv 1) pa_nil))) pe_str)
            (pe_join pe_str (pv 5))) pe_str)))))))), ?_⟩
      refine ⟨_, rfl, l, 5, rfl, hf, by decide, by decide, fun way H1 w0 w1 hf1 k1 => ?_⟩
      refine ⟨_, rfl, _, rfl, pick_name hf1 (hn.keep k1) fun nm H2 nok hf2 k2 => ?_⟩
      have k02 := k1.trans k2
      have sl : (4 : Nat) + 100 ≤ sizeLine := by decide
      have hln := nok.len
      have hnil := nok.side
      refine ⟨_, rfl, rfl, _, rfl, ite2 (fun c1 => ?_) (fun c1 => ?_)⟩
      · refine ⟨_, rfl, _, _, rfl, rfl, (by show nm.length + 1 ≤ sizeLine; omega), q _ _ ⟨hnil.all.app (by unfold AllCh; decide +kernel), hnil.hd.app, Lst.app ⟨[], 39, by decide +kernel, by decide⟩⟩ ?_ hf2 k02⟩
        have := tb_mono dp
        rw [len_app]
        show nm.length + 1 ≤ _
        omega
      refine ⟨_, rfl, rfl, _, rfl, ite2 (fun c2 => ?_) (fun c2 => ?_)⟩
      · refine ⟨_, rfl, l, 2, rfl, hf2, by decide, by decide, fun u H3 u0 u1 hf3 k3 => ?_⟩
        obtain ⟨un, rfl⟩ : ∃ un : Nat, u = (un : Int) := ⟨u.toNat, by omega⟩
        have lu : (numS un).length ≤ 2 := numS_len (by omega)
        refine ⟨(un : Int), rfl, ?_, _, _, rfl, rfl, ?_, _, _, rfl, rfl, ?_, _, rfl, l, 12, rfl, hf3, by decide, by decide, fun v H4 v0 v1 hf4 k4 => ?_⟩
        · have : un < 2 := by omega
          have h : ∀ m : Nat, m < 2 → ((m : Int)).natAbs.log2 < 1920 := by decide +kernel
          exact h un this
        · show (Str.ofString "end(").length + (numS un).length ≤ sizeLine
          have : (Str.ofString "end(").length = 4 := by decide +kernel
          omega
        · show (Str.ofString "end(" ++ numS un).length + (Str.ofString ", ").length ≤ sizeLine
          have : (Str.ofString "end(").length = 4 := by decide +kernel
          have : (Str.ofString ", ").length = 2 := by decide +kernel
          rw [len_app]
          omega
        obtain ⟨vn, rfl⟩ : ∃ vn : Nat, v = (vn : Int) := ⟨v.toNat, by omega⟩
        have lv : (numS vn).length ≤ 2 := numS_len (by omega)
        have e1 : (Str.ofString "end(").length = 4 := by decide +kernel
        have e2 : (Str.ofString ", ").length = 2 := by decide +kernel
        have e3 : (Str.ofString ")").length = 1 := by decide +kernel
        refine ⟨(vn : Int), rfl, ?_, _, _, rfl, rfl, ?_, _, _, rfl, rfl, ?_, _, rfl, _, _, rfl, rfl, ?_, _, _, rfl, rfl, ?_, ?_⟩
        · have : vn < 12 := by omega
          have h : ∀ m : Nat, m < 12 → ((m : Int)).natAbs.log2 < 1920 := by decide +kernel
          exact h vn this
        · show (Str.ofString "end(" ++ numS un ++ Str.ofString ", ").length + (numS vn).length ≤ sizeLine
          rw [len_app, len_app]
          omega
        · show (Str.ofString "end(" ++ numS un ++ Str.ofString ", " ++ numS vn).length + (Str.ofString ", ").length ≤ sizeLine
          rw [len_app, len_app, len_app]
          omega
        · show (Str.ofString "end(" ++ numS un ++ Str.ofString ", " ++ numS vn ++ Str.ofString ", ").length + nm.length ≤ sizeLine
          rw [len_app, len_app, len_app, len_app]
          omega
        · show (Str.ofString "end(" ++ numS un ++ Str.ofString ", " ++ numS vn ++ Str.ofString ", " ++ nm).length + (Str.ofString ")").length ≤ sizeLine
          rw [len_app, len_app, len_app, len_app, len_app]
          omega
        · show Q (.str (Str.ofString "end(" ++ numS un ++ Str.ofString ", " ++ numS vn ++ Str.ofString ", " ++ nm ++ Str.ofString ")")) H4
          have a1 : AllCh (Str.ofString "end(") := by unfold AllCh; decide +kernel
          have a2 : AllCh (Str.ofString ", ") := by unfold AllCh; decide +kernel
          have a3 : AllCh (Str.ofString ")") := by unfold AllCh; decide +kernel
          refine q _ _ ⟨((((((a1.app (numS_all _)).app a2).app (numS_all _)).app a2).app hnil.all).app a3), Hd.app (Hd.app (Hd.app (Hd.app (Hd.app (Hd.app ⟨101, [110, 100, 40], by decide +kernel, by decide⟩))))), Lst.app ⟨[], 41, by decide +kernel, by decide⟩⟩ ?_ hf4 ((k02.trans k3).trans k4)
          have := tb_mono dp
          rw [len_app, len_app, len_app, len_app, len_app, len_app]
          omega
      refine ⟨_, rfl, rfl, _, rfl, ite2 (fun c3 => ?_) (fun c3 => ?_)⟩
      · refine iteT ⟨_, rfl, q _ _ hnil ?_ hf2 k02⟩
        have := tb_mono dp
        omega
      refine ⟨_, rfl, rfl, _, rfl, ?_⟩
      refine ite2 (fun c4 => ?_) (fun c4 => ?_)
      · refine ⟨_, rfl, q _ _ hnil ?_ hf2 k02⟩
        have := tb_mono dp
        omega
      have dpos : 0 < dp := by
        rcases Nat.eq_zero_or_pos dp with e | e
        · exact absurd (decide_eq_true (by rw [e]; rfl)) c4
        · exact e
      obtain ⟨m, rfl⟩ : ∃ m, dp = m + 1 := ⟨dp - 1, by omega⟩
      refine ⟨_, rfl, l, 2, rfl, hf2, by decide, by decide, fun e H3 u0 u1 hf3 k3 => ⟨_, _, rfl, rfl, 1 + e, rfl, by omega, by omega, fun C hC => ?_⟩⟩
      have hlC := hf3.ne hC
      have haC : a ≠ C := ne_of_none ((hn.keep (k02.trans k3)).sq) hC
      have k03 := k02.trans k3
      refine lc_range (lo := 0) (n := (1 + e).toNat) (fun i H4 => Feed H4 l ∧ Keep l H H4 ∧ ∃ ys : List Str, ys.length = i ∧ H4 C = some (.lst (ys.map V.str)) ∧ ∀ y, y ∈ ys → AllCh y ∧ y.length ≤ tb m)
        ⟨hf3.same (same_new hC), k03.trans (Keep.new hC), [], rfl, upd_same, fun y hy => by simp at hy⟩ ?_ ?_
      · rintro i H4 hi ⟨hf4, k4, ys, el, hy, hys⟩
        refine ⟨rfl, _, rfl, _, rfl, _, rfl, _, _, rfl, rfl, l, a, ns, m, by show [V.ref l, V.ref a, V.int (((m + 1 : Nat) : Int) - 1)] = _; rw [show ((m + 1 : Nat) : Int) - 1 = (m : Int) by omega], by omega, by omega, hf4, hn.keep k4, fun z H5 sz lz hf5 k5 => ?_⟩
        refine ⟨ys.map V.str, k5 _ _ hlC.symm hy, ?_, hf5.keep (m := C) Keep.put hlC, fun b o nb eb => ?_, ys ++ [z], by simp [el], by rw [upd_same]; simp, fun y hy' => ?_⟩
        · rw [List.length_map]
          exact small1000 (by omega)
        · have e3 := k03 b o nb eb
          rw [upd_ne (ne_of_none e3 hC)]
          exact k5 b o nb (k4 b o nb eb)
        · rcases List.mem_append.mp hy' with h | h
          · exact hys y h
          · have ey : y = z := by simpa using h
            rw [ey]
            exact ⟨sz.all, lz⟩
      · rintro H4 ⟨hf4, k4, ys, el, hy, hys⟩
        have hl2 : ys.length ≤ 2 := by omega
        have b8 := tb8 m (by omega)
        have hj1 := sum_le (k := tb m) fun p hp => (hys p hp).2
        have hj2 := join_len (S := Str.ofString ", ") (k := tb m) fun p hp => (hys p hp).2
        have hj3 := join_all (S := Str.ofString ", ") (by unfold AllCh; decide +kernel) fun p hp => (hys p hp).1
        have e2 : (Str.ofString ", ").length = 2 := by decide +kernel
        have e1 : (Str.ofString "(").length = 1 := by decide +kernel
        have e3 : (Str.ofString ")").length = 1 := by decide +kernel
        have sz : (16777216 : Nat) ≤ sizeLine := by decide
        refine ⟨_, rfl, _, rfl, pick_name hf4 (hn.keep k4) fun nm' H5 nok' hf5 k5 => ?_⟩
        have hln' := nok'.len
        have m1 : ys.length * tb m ≤ 2 * tb m := Nat.mul_le_mul_right _ hl2
        have m2 : ys.length * (tb m + 2) ≤ 2 * (tb m + 2) := Nat.mul_le_mul_right _ hl2
        have m3 : ys.length * (Str.ofString ", ").length ≤ 4 := by rw [e2]; omega
        rw [e2] at hj2
        refine ⟨_, _, rfl, rfl, (by show nm'.length + (Str.ofString "(").length ≤ sizeLine; omega), ⟨_, rfl⟩, _, rfl, _, _, ys, rfl, rfl, .inl (SqL.of (k5 _ _ hlC.symm hy)), by omega, _, _, rfl, rfl, ?_, _, _, rfl, rfl, ?_, ?_⟩
        · show (nm' ++ Str.ofString "(").length + (Txt.join (Str.ofString ", ") ys).length ≤ sizeLine
          rw [len_app]
          omega
        · show (nm' ++ Str.ofString "(" ++ Txt.join (Str.ofString ", ") ys).length + (Str.ofString ")").length ≤ sizeLine
          rw [len_app, len_app]
          omega
        · refine q _ _ ⟨((nok'.side.all.app (by unfold AllCh; decide +kernel)).app hj3).app (by unfold AllCh; decide +kernel), nok'.side.hd.app.app.app, Lst.app ⟨[], 41, by decide +kernel, by decide⟩⟩ ?_ hf5 (k4.trans k5)
          show (nm' ++ Str.ofString "(" ++ Txt.join (Str.ofString ", ") ys ++ Str.ofString ")").length ≤ 2 * tb m + 12
          rw [len_app, len_app, len_app]
          omega
end
end LK

namespace LK
open PySem PySem.Spec PyProof.Rows L2
/-! ### trees -/
inductive Tr where
  | leaf
  | node (l r : Str) (a b : Tr)
namespace Tr
def enc : Tr → PyData
  | leaf => .tuple []
  | node l r a b => .tuple [.str l, .str r, a.enc, b.enc]
def Ok : Tr → Prop
  | leaf => True
  | node l r a b => (Side l ∧ l.length ≤ 200) ∧ (Side r ∧ r.length ≤ 200) ∧ a.Ok ∧ b.Ok
def depth : Tr → Nat
  | leaf => 0
  | node _ _ a b => max a.depth b.depth + 1
def knots : Tr → Nat
  | leaf => 0
  | node _ _ a b => a.knots + b.knots + 1
theorem depth_knots : ∀ t : Tr, t.depth ≤ t.knots
  | leaf => Nat.le_refl _
  | node _ _ a b => by
    have h1 := depth_knots a
    have h2 := depth_knots b
    show max a.depth b.depth + 1 ≤ a.knots + b.knots + 1
    omega
theorem deep : ∀ (t : Tr) (n : Nat), t.depth + 2 ≤ n → Deep n t.enc
  | leaf, n + 1, _ => ⟨Nat.zero_le _, fun d h => by cases h⟩
  | node l r a b, 0, h => by omega
  | node l r a b, 1, h => by omega
  | node l r a b, n + 2, h => by
    have h' : max a.depth b.depth + 1 + 2 ≤ n + 2 := h
    have ha := deep a (n + 1) (by omega)
    have hb := deep b (n + 1) (by omega)
    refine ⟨by show 4 ≤ 1000; decide, fun d hd => ?_⟩
    rcases List.mem_cons.mp hd with rfl | hd
    · exact True.intro
    rcases List.mem_cons.mp hd with rfl | hd
    · exact True.intro
    rcases List.mem_cons.mp hd with rfl | hd
    · exact ha
    rcases List.mem_cons.mp hd with rfl | hd
    · exact hb
    cases hd
end Tr
theorem SqT.keepL {K : PySem.W.Frag} {H H' : Hp} {l a : Addr} {xs ys : List V} (hl : H l = some (.lst ys)) (k : Keep l H H') (h : SqT K H a xs) : SqT K H' a xs := by
  rcases h with (h | ⟨o, h⟩) | h
  · exact .inl (.inl (k _ _ (fun e => by rw [e, hl] at h; cases h) h))
  · exact .inl (.inr ⟨o, k _ _ (fun e => by rw [e, hl] at h; cases h) h⟩)
  · exact .inr h
theorem Tr.keep {K : PySem.W.Frag} {H H' : Hp} {l : Addr} {ys : List V} (hl : H l = some (.lst ys)) (k : Keep l H H') : ∀ {t : Tr} {v : V}, Dp K H v t.enc → Dp K H' v t.enc
  | leaf, v, h => by
    cases h with
    | tup h a =>
      cases a
      exact .tup (SqT.keepL hl k h) .nil
  | node x y a b, v, h => by
    cases h with
    | tup h q =>
      cases q with
      | cons q1 q =>
        cases q with
        | cons q2 q =>
          cases q with
          | cons q3 q =>
            cases q with
            | cons q4 q =>
              cases q
              cases q1
              cases q2
              exact .tup (SqT.keepL hl k h) (.cons (.str _) (.cons (.str _) (.cons (Tr.keep hl k q3) (.cons (Tr.keep hl k q4) .nil))))
theorem Tr.keepF {K : PySem.W.Frag} {H H' : Hp} {l : Addr} (hf : Feed H l) (k : Keep l H H') {t : Tr} {v : V} (h : Dp K H v t.enc) : Dp K H' v t.enc := by
  obtain ⟨a, b, e, _⟩ := hf
  exact Tr.keep e k h
theorem Tr.mkLeaf {K : PySem.W.Frag} {H : Hp} {p : Addr} (h : H p = some (.tup [])) : Dp K H (.ref p) Tr.leaf.enc := .tup (SqT.of h) .nil
theorem Tr.mkNode {K : PySem.W.Frag} {H : Hp} {p : Addr} {l r : Str} {a b : Tr} {va vb : V} (h : H p = some (.tup [.str l, .str r, va, vb])) (ha : Dp K H va a.enc) (hb : Dp K H vb b.enc) : Dp K H (.ref p) (Tr.node l r a b).enc :=
  .tup (SqT.of h) (.cons (.str _) (.cons (.str _) (.cons ha (.cons hb .nil))))
def spTree (K : PySem.W.Frag) (n : Nat) : Sp := fun vs H Q _ => ∃ (l a : Addr) (ns : List Str) (room dp : Nat), vs = [.ref l, .ref a, .int room, .int dp] ∧ dp < n ∧ room ≤ 1000 ∧ Feed H l ∧ Names K H l a ns ∧
  ∀ v (t : Tr) H', Dp K H' v t.enc → t.Ok → t.depth ≤ dp → t.knots ≤ room → Feed H' l → Keep l H H' → Q v H'
section
variable {P : Program} {w : World} {K : PySem.W.Frag} {mg : Str → Option Value} {base : Heap}
def nTree : List Str := ["_law_feed_here", "_law_names", "_law_room", "_law_deep", "_law_left", "_law_sides", "_law_one", "_law_other"]
theorem scTree : FnScope nTree ["_law_feed_here", "_law_names", "_law_room", "_law_deep"] (defScope sTree) := ⟨rfl, rfl, rfl, by decide +kernel, rfl, by decide +kernel, by decide +kernel⟩
theorem tb2 : tb 2 ≤ 200 := by decide
theorem ok_tree {f fD fT : Addr} {fd fdD fdT : FuncData} (S : Std mg) (T : Df K mg "_law_tree" sTree f fd ["_law_feed_here", "_law_names", "_law_room", "_law_deep"]) (D : Df K mg "_law_draw" sDraw fD fdD ["_law_feed_here", "_law_many"])
    (TE : Df K mg "_law_term" sTerm fT fdT ["_law_feed_here", "_law_names", "_law_deep"]) (GT : FnOk P w K mg base CX0 6 fT fdT ["_law_feed_here", "_law_names", "_law_deep"] (spTerm K 3)) :
    ∀ n, FnOk P w K mg base CX0 (n + 7) f fd ["_law_feed_here", "_law_names", "_law_room", "_law_deep"] (spTree K n)
  | 0 => T.F.ok scTree (fun vs H Q E h => by obtain ⟨_, _, _, _, _, _, h, _⟩ := h; exact absurd h (Nat.not_lt_zero _)) (fun cdv A outer s H vs Q E hr h => by obtain ⟨_, _, _, _, _, _, h, _⟩ := h; exact absurd h (Nat.not_lt_zero _))
  | n + 1 => by
    have G := ok_tree S T D TE GT n
    have GD : FnOk P w K mg base CX0 1 fD fdD ["_law_feed_here", "_law_many"] spDraw := ok_draw S D.F
    refine T.F.ok scTree (fun vs H Q E h => ?_) (fun cdv A outer s H vs Q E hr h => ?_)
    · obtain ⟨_, _, _, _, _, rfl, _⟩ := h
      rfl
    · obtain ⟨l, a, ns, room, dp, rfl, hdp, hroom, hf, hn, q⟩ := h
      have hr1 : Room 1 _ := hr.mono (by omega)
      have hr6 : Room 6 _ := hr.mono (by omega)
      refine ⟨_, pss_cons (ps_if (PW.pt (pw_or (pt_cmpR op_eq (pv 2) pe_int (nomark _)) (pw_or1 (pt_cmpR op_eq (pv 3) pe_int (nomark _))))) (pss_one (ps_ret (pe_tup pa_nil))) pss_nil)
        (pss_cons (ps_set (i := 4) scTree.nd rfl (Or.inl rfl) (pe_call GD hr1 rfl D.g D.F.kp D.b .nil pass0 (pa_cons (pv 0) (pa_cons (pv 2) pa_nil))))
        (pss_cons (ps_set (i := 5) scTree.nd rfl (Or.inl rfl) (pe_tup (pa_cons (pe_call GT hr6 rfl TE.g TE.F.kp TE.b .nil pass0 (pa_cons (pv 0) (pa_cons (pv 1) (pa_cons pe_int pa_nil))))
          (pa_cons (pe_call GT hr6 rfl TE.g TE.F.kp TE.b .nil pass0 (pa_cons (pv 0) (pa_cons (pv 1) (pa_cons pe_int pa_nil)))) pa_nil))))
        (pss_cons (ps_set (i := 6) scTree.nd rfl (Or.inl rfl) (pe_call G hr rfl T.g T.F.kp T.b .nil pass0 (pa_cons (pv 0) (pa_cons (pv 1) (pa_cons (pv 4) (pa_cons (pe_op op_sub (pv 3) pe_int) pa_nil))))))
        (pss_cons (ps_set (i := 7) scTree.nd rfl (Or.inl rfl) (pe_call G hr rfl T.g T.F.kp T.b .nil pass0 (pa_cons (pv 0) (pa_cons (pv 1) (pa_cons (pe_op op_sub (pe_op op_sub (pv 2) pe_int) (pv 4)) (pa_cons (pe_op op_sub (pv 3) pe_int) pa_nil))))))
        (pss_one (ps_ret (pe_op op_catT (pv 5) (pe_tup (pa_cons (pv 6) (pa_cons (pv 7) pa_nil)))))))))), ?_⟩
      have leafE : ∀ p, H p = none → Q (.ref p) (upd H p (.tup [])) := fun p hp => q _ .leaf _ (Tr.mkLeaf upd_same) True.intro (Nat.zero_le _) (Nat.zero_le _) (hf.same (same_new hp)) (Keep.new hp)
      refine ⟨_, rfl, rfl, _, rfl, ite2 (fun c1 => ?_) (fun c1 => ?_)⟩
      · exact iteT ⟨(by show 0 ≤ sizeLine; decide), leafE⟩
      refine ⟨_, rfl, rfl, _, rfl, ?_⟩
      refine ite2 (fun c2 => ?_) (fun c2 => ?_)
      · exact ⟨(by show 0 ≤ sizeLine; decide), leafE⟩
      have rpos : 0 < room := by
        rcases Nat.eq_zero_or_pos room with e | e
        · exact absurd (decide_eq_true (by rw [e]; rfl)) c1
        · exact e
      have dpos : 0 < dp := by
        rcases Nat.eq_zero_or_pos dp with e | e
        · exact absurd (decide_eq_true (by rw [e]; rfl)) c2
        · exact e
      refine ⟨_, rfl, _, rfl, l, (room : Int), rfl, hf, by omega, by omega, fun d H1 d0 d1 hf1 k1 => ?_⟩
      obtain ⟨left, rfl⟩ : ∃ left : Nat, d = (left : Int) := ⟨d.toNat, by omega⟩
      refine ⟨_, rfl, _, rfl, l, a, ns, 2, rfl, by omega, by omega, hf1, hn.keep k1, fun x H2 sx lx hf2 k2 => ?_⟩
      refine ⟨_, rfl, _, rfl, l, a, ns, 2, rfl, by omega, by omega, hf2, hn.keep (k1.trans k2), fun y H3 sy ly hf3 k3 => ?_⟩
      refine ⟨(by show 2 ≤ sizeLine; decide), fun p hp => ?_⟩
      have hlp := hf3.ne hp
      have k03 : Keep l H (upd H3 p (.tup [.str x, .str y])) := ((k1.trans k2).trans k3).trans (Keep.new hp)
      have hf3' : Feed (upd H3 p (.tup [.str x, .str y])) l := hf3.same (same_new hp)
      refine ⟨_, rfl, _, rfl, _, rfl, _, rfl, _, _, rfl, rfl, l, a, ns, left, dp - 1, by show [V.ref l, V.ref a, V.int left, V.int ((dp : Int) - 1)] = _; rw [show (dp : Int) - 1 = ((dp - 1 : Nat) : Int) by omega], by omega, by omega, hf3', hn.keep k03, fun va ta H4 da oka dta kna hf4 k4 => ?_⟩
      have k04 := k03.trans k4
      refine ⟨_, rfl, _, rfl, _, rfl, _, _, rfl, rfl, _, rfl, _, _, rfl, rfl, _, rfl, _, _, rfl, rfl, l, a, ns, room - 1 - left, dp - 1, ?_, by omega, by omega, hf4, hn.keep k04, fun vb tb' H5 db okb dtb knb hf5 k5 => ?_⟩
      · show [V.ref l, V.ref a, V.int ((room : Int) - 1 - left), V.int ((dp : Int) - 1)] = _
        rw [show (dp : Int) - 1 = ((dp - 1 : Nat) : Int) by omega, show (room : Int) - 1 - left = ((room - 1 - left : Nat) : Int) by omega]
      have k05 := k04.trans k5
      have hp5 : H5 p = some (.tup [.str x, .str y]) := k5 _ _ hlp.symm (k4 _ _ hlp.symm upd_same)
      refine ⟨_, rfl, _, rfl, _, rfl, (by show 2 ≤ sizeLine; decide), fun p2 hp2 => ?_⟩
      refine ⟨p, p2, _, _, rfl, rfl, SqT.of (same_new hp2 _ _ hp5), SqT.of upd_same, by simp, (by show 2 + 2 ≤ sizeLine; decide), fun e => by simp at e, fun _ p3 hp3 => ?_⟩
      have s6 : Same H5 (upd (upd H5 p2 (.tup [va, vb])) p3 (.tup [.str x, .str y, va, vb])) := (same_new hp2).trans (same_new hp3)
      have b2 := tb2
      refine q (.ref p3) (.node x y ta tb') _ (Tr.mkNode upd_same (Dp.same s6 (Tr.keepF hf4 k5 da)) (Dp.same s6 db)) ⟨⟨sx, by omega⟩, ⟨sy, by omega⟩, oka, okb⟩ ?_ ?_ (hf5.same s6) (k05.trans (Keep.same s6))
      · show max ta.depth tb'.depth + 1 ≤ dp
        omega
      · show ta.knots + tb'.knots + 1 ≤ room
        omega
end
end LK

namespace LK
open PySem PySem.Spec PyProof.Rows L2
namespace Tr
def ind (s : Str) : Str := Str.ofString "  " ++ s
def lines : Tr → List Str
  | leaf => [Str.ofString "so"]
  | node l r a b => [l ++ Str.ofString " <= " ++ r] ++ a.lines.map ind ++ [r ++ Str.ofString " < " ++ l] ++ b.lines.map ind
theorem lines_len : ∀ t : Tr, t.lines.length = 3 * t.knots + 1
  | leaf => rfl
  | node l r a b => by
    show ([l ++ Str.ofString " <= " ++ r] ++ a.lines.map ind ++ [r ++ Str.ofString " < " ++ l] ++ b.lines.map ind).length = 3 * (a.knots + b.knots + 1) + 1
    rw [List.length_append, List.length_append, List.length_append, List.length_map, List.length_map, lines_len a, lines_len b]
    show 1 + (3 * a.knots + 1) + 1 + (3 * b.knots + 1) = _
    omega
theorem ind_len (s : Str) : (ind s).length = 2 + s.length := by
  unfold ind
  rw [len_app]
  have : (Str.ofString "  ").length = 2 := by decide +kernel
  omega
theorem line_len : ∀ (t : Tr), t.Ok → ∀ s, s ∈ t.lines → s.length ≤ 404 + 2 * t.depth
  | leaf, _, s, h => by
    have e : s = Str.ofString "so" := by simpa [lines] using h
    rw [e]
    have : (Str.ofString "so").length = 2 := by decide +kernel
    omega
  | node l r a b, ⟨⟨_, hl⟩, ⟨_, hr⟩, oa, ob⟩, s, h => by
    have e1 : (Str.ofString " <= ").length = 4 := by decide +kernel
    have e2 : (Str.ofString " < ").length = 3 := by decide +kernel
    show s.length ≤ 404 + 2 * (max a.depth b.depth + 1)
    rcases List.mem_append.mp h with h | h
    · rcases List.mem_append.mp h with h | h
      · rcases List.mem_append.mp h with h | h
        · have e : s = l ++ Str.ofString " <= " ++ r := by simpa using h
          rw [e, len_app, len_app]
          omega
        · obtain ⟨u, hu, rfl⟩ := List.mem_map.mp h
          have := line_len a oa u hu
          rw [ind_len]
          omega
      · have e : s = r ++ Str.ofString " < " ++ l := by simpa using h
        rw [e, len_app, len_app]
        omega
    · obtain ⟨u, hu, rfl⟩ := List.mem_map.mp h
      have := line_len b ob u hu
      rw [ind_len]
      omega
theorem strOk {z : Str} (h : AllCh z) : PyData.strOk z = true := by
  unfold PyData.strOk
  rw [Array.all_eq_true]
  intro i hi
  have := h z.cps[i] (by show _ ∈ z.cps.toList; simp)
  exact decide_eq_true (Nat.lt_trans this.2.1 (by decide))
theorem canLay : ∀ t : Tr, t.Ok → t.enc.canLay0 = true
  | leaf, _ => rfl
  | node l r a b, ⟨⟨hl, _⟩, ⟨hr, _⟩, oa, ob⟩ => by
    have ha := canLay a oa
    have hb := canLay b ob
    simp [enc, PyData.canLay0, PyData.canLayAll0, ha, hb, strOk hl.all, strOk hr.all]
theorem encDepth : ∀ t : Tr, t.enc.depth ≤ t.depth + 2
  | leaf => by decide
  | node l r a b => by
    have ha := encDepth a
    have hb := encDepth b
    simp only [enc, PyData.depth, PyData.depthAll, depth]
    omega
theorem shaped {t : Tr} (o : t.Ok) (h : t.depth ≤ 60) : SeqAt.shaped t.enc = true := by
  unfold SeqAt.shaped
  have := encDepth t
  rw [canLay t o, decide_eq_true (by omega)]
  rfl
def isLeaf : Tr → Bool
  | leaf => true
  | _ => false
theorem eq_leaf : ∀ t : Tr, PyData.eqv t.enc (.tuple []) = t.isLeaf
  | leaf => by decide +kernel
  | node l r a b => by simp [enc, PyData.eqv, isLeaf, PyData.eqvAll]
theorem parts {K : PySem.W.Frag} {H : Hp} {l r : Str} {a b : Tr} {v : V} (h : Dp K H v (node l r a b).enc) : ∃ (p : Addr) (va vb : V), v = .ref p ∧ SqT K H p [.str l, .str r, va, vb] ∧ Dp K H va a.enc ∧ Dp K H vb b.enc := by
  cases h with
  | tup h q =>
    cases q with
    | cons q1 q =>
      cases q with
      | cons q2 q =>
        cases q with
        | cons q3 q =>
          cases q with
          | cons q4 q =>
            cases q
            cases q1
            cases q2
            exact ⟨_, _, _, rfl, h, q3, q4⟩
end Tr
def spLines (K : PySem.W.Frag) (n : Nat) : Sp := fun vs H Q _ => ∃ (v : V) (t : Tr), vs = [v] ∧ Dp K H v t.enc ∧ t.Ok ∧ t.depth < n ∧ t.knots ≤ 60 ∧ ∀ p H', H p = none → H' p = some (.lst (t.lines.map V.str)) → Same H H' → Q (.ref p) H'
section
variable {P : Program} {w : World} {K : PySem.W.Frag} {mg : Str → Option Value} {base : Heap}
def nLines : List Str := ["_law_told", "_law_one", "_law_other", "_law_found", "_law_line"]
theorem scLines : FnScope nLines ["_law_told"] (defScope sLines) := ⟨rfl, rfl, rfl, by decide +kernel, rfl, by decide +kernel, by decide +kernel⟩
/-- ["  " + line for line in one]: its reading -/
theorem lc_ind {c : Addr} {ls : List Str} {i : Nat} {σ : L2.St} {H1 : Hp} {D : Addr} {Qd : Hp → Prop} (hi : i < σ.length) (hc : H1 c = some (.lst (ls.map V.str))) (hD : H1 D = none) (hn : ls.length ≤ 1000) (hl : ∀ s, s ∈ ls → s.length ≤ 1000)
    (hd : ∀ H, Same H1 H → H D = some (.lst ((ls.map Tr.ind).map V.str)) → Qd H) :
    ∃ W : Nat → Nat → Hp → Prop, (∃ m, W 0 m (upd H1 D (.lst []))) ∧ ∀ j m H, W j m H →
      ((Itl K c).stop j H ∧ Qd H) ∨ ((Itl K c).go j H ∧ ∃ Nx : Hp → Prop, (∀ H', Nx H' → ∃ m', m' < m ∧ W (j + 1) m' H') ∧ ∀ x H', (Itl K c).yld j H x H' → gName i x (wipe σ [i]) H' fun σ2 H2 => wipe σ2 [i] = wipe σ [i] ∧ tYes σ2 H2 fun b H3 =>
        if b = true then tOp (fun x y H Q => ∃ i j, x = .str i ∧ y = .str j ∧ i.length + j.length ≤ sizeLine ∧ Q (.str (i ++ j)) H) (tC (.str (Str.ofString "  "))) (tVar i) σ2 H3 fun y H4 => ∃ acc, H4 D = some (.lst acc) ∧ acc.length < sizeLine ∧ Nx (upd H4 D (.lst (acc ++ [y]))) else Nx H3) := by
  have hcD : c ≠ D := ne_of_none hc hD
  refine lc_list (K := K) (a := c) (xs := ls.map V.str) (fun j H => Keep D H1 H ∧ H D = some (.lst (((ls.take j).map Tr.ind).map V.str))) ⟨Keep.new hD, by rw [upd_same]; rfl⟩ (fun j H _ ⟨k, _⟩ => SqL.of (k _ _ hcD hc)) ?_ ?_
  · rintro j x H hx ⟨k, d⟩
    rw [List.getElem?_map] at hx
    obtain ⟨u, hu, rfl⟩ : ∃ u, ls[j]? = some u ∧ x = V.str u := by
      cases e : ls[j]? with
      | none =>
        rw [e] at hx
        cases hx
      | some u =>
        rw [e] at hx
        exact ⟨u, rfl, (Option.some.inj hx).symm⟩
    have hj := (List.getElem?_eq_some_iff.mp hu).1
    have lu := hl u (List.mem_of_getElem? hu)
    have e2 : (Str.ofString "  ").length = 2 := by decide +kernel
    have sz : (16777216 : Nat) ≤ sizeLine := by decide
    refine ⟨?_, ?_⟩
    · show ((σ.set i none).set i (some (V.str u))).set i none = σ.set i none
      rw [List.set_set, List.set_set]
    · refine ⟨V.str u, ?_, _, u, rfl, rfl, (by show (Str.ofString "  ").length + u.length ≤ sizeLine; omega), _, d, ?_, fun b o n e => by rw [upd_ne n]; exact k b o n e, ?_⟩
      · show ((σ.set i none).set i (some (V.str u)))[i]? = _
        rw [List.set_set, List.getElem?_set_self hi]
      · rw [List.length_map, List.length_map]
        have := List.length_take_le j ls
        exact small1000 (by omega)
      · rw [upd_same, List.take_add_one, hu, List.map_append, List.map_append]
        rfl
  · rintro H ⟨k, d⟩
    rw [List.length_map, List.take_length] at d
    exact hd H (fun b o e => k b o (ne_of_none e hD) e) d
theorem ok_lines {f : Addr} {fd : FuncData} (S : Std mg) (T : Df K mg "_law_lines" sLines f fd ["_law_told"]) : ∀ n, FnOk P w K mg base CX0 (n + 1) f fd ["_law_told"] (spLines K n)
  | 0 => T.F.ok scLines (fun vs H Q E h => by obtain ⟨_, _, _, _, _, h, _⟩ := h; exact absurd h (Nat.not_lt_zero _)) (fun cdv A outer s H vs Q E hr h => by obtain ⟨_, _, _, _, _, h, _⟩ := h; exact absurd h (Nat.not_lt_zero _))
  | n + 1 => by
    have G := ok_lines S T n
    refine T.F.ok scLines (fun vs H Q E h => ?_) (fun cdv A outer s H vs Q E hr h => ?_)
    · obtain ⟨_, _, rfl, _⟩ := h
      rfl
    · obtain ⟨v, t, rfl, hv, ok, hdp, hkn, q⟩ := h
      refine ⟨_, pss_cons (ps_if (pt_cmpR (op_eqD hr.units) (pv 0) (pe_tup pa_nil) (nomark _)) (pss_one (ps_ret (pe_lst (pa_cons pe_str pa_nil)))) pss_nil)
        (pss_cons (ps_par (i := 1) (j := 2) (by rfl) scLines.nd rfl rfl (by decide) rfl rfl (pa_cons (pe_call G hr rfl T.g T.F.kp T.b .nil pass0 (pa_cons (pe_ix ix_tup (pv 0) pe_int (fun _ _ => rfl)) pa_nil))
            (pa_cons (pe_call G hr rfl T.g T.F.kp T.b .nil pass0 (pa_cons (pe_ix ix_tup (pv 0) pe_int (fun _ _ => rfl)) pa_nil)) pa_nil)) (by rfl))
        (pss_cons (ps_set (i := 3) scLines.nd rfl (Or.inl rfl) (pe_op op_cat (pe_lst (pa_cons (pe_op op_add_str (pe_op op_add_str (pe_ix ix_tup (pv 0) pe_int (fun _ _ => rfl)) pe_str) (pe_ix ix_tup (pv 0) pe_int (fun _ _ => rfl))) pa_nil))
            (pe_lc (own := [("_law_line", 4)]) (g := gName 4) (tt := tYes) rfl scLines.nd (pi_list (pv 1)) (blkOk_by (N := nLines) (sc := defScope sLines) (by decide +kernel)) (fun _ _ _ _ _ => pg_name (i := 4) scLines.nd rfl (Or.inl rfl)) (fun _ _ _ _ _ => pts_nil)
              (fun _ _ _ _ _ => pe_op op_add_str pe_str (pv 4)))))
        (pss_one (ps_ret (pe_op op_cat (pe_op op_cat (pv 3) (pe_lst (pa_cons (pe_op op_add_str (pe_op op_add_str (pe_ix ix_tup (pv 0) pe_int (fun _ _ => rfl)) pe_str) (pe_ix ix_tup (pv 0) pe_int (fun _ _ => rfl))) pa_nil)))
            (pe_lc (own := [("_law_line", 4)]) (g := gName 4) (tt := tYes) rfl scLines.nd (pi_list (pv 2)) (blkOk_by (N := nLines) (sc := defScope sLines) (by decide +kernel)) (fun _ _ _ _ _ => pg_name (i := 4) scLines.nd rfl (Or.inl rfl)) (fun _ _ _ _ _ => pts_nil)
              (fun _ _ _ _ _ => pe_op op_add_str pe_str (pv 4)))))))), ?_⟩
      have dk := t.depth_knots
      refine ⟨_, rfl, (by show 0 ≤ sizeLine; decide), fun e0 he0 => ⟨t.enc, .tuple [], Dp.same (same_new he0) hv, .tup (SqT.of upd_same) .nil, Tr.shaped ok (by omega), by decide +kernel, _, rfl, ?_⟩⟩
      have s0 : Same H (upd H e0 (.tup [])) := same_new he0
      generalize upd H e0 (.tup []) = H0 at s0 ⊢
      rw [Tr.eq_leaf]
      cases t with
      | leaf =>
        refine iteT ⟨(by show 1 ≤ sizeLine; decide), fun p hp => ?_⟩
        exact q p _ (s0.free hp) upd_same (s0.trans (same_new hp))
      | node l r a b =>
        refine iteF ?_
        obtain ⟨p0, va, vb, rfl, hp0, ha, hb⟩ := Tr.parts (Dp.same s0 hv)
        obtain ⟨⟨sl, ll⟩, ⟨sr, lr⟩, oa, ob⟩ := id ok
        have hdp' : max a.depth b.depth + 1 < n + 1 := hdp
        have hkn' : a.knots + b.knots + 1 ≤ 60 := hkn
        refine ⟨_, rfl, p0, _, _, _, rfl, rfl, hp0, at_of (j := 2) rfl rfl, va, a, rfl, ha, oa, by omega, by omega, fun p1 H1 hp1 h1 s1 => ?_⟩
        refine ⟨_, rfl, p0, _, _, _, rfl, rfl, SqT.same s1 hp0, at_of (j := 3) rfl rfl, vb, b, rfl, Dp.same s1 hb, ob, by omega, by omega, fun p2 H2 hp2 h2 s2 => ?_⟩
        have e4 : (Str.ofString " <= ").length = 4 := by decide +kernel
        have e3 : (Str.ofString " < ").length = 3 := by decide +kernel
        have sz : (16777216 : Nat) ≤ sizeLine := by decide
        have la := Tr.lines_len a
        have lb := Tr.lines_len b
        have da := a.depth_knots
        have db := b.depth_knots
        have lna : ∀ s, s ∈ a.lines → s.length ≤ 1000 := fun s hs => by
          have := Tr.line_len a oa s hs
          omega
        have lnb : ∀ s, s ∈ b.lines → s.length ≤ 1000 := fun s hs => by
          have := Tr.line_len b ob s hs
          omega
        refine ⟨_, _, rfl, ?_⟩
        refine ⟨_, rfl, p0, _, _, _, rfl, rfl, SqT.same (s1.trans s2) hp0, at_of (j := 0) rfl rfl, l, Str.ofString " <= ", rfl, rfl, (by omega), _, rfl, p0, _, _, _, rfl, rfl, SqT.same (s1.trans s2) hp0, at_of (j := 1) rfl rfl, l ++ Str.ofString " <= ", r, rfl, rfl, (by rw [len_app]; omega), (by show 1 ≤ sizeLine; decide), fun p3 hp3 => ?_⟩
        have s3 := same_new (o := .lst [V.str (l ++ Str.ofString " <= " ++ r)]) hp3
        refine ⟨_, rfl, p1, rfl, ⟨_, SqL.of (s3 _ _ (s2 _ _ h1))⟩, fun D hD => lc_ind (i := 4) (by show 4 < 5; decide) (s3 _ _ (s2 _ _ h1)) hD (by omega) lna fun H4 s4 d4 => ?_⟩
        have h34 := s4 _ _ (upd_same (H := H2) (a := p3) (o := .lst [V.str (l ++ Str.ofString " <= " ++ r)]))
        refine ⟨p3, D, _, _, rfl, rfl, h34, d4, ?_, fun p4 hp4 => ?_⟩
        · rw [List.length_map, List.length_map]
          show 1 + _ ≤ sizeLine
          omega
        have s24 : Same H2 (upd H4 p4 (.lst ([V.str (l ++ Str.ofString " <= " ++ r)] ++ List.map V.str (List.map Tr.ind a.lines)))) := (s3.trans s4).trans (same_new hp4)
        have h4 : (upd H4 p4 (.lst ([V.str (l ++ Str.ofString " <= " ++ r)] ++ List.map V.str (List.map Tr.ind a.lines)))) p4 = _ := upd_same
        generalize (upd H4 p4 (.lst ([V.str (l ++ Str.ofString " <= " ++ r)] ++ List.map V.str (List.map Tr.ind a.lines)))) = H5 at s24 h4 ⊢
        have s05 := (s1.trans s2).trans s24
        refine ⟨_, rfl, _, rfl, p0, _, _, _, rfl, rfl, SqT.same s05 hp0, at_of (j := 1) rfl rfl, r, Str.ofString " < ", rfl, rfl, (by omega), _, rfl, p0, _, _, _, rfl, rfl, SqT.same s05 hp0, at_of (j := 0) rfl rfl, r ++ Str.ofString " < ", l, rfl, rfl, (by rw [len_app]; omega), (by show 1 ≤ sizeLine; decide), fun p5 hp5 => ?_⟩
        have s5 := same_new (o := .lst [V.str (r ++ Str.ofString " < " ++ l)]) hp5
        refine ⟨p4, p5, _, _, rfl, rfl, s5 _ _ h4, upd_same, ?_, fun p6 hp6 => ?_⟩
        · rw [List.length_append, List.length_map, List.length_map]
          show 1 + _ + 1 ≤ sizeLine
          omega
        have s6 := s5.trans (same_new (o := .lst ([V.str (l ++ Str.ofString " <= " ++ r)] ++ List.map V.str (List.map Tr.ind a.lines) ++ [V.str (r ++ Str.ofString " < " ++ l)])) hp6)
        have h26 := s6 _ _ (s24 _ _ h2)
        refine ⟨_, rfl, p2, rfl, ⟨_, SqL.of h26⟩, fun D2 hD2 => lc_ind (i := 4) (by show 4 < 5; decide) h26 hD2 (by omega) lnb fun H7 s7 d7 => ?_⟩
        refine ⟨p6, D2, _, _, rfl, rfl, s7 _ _ upd_same, d7, ?_, fun p8 hp8 => ?_⟩
        · rw [List.length_append, List.length_append, List.length_map, List.length_map, List.length_map, List.length_map]
          show 1 + _ + 1 + _ ≤ sizeLine
          omega
        have s08 := (((s0.trans s05).trans s6).trans s7).trans (same_new (o := .lst ([V.str (l ++ Str.ofString " <= " ++ r)] ++ List.map V.str (List.map Tr.ind a.lines) ++ [V.str (r ++ Str.ofString " < " ++ l)] ++ List.map V.str (List.map Tr.ind b.lines))) hp8)
        refine q p8 _ ((((s0.trans s05).trans s6).trans s7).free hp8) ?_ s08
        rw [upd_same]
        show _ = some (HO.lst (([l ++ Str.ofString " <= " ++ r] ++ a.lines.map Tr.ind ++ [r ++ Str.ofString " < " ++ l] ++ b.lines.map Tr.ind).map V.str))
        rw [List.map_append, List.map_append, List.map_append]
        rfl
end
end LK

namespace LK
open PySem PySem.Spec PyProof.Rows L2
structure Good (t : Tr) : Prop where
  ok : t.Ok
  depth : t.depth ≤ 20
  knots : t.knots ≤ 20
def text (t : Tr) : Str := Txt.join (Str.ofString "\n") t.lines
def spShow (K : PySem.W.Frag) : Sp := fun vs H Q _ => ∃ (v : V) (t : Tr), vs = [v] ∧ Dp K H v t.enc ∧ Good t ∧ ∀ H', Same H H' → Q (.str (text t)) H'
def spRead (K : PySem.W.Frag) : Sp := fun vs H Q _ => ∃ (t : Tr), vs = [.str (text t)] ∧ Good t ∧ ∀ v H', Dp K H' v t.enc → Same H H' → Q v H'
def spLaw (K : PySem.W.Frag) : Sp := fun vs H Q _ => ∃ (a : Addr) (ns : List Int), vs = [.ref a] ∧ SqL K H a (ns.map V.int) ∧ ns.length ≤ 63 ∧ ∀ H', Q (.bl true) H'
theorem cut2 (xs : List V) : (cutV xs none (some 2)).length ≤ 2 := by
  unfold cutV HT.sIx
  rw [List.length_take]
  simp
  omega
theorem cut2_mem {xs : List V} {v : V} (h : v ∈ cutV xs none (some 2)) : v ∈ xs := List.mem_of_mem_drop (List.mem_of_mem_take h)
/-- what the list at p holds: trees -/
def Held (K : PySem.W.Frag) (H : Hp) (vs : List V) : Prop := ∀ v, v ∈ vs → ∃ t, Dp K H v t.enc ∧ Good t
theorem Held.keep {K : PySem.W.Frag} {H H' : Hp} {l : Addr} {ys vs : List V} (hl : H l = some (.lst ys)) (k : Keep l H H') (h : Held K H vs) : Held K H' vs := fun v hv => by
  obtain ⟨t, d, g⟩ := h v hv
  exact ⟨t, Tr.keep hl k d, g⟩
theorem Held.same {K : PySem.W.Frag} {H H' : Hp} {vs : List V} (k : Same H H') (h : Held K H vs) : Held K H' vs := fun v hv => by
  obtain ⟨t, d, g⟩ := h v hv
  exact ⟨t, Dp.same k d, g⟩
theorem good_leaf : Good .leaf := ⟨True.intro, Nat.zero_le _, Nat.zero_le _⟩
section
variable {P : Program} {w : World} {K : PySem.W.Frag} {mg : Str → Option Value} {base : Heap}
def nLaw : List Str := ["_law_script", "_law_some", "_law_k", "_law_feed_here", "_law_names", "_law_turn", "_law_deep", "_law_branches", "_law_told", "_law_text"]
theorem scLaw : FnScope nLaw ["_law_script"] (defScope sLaw) := ⟨rfl, rfl, rfl, by decide +kernel, rfl, by decide +kernel, by decide +kernel⟩
theorem ok_law {f fF fD fP fW fT fL fS fSh fR : Addr} {fd fdF fdD fdP fdW fdT fdL fdS fdSh fdR : FuncData} {sSh sR : Stmt} (S : Std mg) (F : Fun K "law" "law" sLaw f fd) (FE : Df K mg "_law_feed" sFeed fF fdF ["_law_script", "_law_k"]) (GF : FnOk P w K mg base CX0 1 fF fdF ["_law_script", "_law_k"] (spFeed K))
    (D : Df K mg "_law_draw" sDraw fD fdD ["_law_feed_here", "_law_many"]) (PK : Df K mg "_law_pick" sPick fP fdP ["_law_feed_here", "_law_items"])
    (WS : Df K mg "_law_words" sWords fW fdW ["_law_feed_here", "_law_many"]) (GW : FnOk P w K mg base CX0 4 fW fdW ["_law_feed_here", "_law_many"] spWords)
    (TR : Df K mg "_law_tree" sTree fT fdT ["_law_feed_here", "_law_names", "_law_room", "_law_deep"]) (GT : FnOk P w K mg base CX0 14 fT fdT ["_law_feed_here", "_law_names", "_law_room", "_law_deep"] (spTree K 7))
    (LI : Df K mg "_law_lines" sLines fL fdL ["_law_told"]) (GL : FnOk P w K mg base CX0 22 fL fdL ["_law_told"] (spLines K 21))
    (SA : Df K mg "_law_same" sSame fS fdS ["_law_found", "_law_due"]) (GS : FnOk P w K mg base CX0 23 fS fdS ["_law_found", "_law_due"] (spSame K 22))
    (SH : Df K mg "show_tree" sSh fSh fdSh ["told"]) (GSh : FnOk P w K mg base CX0 60 fSh fdSh ["told"] (spShow K))
    (RD : Df K mg "read_tree" sR fR fdR ["text"]) (GR : FnOk P w K mg base CX0 60 fR fdR ["text"] (spRead K)) : FnOk P w K mg base CX0 61 f fd ["_law_script"] (spLaw K) := by
  have GD : FnOk P w K mg base CX0 1 fD fdD ["_law_feed_here", "_law_many"] spDraw := ok_draw S D.F
  have GP : FnOk P w K mg base CX0 2 fP fdP ["_law_feed_here", "_law_items"] (spPick K) := ok_pick S PK.F D
  refine F.ok scLaw (fun vs H Q E h => ?_) (fun cdv A outer s H vs Q E hr h => ?_)
  · obtain ⟨a, ns, rfl, _⟩ := h
    rfl
  · obtain ⟨a, ns, rfl, hS, hlen, q⟩ := h
    have hr1 : Room 1 _ := hr.mono (by decide)
    have hr2 : Room 2 _ := hr.mono (by decide)
    have hr4 : Room 4 _ := hr.mono (by decide)
    have hr14 : Room 14 _ := hr.mono (by decide)
    have hr22 : Room 22 _ := hr.mono (by decide)
    have hr23 : Room 23 _ := hr.mono (by decide)
    refine ⟨_, pss_cons (ps_set (i := 1) scLaw.nd rfl (Or.inl rfl) (pe_lst (pa_cons (pe_tup pa_nil) pa_nil)))
      (pss_cons (ps_for PassesOwn.never rfl (pi_range1 (by rfl) S.range (pa_cons (pe_op op_add pe_int (pe_callB call_len_seq (by rfl) S.len PySem.boot_len (pa_cons (pe_slice sl_list (pv 0) po_none (po_some pe_int)) pa_nil))) pa_nil)) (pg_name (i := 2) scLaw.nd rfl (Or.inl rfl))
        (pss_cons (ps_set (i := 3) scLaw.nd rfl (Or.inr rfl) (pe_call GF hr1 rfl FE.g FE.F.kp FE.b .nil pass0 (pa_cons (pv 0) (pa_cons (pv 2) pa_nil))))
        (pss_cons (ps_set (i := 4) scLaw.nd rfl (Or.inr rfl) (pe_call GW hr4 rfl WS.g WS.F.kp WS.b .nil pass0 (pa_cons (pv 3) (pa_cons pe_int pa_nil))))
        (pss_cons (ps_set (i := 1) scLaw.nd rfl (Or.inl rfl) (pe_op op_cat (pv 1) (pe_lc (own := [("_law_turn", 5)]) (g := gName 5) (tt := tYes) rfl scLaw.nd (pi_range1 (by rfl) S.range (pa_cons pe_int pa_nil))
            (blkOk_by (N := nLaw) (sc := defScope sLaw) (by decide +kernel)) (fun _ _ _ _ _ => pg_name (i := 5) scLaw.nd rfl (Or.inl rfl)) (fun _ _ _ _ _ => pts_nil)
            (fun _ _ _ _ _ => pe_call GT hr14 rfl TR.g TR.F.kp TR.b .nil pass0 (pa_cons (pv 3) (pa_cons (pv 4) (pa_cons (pe_call GD hr1 rfl D.g D.F.kp D.b .nil pass0 (pa_cons (pv 3) (pa_cons pe_int pa_nil))) (pa_cons pe_int pa_nil))))))))
        (pss_cons (ps_set (i := 6) scLaw.nd rfl (Or.inl rfl) (pe_tup pa_nil))
        (pss_cons (ps_for PassesOwn.never rfl (pi_range1 (by rfl) S.range (pa_cons (pe_op op_add pe_int (pe_call GD hr1 rfl D.g D.F.kp D.b .nil pass0 (pa_cons (pv 3) (pa_cons pe_int pa_nil)))) pa_nil)) (pg_name (i := 5) scLaw.nd rfl (Or.inl rfl))
          (pss_cons (ps_set (i := 7) scLaw.nd rfl (Or.inl rfl) (pe_ifExp (pt_cmpR op_eq (pe_call GD hr1 rfl D.g D.F.kp D.b .nil pass0 (pa_cons (pv 3) (pa_cons pe_int pa_nil))) pe_int (nomark _))
              (pe_tup (pa_cons (pv 6) (pa_cons (pe_tup pa_nil) pa_nil))) (pe_tup (pa_cons (pe_tup pa_nil) (pa_cons (pv 6) pa_nil)))))
          (pss_one (ps_set (i := 6) scLaw.nd rfl (Or.inl rfl) (pe_op op_catT (pe_tup (pa_cons (pe_call GP hr2 rfl PK.g PK.F.kp PK.b .nil pass0 (pa_cons (pv 3) (pa_cons (pv 4) pa_nil))) (pa_cons (pe_call GP hr2 rfl PK.g PK.F.kp PK.b .nil pass0 (pa_cons (pv 3) (pa_cons (pv 4) pa_nil))) pa_nil))) (pv 7))))))
        (pss_one (ps_expr (pe_bm PySem.F.plainAttrs_list PySem.F.slot_list_append PySem.F.type_list_append mt_append (pv 1) (pa_cons (pv 6) pa_nil))))))))))
      (pss_cons (ps_for PassesOwn.never rfl (pi_list (pe_op op_cat (pv 1) (pe_slice sl_list (pv 1) po_none (po_some pe_int)))) (pg_name (i := 8) scLaw.nd rfl (Or.inl rfl))
        (pss_cons (ps_set (i := 9) scLaw.nd rfl (Or.inl rfl) (pe_join pe_str (pe_call GL hr22 rfl LI.g LI.F.kp LI.b .nil pass0 (pa_cons (pv 8) pa_nil))))
        (pss_one (ps_if (PW.pt (pw_or (pt_not (pt_val (pe_call GS hr23 rfl SA.g SA.F.kp SA.b .nil pass0 (pa_cons (pe_call GSh hr rfl SH.g SH.F.kp SH.b .nil pass0 (pa_cons (pv 8) pa_nil)) (pa_cons (pv 9) pa_nil)))))
            (pw_or1 (pt_not (pt_val (pe_call GS hr23 rfl SA.g SA.F.kp SA.b .nil pass0 (pa_cons (pe_call GR hr rfl RD.g RD.F.kp RD.b .nil pass0 (pa_cons (pv 9) pa_nil)) (pa_cons (pv 8) pa_nil))))))))
          (pss_one (ps_ret pe_bl)) pss_nil))))
      (pss_one (ps_ret pe_bl)))), ?_⟩
    refine ⟨(by show 0 ≤ sizeLine; decide), fun e0 he0 => ⟨(by show 1 ≤ sizeLine; decide), fun p hp => ?_⟩⟩
    have s0 : Same H (upd (upd H e0 (.tup [])) p (.lst [.ref e0])) := (same_new he0).trans (same_new hp)
    have h0 : (upd (upd H e0 (.tup [])) p (.lst [.ref e0])) p = some (.lst [.ref e0]) := upd_same
    have g0 : Held K (upd (upd H e0 (.tup [])) p (.lst [.ref e0])) [.ref e0] := fun v hv => by
      have e : v = .ref e0 := by simpa using hv
      rw [e]
      exact ⟨.leaf, Tr.mkLeaf (same_new hp _ _ upd_same), good_leaf⟩
    generalize (upd (upd H e0 (.tup [])) p (.lst [.ref e0])) = H0 at s0 h0 g0 ⊢
    refine ⟨_, rfl, _, rfl, a, _, rfl, s0.seq hS, fun c hc => ⟨c, _, rfl, .inl (SqL.of upd_same), ?_⟩⟩
    have hcut := cut2 (ns.map V.int)
    generalize (cutV (ns.map V.int) none (some 2)) = cut at hcut ⊢
    have sc := same_new (o := .lst cut) hc
    have s1 := s0.trans sc
    have h1 := sc _ _ h0
    have g1 := g0.same sc
    generalize (upd H0 c (.lst cut)) = H1 at s1 h1 g1 ⊢
    refine ⟨_, _, rfl, rfl, 1 + (cut.length : Int), rfl, by omega, by omega, for_range (lo := 0) (n := (1 + (cut.length : Int)).toNat) (fun i σ H' => ∃ (p : Addr) (vs : List V) (v2 v3 v4 v5 v6 v7 : Option V), σ = [some (.ref a), some (.ref p), v2, v3, v4, v5, v6, v7, none, none] ∧
      Same H H' ∧ H p = none ∧ H' p = some (.lst vs) ∧ vs.length ≤ 1 + 3 * i ∧ Held K H' vs) ⟨p, _, none, none, none, none, none, none, rfl, s1, (same_new he0).free hp, h1, Nat.le_refl _, g1⟩ ?_ ?_⟩
    · clear h0 g0 s0 h1 g1 s1 hp
      rintro i σ H2 hi ⟨p, vs, v2, v3, v4, v5, v6, v7, rfl, s2, hpH, hp2, hvs, g2⟩
      have hi3 : i < 3 := by omega
      -- the feed and the names
      refine ⟨_, rfl, _, rfl, a, ns, i, by show [V.ref a, V.int (0 + (i : Int))] = _; rw [Int.zero_add], s2.seq hS, fun l H3 hl hf3 s3 => ?_⟩
      have hlp : l ≠ p := (ne_of_none hp2 hl).symm
      refine ⟨_, rfl, l, 3, rfl, hf3, by decide, fun nm zs H4 hnm hzl hzn hzo hz4 hf4 k4 => ?_⟩
      have k24 : Keep l H2 H4 := (Keep.same s3).trans k4
      have hln : nm ≠ l := fun e => by
        obtain ⟨x, y, e1, _⟩ := hf3
        rw [e, e1] at hnm
        cases hnm
      have N4 : Names K H4 l nm zs := ⟨hz4, hln, by omega, by omega, hzo⟩
      have hfl3 : ∃ ys, H3 l = some (.lst ys) := by
        obtain ⟨x, y, e1, _⟩ := hf3
        exact ⟨_, e1⟩
      have hp4 : H4 p = some (.lst vs) := k4 _ _ hlp.symm (s3 _ _ hp2)
      have g4 : Held K H4 vs := by
        obtain ⟨ys, e⟩ := hfl3
        exact (g2.same s3).keep e k4
      -- two trees
      refine ⟨_, rfl, (2 : Int), rfl, by decide, by decide, fun C hC => ?_⟩
      have hlC := hf4.ne hC
      have hpC : p ≠ C := ne_of_none hp4 hC
      have hnC : nm ≠ C := ne_of_none hz4 hC
      refine lc_range (lo := 0) (n := (2 : Int).toNat) (fun j H5 => Feed H5 l ∧ (∀ b o, b ≠ l → b ≠ C → H4 b = some o → H5 b = some o) ∧ ∃ ws : List V, ws.length = j ∧ H5 C = some (.lst ws) ∧ Held K H5 ws)
        ⟨hf4.same (same_new hC), fun b o _ _ e => same_new hC b o e, [], rfl, upd_same, fun v hv => by cases hv⟩ ?_ ?_
      · rintro j H5 hj ⟨hf5, k5, ws, el, hC5, g5⟩
        refine ⟨rfl, _, rfl, _, rfl, _, rfl, l, 11, rfl, hf5, by decide, by decide, fun d H6 d0 d1 hf6 k6 => ?_⟩
        obtain ⟨dn, rfl⟩ : ∃ dn : Nat, d = (dn : Int) := ⟨d.toNat, by omega⟩
        have N6 : Names K H6 l nm zs := ⟨k6 _ _ hln (k5 _ _ hln hnC hz4), hln, by omega, by omega, hzo⟩
        refine ⟨l, nm, zs, dn, 6, rfl, by decide, by omega, hf6, N6, fun v t H7 dv ok dp kn hf7 k7 => ?_⟩
        have hC7 : H7 C = some (.lst ws) := k7 _ _ hlC.symm (k6 _ _ hlC.symm hC5)
        have hl5 : ∃ ys, H5 l = some (.lst ys) := by
          obtain ⟨x, y, e1, _⟩ := hf5
          exact ⟨_, e1⟩
        have g7 : Held K H7 ws := by
          obtain ⟨ys, e⟩ := hl5
          exact g5.keep e (k6.trans k7)
        refine ⟨ws, hC7, small1000 (by omega), hf7.keep (m := C) Keep.put hlC, fun b o n1 n2 e => ?_, ws ++ [v], by simp [el], upd_same, fun u hu => ?_⟩
        · rw [upd_ne n2]
          exact k7 _ _ n1 (k6 _ _ n1 (k5 b o n1 n2 e))
        · rcases List.mem_append.mp hu with h | h
          · exact g7.keep hC7 Keep.put u h
          · have e : u = v := by simpa using h
            rw [e]
            exact ⟨t, Tr.keep hC7 Keep.put dv, ok, by omega, by omega⟩
      · rintro H5 ⟨hf5, k5, ws, el, hC5, g5⟩
        have hp5 : H5 p = some (.lst vs) := k5 _ _ hlp.symm hpC hp4
        have hcutw : ws.length ≤ 2 := by
          rw [el]
          decide
        have s25 : Same H H5 := fun b o e => by
          have e2 := s2 b o e
          have e3 := s3 b o e2
          have n1 : b ≠ l := ne_of_none e2 hl
          have e4 := k4 b o n1 e3
          exact k5 b o n1 (ne_of_none e4 hC) e4
        have gv5 : Held K H5 vs := fun v hv => by
          obtain ⟨t, d, g⟩ := g4 v hv
          have hfl4 : ∃ ys, H4 l = some (.lst ys) := by
            obtain ⟨x, y, e1, _⟩ := hf4
            exact ⟨_, e1⟩
          obtain ⟨ys, e⟩ := hfl4
          -- by way of the heap with the list at C
          have kk : Keep l (upd H4 C (.lst [])) (upd H5 C (.lst [])) := fun b o n e => by
            by_cases hb : b = C
            · rw [hb, upd_same] at e
              rw [hb, upd_same]
              exact e
            · rw [upd_ne hb] at e
              rw [upd_ne hb]
              exact k5 b o n hb e
          have d1 := Tr.keep (K := K) (H := upd H4 C (.lst [])) (l := l) (by rw [upd_ne hlC]; exact e) kk (Dp.same (same_new hC) d)
          have d2 := Tr.keep (K := K) (H := upd H5 C (.lst [])) (H' := H5) (l := C) upd_same (fun b o n e => by rw [upd_ne n] at e; exact e) d1
          exact ⟨t, d2, g⟩
        refine ⟨p, C, _, _, rfl, rfl, hp5, hC5, ?_, fun p2 hp2' => ?_⟩
        · have : 1000 ≤ sizeLine := by decide
          omega
        have s6 := same_new (o := .lst (vs ++ ws)) hp2'
        have hf6 : Feed (upd H5 p2 (.lst (vs ++ ws))) l := hf5.same s6
        have hq6 : (upd H5 p2 (.lst (vs ++ ws))) p2 = some (.lst (vs ++ ws)) := upd_same
        have g6 : Held K (upd H5 p2 (.lst (vs ++ ws))) (vs ++ ws) := fun v hv => by
          rcases List.mem_append.mp hv with h | h
          · exact (gv5.same s6) v h
          · exact (g5.same s6) v h
        have N6 : Names K (upd H5 p2 (.lst (vs ++ ws))) l nm zs := ⟨s6 _ _ (k5 _ _ hln hnC hz4), hln, by omega, by omega, hzo⟩
        have s26 := s25.trans s6
        have hHp2 : H p2 = none := s25.free hp2'
        have hHl : H l = none := s2.free hl
        generalize (upd H5 p2 (.lst (vs ++ ws))) = H6 at hf6 hq6 g6 N6 s26 ⊢
        have hlp2 : l ≠ p2 := fun e => by
          rw [← e] at hp2'
          obtain ⟨x, y, e1, _⟩ := hf5
          rw [hp2'] at e1
          cases e1
        -- deep = ()
        refine ⟨(by show 0 ≤ sizeLine; decide), fun q0 hq0 => ?_⟩
        have s7 := same_new (o := .tup []) hq0
        refine ⟨_, rfl, l, 10, rfl, hf6.same s7, by decide, by decide, fun d H8 d0 d1 hf8 k8 => ?_⟩
        have k68 : Keep l H6 H8 := (Keep.same s7).trans k8
        have hl6 : ∃ ys, H6 l = some (.lst ys) := by
          obtain ⟨x, y, e1, _⟩ := hf6
          exact ⟨_, e1⟩
        obtain ⟨yl, hl6⟩ := hl6
        have g8 : Held K H8 (vs ++ ws) := g6.keep hl6 k68
        have dq0 : Dp K H8 (.ref q0) Tr.leaf.enc := Tr.keep (s7 _ _ hl6) k8 (Tr.mkLeaf upd_same)
        refine ⟨_, _, rfl, rfl, 10 + d, rfl, by omega, by omega, for_range (lo := 0) (n := (10 + d).toNat) (fun j σ H' => ∃ (x5 x7 : Option V) (dv : V) (t : Tr), σ = [some (.ref a), some (.ref p2), some (.int (0 + (i : Int))), some (.ref l), some (.ref nm), x5, some dv, x7, none, none] ∧
          Feed H' l ∧ Keep l H8 H' ∧ Dp K H' dv t.enc ∧ t.Ok ∧ t.depth ≤ j ∧ t.knots ≤ j) ⟨v5, v7, .ref q0, .leaf, rfl, hf8, Keep.refl, dq0, True.intro, Nat.zero_le _, Nat.zero_le _⟩ ?_ ?_⟩
        · rintro j σ H9 hj ⟨x5, x7, dv, t, rfl, hf9, k9, dd, okd, dpd, knd⟩
          have N9 : Names K H9 l nm zs := (N6.keep k68).keep k9
          refine ⟨_, rfl, l, 2, rfl, hf9, by decide, by decide, fun u H10 u0 u1 hf10 k10 => ?_⟩
          have dd10 := Tr.keepF hf9 k10 dd
          -- what stands behind (deep, ()) or ((), deep)
          have step : ∀ (br : Addr) (va vb : V) (ta tb' : Tr) (H11 : Hp), Same H10 H11 → H11 br = some (.tup [va, vb]) → Dp K H11 va ta.enc → Dp K H11 vb tb'.enc → ta.Ok → tb'.Ok → max ta.depth tb'.depth ≤ j → ta.knots + tb'.knots ≤ j →
              (tAsg (tOp (rCatT K) (tTup (tCons (tCall (spPick K) [] E0 (tCons (tVar 3) (tCons (tVar 4) tNil))) (tCons (tCall (spPick K) [] E0 (tCons (tVar 3) (tCons (tVar 4) tNil))) tNil))) (tVar 7)) (gName 6)) 
              { nx := (fun σ H' => ∃ (x5 x7 : Option V) (dv : V) (t : Tr), σ = [some (.ref a), some (.ref p2), some (.int (0 + (i : Int))), some (.ref l), some (.ref nm), x5, some dv, x7, none, none] ∧
                Feed H' l ∧ Keep l H8 H' ∧ Dp K H' dv t.enc ∧ t.Ok ∧ t.depth ≤ j + 1 ∧ t.knots ≤ j + 1), rt := Q } [some (.ref a), some (.ref p2), some (.int (0 + (i : Int))), some (.ref l), some (.ref nm), some (.int (0 + (j : Int))), some dv, some (.ref br), none, none] H11 := by
            intro br va vb ta tb' H11 s11 hbr da db oa ob hdep hkno
            have hf11 := hf10.same s11
            have N11 : Names K H11 l nm zs := (N9.keep k10).keep (Keep.same s11)
            refine ⟨_, rfl, _, rfl, pick_name hf11 N11 fun z1 H12 ok1 hf12 k12 => ?_⟩
            refine ⟨_, rfl, _, rfl, pick_name hf12 (N11.keep k12) fun z2 H13 ok2 hf13 k13 => ?_⟩
            have hl11 : ∃ ys, H11 l = some (.lst ys) := by
              obtain ⟨x, y, e1, _⟩ := hf11
              exact ⟨_, e1⟩
            obtain ⟨y11, hl11⟩ := hl11
            have k1113 := k12.trans k13
            have hlbr : br ≠ l := fun e => by
              rw [e, hl11] at hbr
              cases hbr
            refine ⟨(by show 2 ≤ sizeLine; decide), fun r1 hr1' => ?_⟩
            have s14 := same_new (o := .tup [.str z1, .str z2]) hr1'
            refine ⟨_, rfl, r1, br, _, _, rfl, rfl, SqT.of upd_same, SqT.of (s14 _ _ (k1113 _ _ hlbr hbr)), by simp, (by show 2 + 2 ≤ sizeLine; decide), fun e => by simp at e, fun _ r2 hr2' => ?_⟩
            have s15 := s14.trans (same_new (o := .tup [.str z1, .str z2, va, vb]) hr2')
            have l1 := ok1.len
            have l2 := ok2.len
            refine ⟨_, _, .ref r2, .node z1 z2 ta tb', rfl, hf13.same s15, (((k9.trans k10).trans (Keep.same s11)).trans k1113).trans (Keep.same s15), Tr.mkNode upd_same (Dp.same s15 (Tr.keep hl11 k1113 da)) (Dp.same s15 (Tr.keep hl11 k1113 db)), ⟨⟨ok1.side, by omega⟩, ⟨ok2.side, by omega⟩, oa, ob⟩, ?_, ?_⟩
            · show max ta.depth tb'.depth + 1 ≤ j + 1
              omega
            · show ta.knots + tb'.knots + 1 ≤ j + 1
              omega
          refine ⟨rfl, _, rfl, ite2 (fun cu => ?_) (fun cu => ?_)⟩
          · refine ⟨_, rfl, (by show 0 ≤ sizeLine; decide), fun b1 hb1 => ⟨(by show 2 ≤ sizeLine; decide), fun b2 hb2 => ?_⟩⟩
            have sx := (same_new (o := .tup []) hb1).trans (same_new (o := .tup [dv, .ref b1]) hb2)
            exact step b2 dv (.ref b1) t .leaf _ sx upd_same (Dp.same sx dd10) (Tr.mkLeaf (same_new hb2 _ _ upd_same)) okd True.intro (by show max t.depth 0 ≤ j; omega) (by show t.knots + 0 ≤ j; omega)
          · refine ⟨(by show 0 ≤ sizeLine; decide), fun b1 hb1 => ⟨_, rfl, (by show 2 ≤ sizeLine; decide), fun b2 hb2 => ?_⟩⟩
            have sx := (same_new (o := .tup []) hb1).trans (same_new (o := .tup [.ref b1, dv]) hb2)
            exact step b2 (.ref b1) dv .leaf t _ sx upd_same (Tr.mkLeaf (same_new hb2 _ _ upd_same)) (Dp.same sx dd10) True.intro okd (by show max 0 t.depth ≤ j; omega) (by show 0 + t.knots ≤ j; omega)
        · rintro σ H9 ⟨x5, x7, dv, t, rfl, hf9, k9, dd, okd, dpd, knd⟩
          have k69 := k68.trans k9
          have hq9 : H9 p2 = some (.lst (vs ++ ws)) := k69 _ _ hlp2.symm hq6
          refine ⟨_, rfl, .inl ⟨rfl, _, SqL.of hq9⟩, _, rfl, p2, _, _, rfl, rfl, hq9, ?_, ?_⟩
          · rw [List.length_append]
            exact small1000 (by omega)
          · refine ⟨p2, (vs ++ ws) ++ [dv], _, _, _, _, _, _, rfl, fun b o e => ?_, hHp2, upd_same, ?_, fun v hv => ?_⟩
            · have n1 : b ≠ p2 := ne_of_none e hHp2
              rw [upd_ne n1]
              exact k69 _ _ (ne_of_none e hHl) (s26 _ _ e)
            · rw [List.length_append, List.length_append]
              show vs.length + ws.length + 1 ≤ _
              omega
            · rcases List.mem_append.mp hv with h | h
              · exact (g6.keep hl6 k69).keep hq9 Keep.put v h
              · have e : v = dv := by simpa using h
                rw [e]
                exact ⟨t, Tr.keep hq9 Keep.put dd, okd, by omega, by omega⟩
    · rintro σ H2 ⟨p, vs, v2, v3, v4, v5, v6, v7, rfl, s2, hpH, hp2, hvs, g2⟩
      refine ⟨_, rfl, _, rfl, _, rfl, p, _, rfl, SqL.of hp2, fun c2 hc2 => ?_⟩
      have hcut2 := cut2 vs
      have hmem : ∀ v, v ∈ cutV vs none (some 2) → v ∈ vs := fun v h => cut2_mem h
      generalize (cutV vs none (some 2)) = cu at hcut2 hmem ⊢
      have s3 := same_new (o := .lst cu) hc2
      refine ⟨p, c2, _, _, rfl, rfl, s3 _ _ hp2, upd_same, ?_, fun m hm => ?_⟩
      · have : 1000 ≤ sizeLine := by decide
        omega
      have s4 := s3.trans (same_new (o := .lst (vs ++ cu)) hm)
      have h4 : (upd (upd H2 c2 (.lst cu)) m (.lst (vs ++ cu))) m = some (.lst (vs ++ cu)) := upd_same
      have g4 : Held K (upd (upd H2 c2 (.lst cu)) m (.lst (vs ++ cu))) (vs ++ cu) := fun v hv => by
        rcases List.mem_append.mp hv with h | h
        · exact (g2.same s4) v h
        · exact (g2.same s4) v (hmem v h)
      generalize (upd (upd H2 c2 (.lst cu)) m (.lst (vs ++ cu))) = H4 at h4 g4 s4 ⊢
      refine ⟨m, rfl, ⟨_, SqL.of h4⟩, for_list (K := K) (a := m) (xs := vs ++ cu) (fun j σ H' => ∃ (x8 x9 : Option V), σ = [some (.ref a), some (.ref p), v2, v3, v4, v5, v6, v7, x8, x9] ∧ Same H4 H') ⟨none, none, rfl, Same.refl _⟩ (fun j σ H' _ ⟨_, _, _, k⟩ => k.seq (SqL.of h4)) ?_ ?_⟩
      · rintro j x σ H5 hx ⟨x8, x9, rfl, s5⟩
        obtain ⟨t, dt, gt⟩ := (g4.same s5) x (List.mem_of_getElem? hx)
        have dk := t.depth_knots
        have gk := gt.knots
        have gd := gt.depth
        refine ⟨⟨_, rfl⟩, _, rfl, x, t, rfl, dt, gt.ok, by omega, by omega, fun pl H6 hpl h6 s6 => ?_⟩
        have ll := Tr.lines_len t
        have lb : ∀ s, s ∈ t.lines → s.length ≤ 1000 := fun s hs => by
          have := Tr.line_len t gt.ok s hs
          omega
        have hsum := sum_le lb
        refine ⟨_, pl, t.lines, rfl, rfl, .inl (SqL.of h6), ?_, ?_⟩
        · have e1 : (Str.ofString "\n").length = 1 := by decide +kernel
          have m1 : t.lines.length * 1000 ≤ 61 * 1000 := Nat.mul_le_mul_right _ (by omega)
          show (t.lines.map (·.length)).sum + t.lines.length * (Str.ofString "\n").length ≤ 16777216
          rw [e1]
          omega
        have deep1 : Deep 22 (.str (text t)) := True.intro
        refine ⟨_, rfl, x, t, rfl, Dp.same s6 dt, gt, fun H7 s7 => ?_⟩
        refine ⟨_, rfl, _, _, .str (text t), rfl, deep1, .str _, .str _, fun H8 s8 => ⟨true, rfl, ?_⟩⟩
        refine iteF ?_
        refine ⟨_, rfl, t, rfl, gt, fun v9 H9 d9 s9 => ?_⟩
        refine ⟨_, rfl, v9, x, t.enc, rfl, Tr.deep t 22 (by omega), d9, Dp.same (((s6.trans s7).trans s8).trans s9) dt, fun H10 s10 => ⟨true, rfl, ?_⟩⟩
        refine iteF ?_
        exact ⟨_, _, rfl, ((((s5.trans s6).trans s7).trans s8).trans s9).trans s10⟩
      · rintro σ H5 ⟨x8, x9, rfl, s5⟩
        exact q _
end
end LK

namespace LK
open PySem PySem.Spec PyProof.Rows L2
/-! ### the program: texts -/
theorem has_blank (c : Nat) : (Str.ofString " ").cps.contains c = (c == 32) := by
  have e : (Str.ofString " ").cps = #[32] := by decide +kernel
  rw [e, Bool.eq_iff_iff]
  simp
theorem strip_same {z : Str} (h : Hd z) (l : Lst z) : Txt.stripChars z (Str.ofString " ") = z := by
  obtain ⟨c, r, e, n⟩ := h
  obtain ⟨r', c', e', n'⟩ := l
  have g : (Str.ofString " ").cps.contains = fun c => c == 32 := funext has_blank
  have n1 : (c == 32) = false := by simpa using n
  have n2 : (c' == 32) = false := by simpa using n'
  unfold Txt.stripChars Txt.stripBy stripSame
  rw [g]
  have lo : stripLo (fun c => c == 32) true z = 0 := by
    unfold stripLo
    rw [if_pos rfl]
    show ((TL.tl z).takeWhile _).length = 0
    rw [e, List.takeWhile_cons_of_neg (by simp [n])]
    rfl
  have hi : stripHi (fun c => c == 32) true z 0 = z.length := by
    unfold stripHi
    rw [if_pos rfl]
    show z.length - (((TL.tl z).drop 0).reverse.takeWhile _).length = _
    rw [List.drop_zero, e', List.reverse_append]
    show z.length - (List.takeWhile _ (c' :: r'.reverse)).length = _
    rw [List.takeWhile_cons_of_neg (by simp [n'])]
    rfl
  rw [lo, hi]
  simp
def mayB (z : Str) : Bool := (!decide (V.str z = V.str (Str.ofString ""))) && (decide (V.str z = V.str (Txt.stripChars z (Str.ofString " "))) && ((!decide (60 ∈ z.cps.toList)) && !decide (61 ∈ z.cps.toList)))
theorem may_side {z : Str} (h : Side z) : mayB z = true := by
  obtain ⟨c, r, e, n⟩ := h.hd
  have h1 : V.str z ≠ V.str (Str.ofString "") := fun q => by
    have q' : z = Str.ofString "" := by injection q
    rw [q'] at e
    have : TL.tl (Str.ofString "") = [] := by decide +kernel
    rw [this] at e
    cases e
  have h2 := strip_same h.hd h.lst
  have h3 : 60 ∉ z.cps.toList := fun q => (h.all 60 q).2.2.1 rfl
  have h4 : 61 ∉ z.cps.toList := fun q => (h.all 61 q).2.2.2 rfl
  unfold mayB
  rw [h2, decide_eq_false h1, decide_eq_false h3, decide_eq_false h4]
  simp
abbrev pShow : Stmt := top 6
abbrev pRead : Stmt := top 7
abbrev pLinesOf : Stmt := top 8
abbrev pTreeAt : Stmt := top 9
abbrev pSides : Stmt := top 10
abbrev pMay : Stmt := top 11
def spMay : Sp := fun vs H Q _ => ∃ z : Str, vs = [.str z] ∧ z.length ≤ sizeLine ∧ Q (.bl (mayB z)) H
section
variable {P : Program} {w : World} {K : PySem.W.Frag} {mg : Str → Option Value} {base : Heap}
theorem scMay : FnScope ["text"] ["text"] (defScope pMay) := ⟨rfl, rfl, rfl, by decide +kernel, rfl, by decide +kernel, by decide +kernel⟩
theorem ok_may {f : Addr} {fd : FuncData} (T : Df K mg "_may_be_term" pMay f fd ["text"]) : FnOk P w K mg base CX0 1 f fd ["text"] spMay := by
  refine T.F.ok scMay (fun vs H Q E h => ?_) (fun cdv A outer s H vs Q E hr h => ?_)
  · obtain ⟨_, rfl, _⟩ := h
    rfl
  · obtain ⟨z, rfl, hz, q⟩ := h
    refine ⟨_, pss_one (ps_ret (pe_and (pe_cmpR op_ne (pv 0) pe_str (nomark _)) (pe_and (pe_cmpR op_eq (pv 0) (pe_bm PySem.F.plainAttrs_str PySem.F.slot_str_strip PySem.F.type_str_strip mt_stripChars (pv 0) (pa_cons pe_str pa_nil)) (nomark _))
      (pe_and (pe_cmpR op_notIn_sign pe_str (pv 0) (by rfl)) (pe_one (pe_cmpR op_notIn_sign pe_str (pv 0) (by rfl))))))), ?_⟩
    unfold mayB at q
    refine ⟨_, rfl, rfl, _, rfl, ?_⟩
    cases h1 : (!decide (V.str z = V.str (Str.ofString "")))
    · rw [h1] at q
      exact q
    rw [h1, Bool.true_and] at q
    refine iteT ⟨_, rfl, _, rfl, rfl, ?_⟩
    refine ⟨_, _, rfl, rfl, hz, rfl, _, rfl, ?_⟩
    cases h2 : (decide (V.str z = V.str (Txt.stripChars z (Str.ofString " "))))
    · rw [h2] at q
      exact q
    rw [h2, Bool.true_and] at q
    refine iteT ⟨_, rfl, 60, z, rfl, rfl, _, rfl, ?_⟩
    cases h3 : (!decide (60 ∈ z.cps.toList))
    · rw [h3] at q
      exact q
    rw [h3, Bool.true_and] at q
    refine iteT ⟨_, rfl, 61, z, rfl, rfl, ?_⟩
    exact q
end
end LK

namespace LK
open PySem PySem.Spec PyProof.Rows L2
/-! ### the program: the lines of a tree -/
structure Cs (mg : Str → Option Value) (t1 t2 : Tok) : Prop where
  leaf : mg "LEAF" = some (.str "so" t1)
  ind : mg "INDENT" = some (.str "  " t2)
/-- the lines of a tree, behind so much -/
def Tr.linesA (t : Tr) (a : Str) : List Str := t.lines.map (a ++ ·)
theorem empty_app (a : Str) : Str.ofString "" ++ a = a := Str.empty_append a
theorem Tr.linesA_nil (t : Tr) : t.linesA (Str.ofString "") = t.lines := by
  unfold linesA
  rw [List.map_congr_left (g := id) fun s _ => empty_app s]
  exact List.map_id _
theorem Tr.linesA_ind (t : Tr) (a : Str) : (t.lines.map Tr.ind).map (a ++ ·) = t.linesA (a ++ Str.ofString "  ") := by
  unfold linesA
  rw [List.map_map]
  exact List.map_congr_left fun s _ => (Str.append_assoc a _ s).symm
theorem Tr.linesA_node (l r : Str) (x y : Tr) (a : Str) : (Tr.node l r x y).linesA a = [a ++ l ++ Str.ofString " <= " ++ r] ++ (x.linesA (a ++ Str.ofString "  ") ++ ([a ++ r ++ Str.ofString " < " ++ l] ++ y.linesA (a ++ Str.ofString "  "))) := by
  rw [← linesA_ind, ← linesA_ind]
  show (([l ++ Str.ofString " <= " ++ r] ++ x.lines.map ind ++ [r ++ Str.ofString " < " ++ l] ++ y.lines.map ind).map (a ++ ·)) = _
  rw [List.map_append, List.map_append, List.map_append, List.append_assoc, List.append_assoc]
  simp only [List.map_cons, List.map_nil, Str.append_assoc]
theorem Tr.linesA_len (t : Tr) (a : Str) : (t.linesA a).length = 3 * t.knots + 1 := by
  unfold linesA
  rw [List.length_map, lines_len]
def spLinesOf (K : PySem.W.Frag) (n : Nat) : Sp := fun vs H Q _ => ∃ (v : V) (t : Tr) (a : Str), vs = [v, .str a] ∧ Dp K H v t.enc ∧ t.Ok ∧ t.depth < n ∧ t.knots ≤ 60 ∧ a.length + 2 * t.depth ≤ 1000 ∧
  ∀ p H', H p = none → H' p = some (.lst ((t.linesA a).map V.str)) → Same H H' → Q (.ref p) H'
section
variable {P : Program} {w : World} {K : PySem.W.Frag} {mg : Str → Option Value} {base : Heap} {t1 t2 : Tok}
def nLinesOf : List Str := ["told", "ahead", "left", "right", "one", "other"]
theorem scLinesOf : FnScope nLinesOf ["told", "ahead"] (defScope pLinesOf) := ⟨rfl, rfl, rfl, by decide +kernel, rfl, by decide +kernel, by decide +kernel⟩
theorem ok_lines_of {f : Addr} {fd : FuncData} (C : Cs mg t1 t2) (T : Df K mg "_lines_of" pLinesOf f fd ["told", "ahead"]) : ∀ n, FnOk P w K mg base CX0 (n + 1) f fd ["told", "ahead"] (spLinesOf K n)
  | 0 => T.F.ok scLinesOf (fun vs H Q E h => by obtain ⟨_, _, _, _, _, _, h, _⟩ := h; exact absurd h (Nat.not_lt_zero _)) (fun cdv A outer s H vs Q E hr h => by obtain ⟨_, _, _, _, _, _, h, _⟩ := h; exact absurd h (Nat.not_lt_zero _))
  | n + 1 => by
    have G := ok_lines_of C T n
    refine T.F.ok scLinesOf (fun vs H Q E h => ?_) (fun cdv A outer s H vs Q E hr h => ?_)
    · obtain ⟨_, _, _, rfl, _⟩ := h
      rfl
    · obtain ⟨v, t, a, rfl, hv, ok, hdp, hkn, hal, q⟩ := h
      refine ⟨_, pss_cons (ps_if (pt_not (pt_truth (pv 0) (by intro _; rfl))) (pss_one (ps_ret (pe_lst (pa_cons (pe_op op_add_str (pv 1) (pe_glob (v := .str "so") rfl C.leaf ⟨_, rfl⟩)) pa_nil)))) pss_nil)
        (pss_cons (ps_asg (pv 0) (pg_tup (by rfl) (pgs_cons (pg_name (i := 2) scLinesOf.nd rfl (.inl rfl)) (pgs_cons (pg_name (i := 3) scLinesOf.nd rfl (.inl rfl)) (pgs_cons (pg_name (i := 4) scLinesOf.nd rfl (.inl rfl)) (pgs_cons (pg_name (i := 5) scLinesOf.nd rfl (.inl rfl)) pgs_nil))))))
        (pss_one (ps_ret (pe_lst (pa_cons (pe_joined (.cons (pe_fmt (pv 1)) (.cons (pe_fmt (pv 2)) (.cons pe_str (.cons (pe_fmt (pv 3)) .nil)))))
          (StX.pa_star (pe_call G hr rfl T.g T.F.kp T.b .nil pass0 (pa_cons (pv 4) (pa_cons (pe_op op_add_str (pv 1) (pe_glob (v := .str "  ") rfl C.ind ⟨_, rfl⟩)) pa_nil)))
          (pa_cons (pe_joined (.cons (pe_fmt (pv 1)) (.cons (pe_fmt (pv 3)) (.cons pe_str (.cons (pe_fmt (pv 2)) .nil)))))
          (StX.pa_star (pe_call G hr rfl T.g T.F.kp T.b .nil pass0 (pa_cons (pv 5) (pa_cons (pe_op op_add_str (pv 1) (pe_glob (v := .str "  ") rfl C.ind ⟨_, rfl⟩)) pa_nil))) pa_nil)))))))), ?_⟩
      have sz : (16777216 : Nat) ≤ sizeLine := by decide
      have e4 : (Str.ofString " <= ").length = 4 := by decide +kernel
      have e3 : (Str.ofString " < ").length = 3 := by decide +kernel
      have e2 : (Str.ofString "  ").length = 2 := by decide +kernel
      have es : (Str.ofString "so").length = 2 := by decide +kernel
      cases t with
      | leaf =>
        cases hv with
        | tup h0 b =>
          cases b
          refine ⟨_, rfl, false, .inr (.inl ⟨_, h0, rfl⟩), iteT ?_⟩
          refine ⟨_, rfl, _, _, rfl, rfl, (by show a.length + (Str.ofString "so").length ≤ sizeLine; omega), (by show 1 ≤ sizeLine; decide), fun p hp => ?_⟩
          exact q p _ hp upd_same (same_new hp)
      | node l r x y =>
        obtain ⟨p0, va, vb, rfl, hp0, ha, hb⟩ := Tr.parts hv
        obtain ⟨⟨sl, ll⟩, ⟨sr, lr⟩, oa, ob⟩ := id ok
        have hdp' : max x.depth y.depth + 1 < n + 1 := hdp
        have hal' : a.length + 2 * (max x.depth y.depth + 1) ≤ 1000 := hal
        have hkn' : x.knots + y.knots + 1 ≤ 60 := hkn
        refine ⟨_, rfl, true, .inr (.inl ⟨_, hp0, rfl⟩), iteF ?_⟩
        refine ⟨_, rfl, p0, _, rfl, hp0, rfl, ?_⟩
        have le : (Str.empty ++ a).length = a.length := by rw [Str.empty_append]
        refine ⟨_, _, rfl, _, _, rfl, _, _, rfl, _, _, rfl, rfl, ?_⟩
        refine ⟨_, rfl, .inl ⟨_, rfl, by omega, _, rfl, by omega, ?_⟩⟩
        refine ⟨_, rfl, .inl ⟨_, rfl, by omega, _, rfl, (by rw [len_app]; omega), ?_⟩⟩
        refine ⟨_, rfl, (by rw [len_app, len_app, e4]; omega), ?_⟩
        refine ⟨_, rfl, .inl ⟨_, rfl, by omega, _, rfl, (by rw [len_app, len_app, len_app, e4]; omega), ?_⟩⟩
        refine ⟨_, rfl, _, rfl, _, _, rfl, rfl, (by show a.length + (Str.ofString "  ").length ≤ sizeLine; omega), va, x, _, rfl, ha, oa, by omega, by omega, (by rw [len_app, e2]; omega), fun p1 H1 hp1 h1 s1 => ?_⟩
        refine ⟨p1, _, rfl, .inr (SqL.of h1), ?_⟩
        refine ⟨_, rfl, .inl ⟨_, rfl, by omega, _, rfl, by omega, ?_⟩⟩
        refine ⟨_, rfl, .inl ⟨_, rfl, by omega, _, rfl, (by rw [len_app]; omega), ?_⟩⟩
        refine ⟨_, rfl, (by rw [len_app, len_app, e3]; omega), ?_⟩
        refine ⟨_, rfl, .inl ⟨_, rfl, by omega, _, rfl, (by rw [len_app, len_app, len_app, e3]; omega), ?_⟩⟩
        refine ⟨_, rfl, _, rfl, _, _, rfl, rfl, (by show a.length + (Str.ofString "  ").length ≤ sizeLine; omega), vb, y, _, rfl, Dp.same s1 hb, ob, by omega, by omega, (by rw [len_app, e2]; omega), fun p2 H2 hp2 h2 s2 => ?_⟩
        refine ⟨p2, _, rfl, .inr (SqL.of h2), ?_⟩
        have lx := Tr.linesA_len x (a ++ Str.ofString "  ")
        have ly := Tr.linesA_len y (a ++ Str.ofString "  ")
        refine ⟨?_, fun p3 hp3 => ?_⟩
        · simp only [List.length_append, List.length_map, List.length_cons, List.length_nil, lx, ly]
          omega
        · refine q p3 _ ((s1.trans s2).free hp3) ?_ ((s1.trans s2).trans (same_new hp3))
          rw [upd_same, Tr.linesA_node]
          simp only [List.map_append, List.map_cons, List.map_nil, Str.empty_append, List.append_nil, List.singleton_append, List.cons_append, List.nil_append]
def spShow0 (K : PySem.W.Frag) : Sp := spShow K
theorem scShow : FnScope ["told"] ["told"] (defScope pShow) := ⟨rfl, rfl, rfl, by decide +kernel, rfl, by decide +kernel, by decide +kernel⟩
theorem ok_show {f fL : Addr} {fd fdL : FuncData} (C : Cs mg t1 t2) (F : Fun K "show_tree" "show_tree" pShow f fd) (L : Df K mg "_lines_of" pLinesOf fL fdL ["told", "ahead"]) : FnOk P w K mg base CX0 23 f fd ["told"] (spShow K) := by
  have G : FnOk P w K mg base CX0 22 fL fdL ["told", "ahead"] (spLinesOf K 21) := ok_lines_of C L 21
  refine F.ok scShow (fun vs H Q E h => ?_) (fun cdv A outer s H vs Q E hr h => ?_)
  · obtain ⟨_, _, rfl, _⟩ := h
    rfl
  · obtain ⟨v, t, rfl, hv, gt, q⟩ := h
    have dk := t.depth_knots
    have gk := gt.knots
    have gd := gt.depth
    refine ⟨_, pss_one (ps_ret (pe_join pe_str (pe_call G hr rfl L.g L.F.kp L.b .nil pass0 (pa_cons (pv 0) (pa_cons pe_str pa_nil))))), ?_⟩
    have e0 : (Str.ofString "").length = 0 := by decide +kernel
    refine ⟨⟨_, rfl⟩, _, rfl, v, t, _, rfl, hv, gt.ok, by omega, by omega, by rw [e0]; omega, fun p H1 hp h1 s1 => ?_⟩
    rw [Tr.linesA_nil] at h1
    have ll := Tr.lines_len t
    have lb : ∀ s, s ∈ t.lines → s.length ≤ 1000 := fun s hs => by
      have := Tr.line_len t gt.ok s hs
      omega
    have hsum := sum_le lb
    refine ⟨_, p, t.lines, rfl, rfl, .inl (SqL.of h1), ?_, q _ s1⟩
    have e1 : (Str.ofString "\n").length = 1 := by decide +kernel
    have m1 : t.lines.length * 1000 ≤ 61 * 1000 := Nat.mul_le_mul_right _ (by omega)
    show (t.lines.map (·.length)).sum + t.lines.length * (Str.ofString "\n").length ≤ 16777216
    rw [e1]
    omega
end
end LK

namespace LK
open PySem PySem.Spec PyProof.Rows L2
/-! ### the program: a tree read -/
theorem starts_app (a x : Str) : Txt.startswith (a ++ x) a = true := by
  unfold Txt.startswith
  rw [PySem.StrLaws.subAt_eq]
  have e : (a ++ x).cps.toList = a.cps.toList ++ x.cps.toList := TL.tl_append a x
  have n : a.length = a.cps.toList.length := TL.len_tl a
  rw [len_app, e, n, List.drop_zero, List.take_left' rfl]
  simp
theorem cut_app (a x : Str) : cutS (a ++ x) (some (a.length : Int)) none = x := by
  refine TL.ext_tl ?_
  unfold cutS
  show ((TL.tl (a ++ x)).drop _).take _ = _
  rw [HT.sIx_nat, HT.sIx_none, len_app, Nat.min_eq_left (Nat.le_add_right _ _), TL.tl_append, TL.len_tl a, TL.len_tl x, List.drop_left' rfl]
  exact List.take_of_length_le (by omega)
theorem side_free {l q : List Nat} (h1 : 60 ∉ l) (h2 : ∀ r c, l = r ++ [c] → c ≠ 32) (hq : ∀ c r, q = c :: r → c ≠ 60 ∨ True) : ∀ i, i < l.length → TL.pre [32, 60, 61, 32] ((l ++ q).drop i) = false := by
  intro i hi
  rw [List.drop_append_of_le_length (Nat.le_of_lt hi), List.drop_eq_getElem_cons hi]
  by_cases c : l[i] = 32
  · by_cases hj : i + 1 < l.length
    · have n : l[i + 1] ≠ 60 := fun e => h1 (by rw [← e]; exact List.getElem_mem hj)
      rw [List.drop_eq_getElem_cons hj]
      generalize l[i] = d at *
      generalize l[i + 1] = d' at *
      generalize l.drop (i + 1 + 1) = m at *
      show ((d :: d' :: m ++ q).take 4 == [32, 60, 61, 32]) = false
      rw [List.cons_append, List.cons_append, List.take_succ_cons, List.take_succ_cons]
      simp [n]
    · have e : l = l.take i ++ [l[i]] := by
        rw [List.take_append_getElem hi, List.take_of_length_le (by omega)]
      exact absurd c (h2 _ _ e)
  · exact TL.pre_of_head _ _ c
theorem Side.n60 {z : Str} (h : Side z) : 60 ∉ TL.tl z := fun q => (h.all 60 q).2.2.1 rfl
theorem Side.last {z : Str} (h : Side z) : ∀ r c, TL.tl z = r ++ [c] → c ≠ 32 := fun r c e => by
  obtain ⟨r', c', e', n⟩ := h.lst
  rw [e] at e'
  have := List.append_inj_right' e' rfl
  simp at this
  rw [this]
  exact n
theorem split_sides {l r : Str} (hl : Side l) (hr : Side r) : Txt.split (l ++ Str.ofString " <= " ++ r) (Str.ofString " <= ") = [l, r] := by
  have e : TL.tl (Str.ofString " <= ") = [32, 60, 61, 32] := by decide +kernel
  refine TL.map_tl_inj ?_
  rw [TL.split_spl _ _ (by rw [e]; simp) (TL.kind_ok (by decide +kernel)), e, TL.tl_append, TL.tl_append, e, List.append_assoc]
  rw [TL.spl_part (by simp) (side_free hl.n60 hl.last fun _ _ _ => Or.inr trivial)]
  have h2 := side_free (q := []) hr.n60 hr.last fun _ _ _ => Or.inr trivial
  simp only [List.append_nil] at h2
  rw [TL.spl_last h2]
  rfl
/-- the signs of the lines -/
def Low (z : Str) : Prop := ∀ c, c ∈ TL.tl z → 32 ≤ c
theorem Low.app {x y : Str} (a : Low x) (b : Low y) : Low (x ++ y) := fun c h => by
  rw [TL.tl_append] at h
  rcases List.mem_append.mp h with h | h
  · exact a c h
  · exact b c h
theorem Side.low {z : Str} (h : Side z) : Low z := fun c q => (h.all c q).1
theorem Tr.line_low : ∀ (t : Tr), t.Ok → ∀ s, s ∈ t.lines → Low s
  | leaf, _, s, h => by
    have e : s = Str.ofString "so" := by simpa [lines] using h
    rw [e]
    unfold Low
    decide +kernel
  | node l r a b, ⟨⟨hl, _⟩, ⟨hr, _⟩, oa, ob⟩, s, h => by
    have l1 : Low (Str.ofString " <= ") := by unfold Low; decide +kernel
    have l2 : Low (Str.ofString " < ") := by unfold Low; decide +kernel
    have l3 : Low (Str.ofString "  ") := by unfold Low; decide +kernel
    rcases List.mem_append.mp h with h | h
    · rcases List.mem_append.mp h with h | h
      · rcases List.mem_append.mp h with h | h
        · have e : s = l ++ Str.ofString " <= " ++ r := by simpa using h
          rw [e]
          exact (hl.low.app l1).app hr.low
        · obtain ⟨u, hu, rfl⟩ := List.mem_map.mp h
          exact l3.app (line_low a oa u hu)
      · have e : s = r ++ Str.ofString " < " ++ l := by simpa using h
        rw [e]
        exact (hr.low.app l2).app hl.low
    · obtain ⟨u, hu, rfl⟩ := List.mem_map.mp h
      exact l3.app (line_low b ob u hu)
theorem Tr.lines_ne (t : Tr) : t.lines ≠ [] := fun e => by
  have := t.lines_len
  rw [e] at this
  cases this
theorem split_text {t : Tr} (ok : t.Ok) : Txt.split (text t) (Str.ofString "\n") = t.lines := by
  unfold text
  refine TL.split_join (y := Str.ofString "\n") (s := 10) (S := []) (by decide +kernel) (by decide +kernel) t.lines_ne fun p hp q => ?_
  have := Tr.line_low t ok p hp 10 q
  omega
end LK

namespace LK
open PySem PySem.Spec PyProof.Rows L2
def spSides (K : PySem.W.Frag) : Sp := fun vs H Q _ => ∃ (L : Addr) (ls : List Str) (at' : Nat) (a l r : Str), vs = [.ref L, .int at', .str a] ∧ SqL K H L (ls.map V.str) ∧ ls[at']? = some (a ++ (l ++ Str.ofString " <= " ++ r)) ∧
  Side l ∧ Side r ∧ l.length ≤ 200 ∧ r.length ≤ 200 ∧ a.length ≤ 1000 ∧ ∀ p H', H p = none → H' p = some (.lst [.str l, .str r]) → Same H H' → Q (.ref p) H'
theorem item_str {ls : List Str} {i : Nat} {x : Str} (h : ls[i]? = some x) : (ls.map V.str)[i]? = some (V.str x) := by
  rw [List.getElem?_map, h]
  rfl
section
variable {P : Program} {w : World} {K : PySem.W.Frag} {mg : Str → Option Value} {base : Heap} {t1 t2 : Tok}
def nSides : List Str := ["lines", "at", "ahead", "sides", "side"]
theorem scSides : FnScope nSides ["lines", "at", "ahead"] (defScope pSides) := ⟨rfl, rfl, rfl, by decide +kernel, rfl, by decide +kernel, by decide +kernel⟩
theorem ok_sides {f fM : Addr} {fd fdM : FuncData} (S : Std mg) (T : Df K mg "_sides_in" pSides f fd ["lines", "at", "ahead"]) (M : Df K mg "_may_be_term" pMay fM fdM ["text"]) : FnOk P w K mg base CX0 2 f fd ["lines", "at", "ahead"] (spSides K) := by
  have GM : FnOk P w K mg base CX0 1 fM fdM ["text"] spMay := ok_may M
  refine T.F.ok scSides (fun vs H Q E h => ?_) (fun cdv A outer s H vs Q E hr h => ?_)
  · obtain ⟨_, _, _, _, _, _, rfl, _⟩ := h
    rfl
  · obtain ⟨L, ls, at', a, l, r, rfl, hS, hx, sl, sr, ll, lr, la, q⟩ := h
    refine ⟨_, pss_cons (ps_if (PW.pt (pw_or (pt_cmpR op_eq (pv 1) (pe_callB call_len_seq (by rfl) S.len PySem.boot_len (pa_cons (pv 0) pa_nil)) (nomark _))
        (pw_or1 (pt_not (pt_val (pe_bm PySem.F.plainAttrs_str PySem.F.slot_str_startswith PySem.F.type_str_startswith mt_startswith (pe_ix ix_list (pv 0) (pv 1) (fun _ _ => rfl)) (pa_cons (pv 2) pa_nil))))))) (pss_one ps_never) pss_nil)
      (pss_cons (ps_set (i := 3) scSides.nd rfl (Or.inl rfl) (pe_split (pe_slice sl_str (pe_ix ix_list (pv 0) (pv 1) (fun _ _ => rfl)) (po_some (pe_callB call_len_str (by rfl) S.len PySem.boot_len (pa_cons (pv 2) pa_nil))) po_none) pe_str))
      (pss_cons (ps_if (PW.pt (pw_or (pt_cmpR op_ne (pe_callB call_len_seq (by rfl) S.len PySem.boot_len (pa_cons (pv 3) pa_nil)) pe_int (nomark _))
        (pw_or1 (pt_not (pt_val (pe_callB (cr_all rfl) (by rfl) S.all (by decide +kernel) (pa_cons (pe_lc (own := [("side", 4)]) (g := gName 4) (tt := tYes) rfl scSides.nd (pi_list (pv 3))
          (blkOk_by (N := nSides) (sc := defScope pSides) (by decide +kernel)) (fun _ _ _ _ _ => pg_name (i := 4) scSides.nd rfl (Or.inl rfl)) (fun _ _ _ _ _ => pts_nil)
          (fun _ _ _ _ _ => pe_call GM hr rfl M.g M.F.kp M.b .nil pass0 (pa_cons (pv 4) pa_nil))) pa_nil))))))) (pss_one ps_never) pss_nil)
      (pss_one (ps_ret (pv 3))))), ?_⟩
    have sz : (16777216 : Nat) ≤ sizeLine := by decide
    have e4 : (Str.ofString " <= ").length = 4 := by decide +kernel
    have hlt := (List.getElem?_eq_some_iff.mp hx).1
    have hln : (a ++ (l ++ Str.ofString " <= " ++ r)).length ≤ 1404 := by
      rw [len_app, len_app, len_app, e4]
      omega
    refine ⟨_, rfl, _, rfl, L, _, rfl, .inl hS, rfl, _, rfl, ?_⟩
    rw [List.length_map, decide_eq_false (show V.int (at' : Int) ≠ V.int (ls.length : Nat) from fun e => by injection e with e; omega)]
    refine iteF ⟨_, rfl, _, rfl, L, _, _, _, rfl, rfl, hS, atI_nat (item_str hx), rfl, _, rfl, _, _, rfl, rfl, _, rfl, ?_⟩
    rw [starts_app]
    refine iteF ?_
    refine ⟨_, rfl, _, rfl, L, _, _, _, rfl, rfl, hS, atI_nat (item_str hx), _, rfl, _, rfl, by omega, _, rfl, _, rfl, by omega, ⟨_, rfl⟩, _, _, rfl, rfl, by decide +kernel, ?_, fun p hp => ?_⟩
    · rw [cut_app]
      rw [len_app, len_app, e4]
      omega
    rw [cut_app, split_sides sl sr]
    have s1 : Same H (upd H p (.lst ([l, r].map V.str))) := same_new hp
    have h1 : (upd H p (.lst ([l, r].map V.str))) p = some (.lst [V.str l, V.str r]) := upd_same
    generalize (upd H p (.lst ([l, r].map V.str))) = H1 at s1 h1 ⊢
    refine ⟨_, rfl, p, _, rfl, .inl (SqL.of h1), rfl, _, rfl, ?_⟩
    refine iteF ⟨_, rfl, p, rfl, ⟨_, SqL.of h1⟩, fun D hD => ?_⟩
    have hpD : p ≠ D := ne_of_none h1 hD
    have hHD : H D = none := s1.free hD
    refine lc_list (K := K) (a := p) (xs := [V.str l, V.str r]) (fun i H2 => Keep D H1 H2 ∧ H2 D = some (.lst (List.replicate i (V.bl true)))) ⟨Keep.new hD, upd_same⟩ (fun i H2 _ ⟨k, _⟩ => SqL.of (k _ _ hpD h1)) ?_ ?_
    · rintro j x H2 hx ⟨k2, d2⟩
      obtain ⟨u, rfl, su, lu⟩ : ∃ u, x = V.str u ∧ Side u ∧ u.length ≤ 200 := by
        have hm := List.mem_of_getElem? hx
        rcases List.mem_cons.mp hm with rfl | hm
        · exact ⟨l, rfl, sl, ll⟩
        rcases List.mem_cons.mp hm with rfl | hm
        · exact ⟨r, rfl, sr, lr⟩
        · cases hm
      have hj : j < 2 := (List.getElem?_eq_some_iff.mp hx).1
      refine ⟨rfl, _, rfl, u, rfl, by omega, ?_⟩
      rw [may_side su]
      refine ⟨_, d2, by rw [List.length_replicate]; exact small1000 (by omega), fun b o n e => by rw [upd_ne n]; exact k2 b o n e, ?_⟩
      rw [upd_same, List.replicate_succ']
    · rintro H2 ⟨k2, d2⟩
      refine ⟨D, [true, true], rfl, SqL.of d2, _, rfl, ?_⟩
      refine iteF ⟨_, rfl, ?_⟩
      have kk : Same H1 H2 := fun b o e => k2 b o (ne_of_none e hD) e
      exact q p H2 hp (kk _ _ h1) (s1.trans kk)
end
end LK

namespace LK
open PySem PySem.Spec PyProof.Rows L2
def spTreeAt (K : PySem.W.Frag) (n : Nat) : Sp := fun vs H Q _ => ∃ (L : Addr) (ls : List Str) (i : Nat) (a : Str) (t : Tr) (rest : List Str), vs = [.ref L, .int i, .str a] ∧ SqL K H L (ls.map V.str) ∧ ls.drop i = t.linesA a ++ rest ∧ ls.length ≤ 1000 ∧
  t.Ok ∧ t.depth < n ∧ t.knots ≤ 60 ∧ a.length + 2 * t.depth ≤ 1000 ∧ ∀ p v H', H' p = some (.tup [v, .int (i + (3 * t.knots + 1) : Nat)]) → Dp K H' v t.enc → Same H H' → Q (.ref p) H'
theorem drop_get {α : Type} {ls xs : List α} {i : Nat} {x : α} (h : ls.drop i = x :: xs) : ls[i]? = some x ∧ ls.drop (i + 1) = xs := by
  have h1 : (ls.drop i)[0]? = some x := by rw [h]; rfl
  rw [List.getElem?_drop] at h1
  refine ⟨by simpa using h1, ?_⟩
  have h2 : (ls.drop i).drop 1 = xs := by rw [h]; rfl
  rw [List.drop_drop] at h2
  exact h2
theorem drop_app {α : Type} {ls xs ys : List α} {i : Nat} (h : ls.drop i = xs ++ ys) : ls.drop (i + xs.length) = ys := by
  rw [← List.drop_drop, h, List.drop_left' rfl]
theorem str_app_inj {a x y : Str} (h : a ++ x = a ++ y) : x = y := by
  have := congrArg TL.tl h
  rw [TL.tl_append, TL.tl_append] at this
  exact TL.ext_tl (List.append_cancel_left this)
theorem no_leaf (l r : Str) : l ++ Str.ofString " <= " ++ r ≠ Str.ofString "so" := fun e => by
  have h := congrArg TL.tl e
  rw [TL.tl_append, TL.tl_append] at h
  have h1 : TL.tl (Str.ofString " <= ") = [32, 60, 61, 32] := by decide +kernel
  have h2 : TL.tl (Str.ofString "so") = [115, 111] := by decide +kernel
  rw [h1, h2] at h
  have hm : 60 ∈ [115, 111] := by
    rw [← h]
    simp
  revert hm
  decide
section
variable {P : Program} {w : World} {K : PySem.W.Frag} {mg : Str → Option Value} {base : Heap} {t1 t2 : Tok}
def nTreeAt : List Str := ["lines", "at", "ahead", "left", "right", "one", "stop", "other"]
theorem scTreeAt : FnScope nTreeAt ["lines", "at", "ahead"] (defScope pTreeAt) := ⟨rfl, rfl, rfl, by decide +kernel, rfl, by decide +kernel, by decide +kernel⟩
theorem ok_tree_at {f fS : Addr} {fd fdS : FuncData} (S : Std mg) (C : Cs mg t1 t2) (T : Df K mg "_tree_at" pTreeAt f fd ["lines", "at", "ahead"]) (SI : Df K mg "_sides_in" pSides fS fdS ["lines", "at", "ahead"])
    (GS : FnOk P w K mg base CX0 2 fS fdS ["lines", "at", "ahead"] (spSides K)) : ∀ n, FnOk P w K mg base CX0 (n + 3) f fd ["lines", "at", "ahead"] (spTreeAt K n)
  | 0 => T.F.ok scTreeAt (fun vs H Q E h => by obtain ⟨_, _, _, _, _, _, _, _, _, _, _, h, _⟩ := h; exact absurd h (Nat.not_lt_zero _)) (fun cdv A outer s H vs Q E hr h => by obtain ⟨_, _, _, _, _, _, _, _, _, _, _, h, _⟩ := h; exact absurd h (Nat.not_lt_zero _))
  | n + 1 => by
    have G := ok_tree_at S C T SI GS n
    refine T.F.ok scTreeAt (fun vs H Q E h => ?_) (fun cdv A outer s H vs Q E hr h => ?_)
    · obtain ⟨_, _, _, _, _, _, rfl, _⟩ := h
      rfl
    · obtain ⟨L, ls, i, a, t, rest, rfl, hS, hd, hls, ok, hdp, hkn, hal, q⟩ := h
      have hr2 : Room 2 _ := hr.mono (by omega)
      refine ⟨_, pss_cons (ps_if (PW.pt (pw_and (pt_cmpR op_lt (pv 1) (pe_callB call_len_seq (by rfl) S.len PySem.boot_len (pa_cons (pv 0) pa_nil)) (nomark _))
          (pw_and1 (pt_cmpR op_eq (pe_ix ix_list (pv 0) (pv 1) (fun _ _ => rfl)) (pe_op op_add_str (pv 2) (pe_glob (v := .str "so") rfl C.leaf ⟨_, rfl⟩)) (nomark _)))))
          (pss_one (ps_ret (pe_tup (pa_cons (pe_tup pa_nil) (pa_cons (pe_op op_add (pv 1) pe_int) pa_nil))))) pss_nil)
        (pss_cons (ps_asg (pe_call GS hr2 rfl SI.g SI.F.kp SI.b .nil pass0 (pa_cons (pv 0) (pa_cons (pv 1) (pa_cons (pv 2) pa_nil)))) (pg_lst (by rfl) (pgs_cons (pg_name (i := 3) scTreeAt.nd rfl (.inl rfl)) (pgs_cons (pg_name (i := 4) scTreeAt.nd rfl (.inl rfl)) pgs_nil))))
        (pss_cons (ps_asg (pe_call G hr rfl T.g T.F.kp T.b .nil pass0 (pa_cons (pv 0) (pa_cons (pe_op op_add (pv 1) pe_int) (pa_cons (pe_op op_add_str (pv 2) (pe_glob (v := .str "  ") rfl C.ind ⟨_, rfl⟩)) pa_nil)))) (pg_tup (by rfl) (pgs_cons (pg_name (i := 5) scTreeAt.nd rfl (.inl rfl)) (pgs_cons (pg_name (i := 6) scTreeAt.nd rfl (.inl rfl)) pgs_nil))))
        (pss_cons (ps_if (PW.pt (pw_or (pt_cmpR op_eq (pv 6) (pe_callB call_len_seq (by rfl) S.len PySem.boot_len (pa_cons (pv 0) pa_nil)) (nomark _))
          (pw_or1 (pt_cmpR op_ne (pe_ix ix_list (pv 0) (pv 6) (fun _ _ => rfl)) (pe_joined (.cons (pe_fmt (pv 2)) (.cons (pe_fmt (pv 4)) (.cons pe_str (.cons (pe_fmt (pv 3)) .nil))))) (nomark _))))) (pss_one ps_never) pss_nil)
        (pss_cons (ps_asg (pe_call G hr rfl T.g T.F.kp T.b .nil pass0 (pa_cons (pv 0) (pa_cons (pe_op op_add (pv 6) pe_int) (pa_cons (pe_op op_add_str (pv 2) (pe_glob (v := .str "  ") rfl C.ind ⟨_, rfl⟩)) pa_nil)))) (pg_tup (by rfl) (pgs_cons (pg_name (i := 7) scTreeAt.nd rfl (.inl rfl)) (pgs_cons (pg_name (i := 6) scTreeAt.nd rfl (.inl rfl)) pgs_nil))))
        (pss_one (ps_ret (pe_tup (pa_cons (pe_tup (pa_cons (pv 3) (pa_cons (pv 4) (pa_cons (pv 5) (pa_cons (pv 7) pa_nil))))) (pa_cons (pv 6) pa_nil))))))))), ?_⟩
      have sz : (16777216 : Nat) ≤ sizeLine := by decide
      have e4 : (Str.ofString " <= ").length = 4 := by decide +kernel
      have e3 : (Str.ofString " < ").length = 3 := by decide +kernel
      have e2 : (Str.ofString "  ").length = 2 := by decide +kernel
      have es : (Str.ofString "so").length = 2 := by decide +kernel
      cases t with
      | leaf =>
        have hx := (drop_get (x := a ++ Str.ofString "so") (xs := rest) hd).1
        have hlt := (List.getElem?_eq_some_iff.mp hx).1
        have hal' : a.length + 2 * 0 ≤ 1000 := hal
        refine ⟨_, rfl, _, rfl, L, _, rfl, .inl hS, _, _, rfl, rfl, _, rfl, ?_⟩
        rw [List.length_map, decide_eq_true (show (i : Int) < (ls.length : Nat) by omega)]
        refine iteT ⟨_, rfl, _, rfl, L, _, _, _, rfl, rfl, hS, atI_nat (item_str hx), _, rfl, _, _, rfl, rfl, (by show a.length + (Str.ofString "so").length ≤ sizeLine; omega), rfl, _, rfl, ?_⟩
        rw [decide_eq_true (show V.str (a ++ Str.ofString "so") = V.str (a ++ Str.ofString "so") from rfl)]
        refine iteT ⟨(by show 0 ≤ sizeLine; decide), fun p hp => ?_⟩
        refine ⟨_, rfl, _, _, rfl, rfl, (by show 2 ≤ sizeLine; decide), fun p2 hp2 => ?_⟩
        refine q p2 (.ref p) _ ?_ (Tr.mkLeaf (same_new hp2 _ _ upd_same)) ((same_new hp).trans (same_new hp2))
        rw [upd_same]
        rfl
      | node l r x y =>
        rw [Tr.linesA_node, List.append_assoc, List.append_assoc, List.append_assoc] at hd
        obtain ⟨hx, hd1⟩ := drop_get hd
        have hd1 : ls.drop (i + 1) = x.linesA (a ++ Str.ofString "  ") ++ ([a ++ r ++ Str.ofString " < " ++ l] ++ (y.linesA (a ++ Str.ofString "  ") ++ rest)) := hd1
        have hlt := (List.getElem?_eq_some_iff.mp hx).1
        obtain ⟨⟨sl, ll⟩, ⟨sr, lr⟩, oa, ob⟩ := id ok
        have hdp' : max x.depth y.depth + 1 < n + 1 := hdp
        have hal' : a.length + 2 * (max x.depth y.depth + 1) ≤ 1000 := hal
        have hkn' : x.knots + y.knots + 1 ≤ 60 := hkn
        have hd2 := drop_app hd1
        rw [Tr.linesA_len] at hd2
        obtain ⟨hx2, hd3⟩ := drop_get hd2
        have hd3 : ls.drop (i + 1 + (3 * x.knots + 1) + 1) = y.linesA (a ++ Str.ofString "  ") ++ rest := hd3
        have hlt2 := (List.getElem?_eq_some_iff.mp hx2).1
        have eas : a ++ l ++ Str.ofString " <= " ++ r = a ++ (l ++ Str.ofString " <= " ++ r) := by simp only [Str.append_assoc]
        refine ⟨_, rfl, _, rfl, L, _, rfl, .inl hS, _, _, rfl, rfl, _, rfl, ?_⟩
        rw [List.length_map, decide_eq_true (show (i : Int) < (ls.length : Nat) by omega)]
        refine iteT ⟨_, rfl, _, rfl, L, _, _, _, rfl, rfl, hS, atI_nat (item_str hx), _, rfl, _, _, rfl, rfl, (by show a.length + (Str.ofString "so").length ≤ sizeLine; omega), rfl, _, rfl, ?_⟩
        rw [decide_eq_false (show V.str (a ++ l ++ Str.ofString " <= " ++ r) ≠ V.str (a ++ Str.ofString "so") from fun e => by
          injection e with e
          rw [eas] at e
          exact no_leaf l r (str_app_inj e))]
        refine iteF ?_
        refine ⟨_, rfl, _, rfl, _, rfl, L, ls, i, a, l, r, rfl, hS, eas ▸ hx, sl, sr, ll, lr, by omega, fun p1 H1 hp1 h1 s1 => ?_⟩
        refine ⟨p1, _, rfl, SqL.of h1, rfl, _, _, rfl, _, _, rfl, rfl, ?_⟩
        refine ⟨_, rfl, _, rfl, _, _, rfl, rfl, _, rfl, _, _, rfl, rfl, (by show a.length + (Str.ofString "  ").length ≤ sizeLine; omega), L, ls, i + 1, _, x, _, rfl, s1.seq hS, hd1, hls, oa, by omega, by omega, (by rw [len_app, e2]; omega), fun p2 v2 H2 h2 dv2 s2 => ?_⟩
        refine ⟨p2, _, rfl, SqT.of h2, rfl, _, _, rfl, _, _, rfl, rfl, ?_⟩
        have s02 := s1.trans s2
        refine ⟨_, rfl, _, rfl, L, _, rfl, .inl (s02.seq hS), rfl, _, rfl, ?_⟩
        rw [List.length_map, decide_eq_false (show V.int ((i + 1 + (3 * x.knots + 1) : Nat) : Int) ≠ V.int (ls.length : Nat) from fun e => by injection e with e; omega)]
        refine iteF ⟨_, rfl, _, rfl, L, _, _, _, rfl, rfl, s02.seq hS, atI_nat (item_str hx2), ?_⟩
        have le : (Str.empty ++ a).length = a.length := by rw [Str.empty_append]
        refine ⟨_, rfl, .inl ⟨_, rfl, by omega, _, rfl, by omega, ?_⟩⟩
        refine ⟨_, rfl, .inl ⟨_, rfl, by omega, _, rfl, (by rw [len_app]; omega), ?_⟩⟩
        refine ⟨_, rfl, (by rw [len_app, len_app, e3]; omega), ?_⟩
        refine ⟨_, rfl, .inl ⟨_, rfl, by omega, _, rfl, (by rw [len_app, len_app, len_app, e3]; omega), ?_⟩⟩
        refine ⟨rfl, _, rfl, ?_⟩
        rw [decide_eq_true (show V.str (a ++ r ++ Str.ofString " < " ++ l) = V.str (Str.empty ++ a ++ r ++ Str.ofString " < " ++ l) by rw [Str.empty_append])]
        refine iteF ?_
        refine ⟨_, rfl, _, rfl, _, _, rfl, rfl, _, rfl, _, _, rfl, rfl, (by show a.length + (Str.ofString "  ").length ≤ sizeLine; omega), L, ls, i + 1 + (3 * x.knots + 1) + 1, _, y, _, rfl, s02.seq hS, hd3, hls, ob, by omega, by omega, (by rw [len_app, e2]; omega), fun p3 v3 H3 h3 dv3 s3 => ?_⟩
        refine ⟨p3, _, rfl, SqT.of h3, rfl, _, _, rfl, _, _, rfl, rfl, ?_⟩
        refine ⟨_, rfl, _, rfl, _, rfl, _, rfl, (by show 4 ≤ sizeLine; decide), fun p4 hp4 => ⟨_, rfl, (by show 2 ≤ sizeLine; decide), fun p5 hp5 => ?_⟩⟩
        have s45 : Same H3 (upd (upd H3 p4 (.tup [.str l, .str r, v2, v3])) p5 (.tup [.ref p4, .int ((i + 1 + (3 * x.knots + 1) + 1 + (3 * y.knots + 1) : Nat) : Int)])) := (same_new hp4).trans (same_new hp5)
        refine q p5 (.ref p4) _ ?_ (Tr.mkNode (same_new hp5 _ _ upd_same) (Dp.same (s3.trans s45) dv2) (Dp.same s45 dv3)) ((s02.trans s3).trans s45)
        rw [upd_same]
        have en : i + (3 * (x.knots + y.knots + 1) + 1) = i + 1 + (3 * x.knots + 1) + 1 + (3 * y.knots + 1) := by omega
        show _ = some (HO.tup [V.ref p4, V.int ((i + (3 * (x.knots + y.knots + 1) + 1) : Nat) : Int)])
        rw [en]
theorem scRead : FnScope ["text", "lines", "found", "stop"] ["text"] (defScope pRead) := ⟨rfl, rfl, rfl, by decide +kernel, rfl, by decide +kernel, by decide +kernel⟩
theorem ok_read {f fT : Addr} {fd fdT : FuncData} (S : Std mg) (F : Fun K "read_tree" "read_tree" pRead f fd) (TA : Df K mg "_tree_at" pTreeAt fT fdT ["lines", "at", "ahead"]) (GT : FnOk P w K mg base CX0 24 fT fdT ["lines", "at", "ahead"] (spTreeAt K 21)) : FnOk P w K mg base CX0 25 f fd ["text"] (spRead K) := by
  refine F.ok scRead (fun vs H Q E h => ?_) (fun cdv A outer s H vs Q E hr h => ?_)
  · obtain ⟨_, rfl, _⟩ := h
    rfl
  · obtain ⟨t, rfl, gt, q⟩ := h
    refine ⟨_, pss_cons (ps_set (i := 1) scRead.nd rfl (Or.inl rfl) (pe_split (pv 0) pe_str))
      (pss_cons (ps_asg (pe_call GT hr rfl TA.g TA.F.kp TA.b .nil pass0 (pa_cons (pv 1) (pa_cons pe_int (pa_cons pe_str pa_nil)))) (pg_tup (by rfl) (pgs_cons (pg_name (i := 2) scRead.nd rfl (.inl rfl)) (pgs_cons (pg_name (i := 3) scRead.nd rfl (.inl rfl)) pgs_nil))))
      (pss_cons (ps_if (pt_cmpR op_ne (pv 3) (pe_callB call_len_seq (by rfl) S.len PySem.boot_len (pa_cons (pv 1) pa_nil)) (nomark _)) (pss_one ps_never) pss_nil)
      (pss_one (ps_ret (pv 2))))), ?_⟩
    have dk := t.depth_knots
    have gk := gt.knots
    have gd := gt.depth
    have ll := Tr.lines_len t
    have e0 : (Str.ofString "").length = 0 := by decide +kernel
    refine ⟨_, rfl, ⟨_, rfl⟩, _, _, rfl, rfl, by decide +kernel, ?_, fun p hp => ?_⟩
    · have lb : ∀ s, s ∈ t.lines → s.length ≤ 1000 := fun s hs => by
        have := Tr.line_len t gt.ok s hs
        omega
      have hj := join_len (S := Str.ofString "\n") lb
      have e1 : (Str.ofString "\n").length = 1 := by decide +kernel
      have sz : (16777216 : Nat) ≤ sizeLine := by decide
      have m1 : t.lines.length * (1000 + 1) ≤ 61 * (1000 + 1) := Nat.mul_le_mul_right _ (by omega)
      rw [e1] at hj
      have hj' : (text t).length ≤ t.lines.length * (1000 + 1) := hj
      omega
    rw [split_text gt.ok]
    have s1 : Same H (upd H p (.lst (t.lines.map V.str))) := same_new hp
    have h1 : (upd H p (.lst (t.lines.map V.str))) p = some (.lst (t.lines.map V.str)) := upd_same
    generalize (upd H p (.lst (t.lines.map V.str))) = H1 at s1 h1 ⊢
    refine ⟨_, rfl, p, t.lines, 0, Str.ofString "", t, [], rfl, SqL.of h1, ?_, by omega, gt.ok, by omega, by omega, by rw [e0]; omega, fun p2 v2 H2 h2 dv2 s2 => ?_⟩
    · rw [Tr.linesA_nil, List.append_nil]
      rfl
    refine ⟨p2, _, rfl, SqT.of h2, rfl, _, _, rfl, _, _, rfl, rfl, ?_⟩
    refine ⟨_, rfl, _, rfl, p, _, rfl, .inl (s2.seq (SqL.of h1)), rfl, _, rfl, ?_⟩
    rw [List.length_map, decide_eq_true (show V.int ((0 + (3 * t.knots + 1) : Nat) : Int) = V.int (t.lines.length : Nat) by rw [ll, Nat.zero_add])]
    refine iteF ⟨_, rfl, ?_⟩
    exact q _ _ dv2 (s1.trans s2)
end
end LK

namespace LK
open PySem PySem.Spec PyProof.Rows L2
theorem all_mk {l : PySem.W.OpenLaw} {w : World} {K : PySem.W.Frag} {h : Heap} {mg : Str → Option Value} {fa : Addr} (X : K.In h) (G : h.Ns mainGlobals mg) (hfa : mg "law" = some (.ref fa))
    {f0 : Addr} {od0 an0 : Option Addr} {sl0 : Array (Option Value)} {oc0 kV0 dc0 pm0 cd0 ct0 : Value} {f1 : Addr} {od1 an1 : Option Addr} {sl1 : Array (Option Value)} {oc1 kV1 dc1 pm1 cd1 ct1 : Value} {f2 : Addr} {od2 an2 : Option Addr} {sl2 : Array (Option Value)} {oc2 kV2 dc2 pm2 cd2 ct2 : Value} {f3 : Addr} {od3 an3 : Option Addr} {sl3 : Array (Option Value)} {oc3 kV3 dc3 pm3 cd3 ct3 : Value} {f4 : Addr} {od4 an4 : Option Addr} {sl4 : Array (Option Value)} {oc4 kV4 dc4 pm4 cd4 ct4 : Value} {f5 : Addr} {od5 an5 : Option Addr} {sl5 : Array (Option Value)} {oc5 kV5 dc5 pm5 cd5 ct5 : Value} {f6 : Addr} {od6 an6 : Option Addr} {sl6 : Array (Option Value)} {oc6 kV6 dc6 pm6 cd6 ct6 : Value} {f7 : Addr} {od7 an7 : Option Addr} {sl7 : Array (Option Value)} {oc7 kV7 dc7 pm7 cd7 ct7 : Value} {f8 : Addr} {od8 an8 : Option Addr} {sl8 : Array (Option Value)} {oc8 kV8 dc8 pm8 cd8 ct8 : Value} {f9 : Addr} {od9 an9 : Option Addr} {sl9 : Array (Option Value)} {oc9 kV9 dc9 pm9 cd9 ct9 : Value} {f10 : Addr} {od10 an10 : Option Addr} {sl10 : Array (Option Value)} {oc10 kV10 dc10 pm10 cd10 ct10 : Value} {f11 : Addr} {od11 an11 : Option Addr} {sl11 : Array (Option Value)} {oc11 kV11 dc11 pm11 cd11 ct11 : Value} {f12 : Addr} {od12 an12 : Option Addr} {sl12 : Array (Option Value)} {oc12 kV12 dc12 pm12 cd12 ct12 : Value} {f13 : Addr} {od13 an13 : Option Addr} {sl13 : Array (Option Value)} {oc13 kV13 dc13 pm13 cd13 ct13 : Value} {f14 : Addr} {od14 an14 : Option Addr} {sl14 : Array (Option Value)} {oc14 kV14 dc14 pm14 cd14 ct14 : Value} {f15 : Addr} {od15 an15 : Option Addr} {sl15 : Array (Option Value)} {oc15 kV15 dc15 pm15 cd15 ct15 : Value}
    (b_len : PySem.W.nsIn K mainGlobals "len" = some none)
    (b_abs : PySem.W.nsIn K mainGlobals "abs" = some none)
    (b_int : PySem.W.nsIn K mainGlobals "int" = some none)
    (b_range : PySem.W.nsIn K mainGlobals "range" = some none)
    (b_isinstance : PySem.W.nsIn K mainGlobals "isinstance" = some none)
    (b_tuple : PySem.W.nsIn K mainGlobals "tuple" = some none)
    (b_list : PySem.W.nsIn K mainGlobals "list" = some none)
    (b_all : PySem.W.nsIn K mainGlobals "all" = some none)
    (b_zip : PySem.W.nsIn K mainGlobals "zip" = some none)
    (b_bool : PySem.W.nsIn K mainGlobals "bool" = some none)
    (b_str : PySem.W.nsIn K mainGlobals "str" = some none)
    (a0 : PySem.W.nsIn K mainGlobals "_law_feed" = some (some (.ref f0))) (l0 : K.lookup f0 = some ⟨oc0, od0, .func (PySem.W.fnOf "_law_feed" "_law_feed" (defArgs sFeed) (defBody sFeed) (defScope sFeed) .none kV0 dc0 pm0 an0 cd0 ct0), sl0⟩) (c0 : PySem.W.codeIn K cd0 "_law_feed" = true) (k0 : PySem.W.keepIn K (.ref f0) = true)
    (a1 : PySem.W.nsIn K mainGlobals "_law_draw" = some (some (.ref f1))) (l1 : K.lookup f1 = some ⟨oc1, od1, .func (PySem.W.fnOf "_law_draw" "_law_draw" (defArgs sDraw) (defBody sDraw) (defScope sDraw) .none kV1 dc1 pm1 an1 cd1 ct1), sl1⟩) (c1 : PySem.W.codeIn K cd1 "_law_draw" = true) (k1 : PySem.W.keepIn K (.ref f1) = true)
    (a2 : PySem.W.nsIn K mainGlobals "_law_pick" = some (some (.ref f2))) (l2 : K.lookup f2 = some ⟨oc2, od2, .func (PySem.W.fnOf "_law_pick" "_law_pick" (defArgs sPick) (defBody sPick) (defScope sPick) .none kV2 dc2 pm2 an2 cd2 ct2), sl2⟩) (c2 : PySem.W.codeIn K cd2 "_law_pick" = true) (k2 : PySem.W.keepIn K (.ref f2) = true)
    (a3 : PySem.W.nsIn K mainGlobals "_law_same" = some (some (.ref f3))) (l3 : K.lookup f3 = some ⟨oc3, od3, .func (PySem.W.fnOf "_law_same" "_law_same" (defArgs sSame) (defBody sSame) (defScope sSame) .none kV3 dc3 pm3 an3 cd3 ct3), sl3⟩) (c3 : PySem.W.codeIn K cd3 "_law_same" = true) (k3 : PySem.W.keepIn K (.ref f3) = true)
    (a4 : PySem.W.nsIn K mainGlobals "_law_word" = some (some (.ref f4))) (l4 : K.lookup f4 = some ⟨oc4, od4, .func (PySem.W.fnOf "_law_word" "_law_word" (defArgs sWord) (defBody sWord) (defScope sWord) .none kV4 dc4 pm4 an4 cd4 ct4), sl4⟩) (c4 : PySem.W.codeIn K cd4 "_law_word" = true) (k4 : PySem.W.keepIn K (.ref f4) = true)
    (a5 : PySem.W.nsIn K mainGlobals "_law_words" = some (some (.ref f5))) (l5 : K.lookup f5 = some ⟨oc5, od5, .func (PySem.W.fnOf "_law_words" "_law_words" (defArgs sWords) (defBody sWords) (defScope sWords) .none kV5 dc5 pm5 an5 cd5 ct5), sl5⟩) (c5 : PySem.W.codeIn K cd5 "_law_words" = true) (k5 : PySem.W.keepIn K (.ref f5) = true)
    (a6 : PySem.W.nsIn K mainGlobals "_law_term" = some (some (.ref f6))) (l6 : K.lookup f6 = some ⟨oc6, od6, .func (PySem.W.fnOf "_law_term" "_law_term" (defArgs sTerm) (defBody sTerm) (defScope sTerm) .none kV6 dc6 pm6 an6 cd6 ct6), sl6⟩) (c6 : PySem.W.codeIn K cd6 "_law_term" = true) (k6 : PySem.W.keepIn K (.ref f6) = true)
    (a7 : PySem.W.nsIn K mainGlobals "_law_tree" = some (some (.ref f7))) (l7 : K.lookup f7 = some ⟨oc7, od7, .func (PySem.W.fnOf "_law_tree" "_law_tree" (defArgs sTree) (defBody sTree) (defScope sTree) .none kV7 dc7 pm7 an7 cd7 ct7), sl7⟩) (c7 : PySem.W.codeIn K cd7 "_law_tree" = true) (k7 : PySem.W.keepIn K (.ref f7) = true)
    (a8 : PySem.W.nsIn K mainGlobals "_law_lines" = some (some (.ref f8))) (l8 : K.lookup f8 = some ⟨oc8, od8, .func (PySem.W.fnOf "_law_lines" "_law_lines" (defArgs sLines) (defBody sLines) (defScope sLines) .none kV8 dc8 pm8 an8 cd8 ct8), sl8⟩) (c8 : PySem.W.codeIn K cd8 "_law_lines" = true) (k8 : PySem.W.keepIn K (.ref f8) = true)
    (a9 : PySem.W.nsIn K mainGlobals "law" = some (some (.ref f9))) (l9 : K.lookup f9 = some ⟨oc9, od9, .func (PySem.W.fnOf "law" "law" (defArgs sLaw) (defBody sLaw) (defScope sLaw) .none kV9 dc9 pm9 an9 cd9 ct9), sl9⟩) (c9 : PySem.W.codeIn K cd9 "law" = true) (k9 : PySem.W.keepIn K (.ref f9) = true)
    (a10 : PySem.W.nsIn K mainGlobals "show_tree" = some (some (.ref f10))) (l10 : K.lookup f10 = some ⟨oc10, od10, .func (PySem.W.fnOf "show_tree" "show_tree" (defArgs pShow) (defBody pShow) (defScope pShow) .none kV10 dc10 pm10 an10 cd10 ct10), sl10⟩) (c10 : PySem.W.codeIn K cd10 "show_tree" = true) (k10 : PySem.W.keepIn K (.ref f10) = true)
    (a11 : PySem.W.nsIn K mainGlobals "read_tree" = some (some (.ref f11))) (l11 : K.lookup f11 = some ⟨oc11, od11, .func (PySem.W.fnOf "read_tree" "read_tree" (defArgs pRead) (defBody pRead) (defScope pRead) .none kV11 dc11 pm11 an11 cd11 ct11), sl11⟩) (c11 : PySem.W.codeIn K cd11 "read_tree" = true) (k11 : PySem.W.keepIn K (.ref f11) = true)
    (a12 : PySem.W.nsIn K mainGlobals "_lines_of" = some (some (.ref f12))) (l12 : K.lookup f12 = some ⟨oc12, od12, .func (PySem.W.fnOf "_lines_of" "_lines_of" (defArgs pLinesOf) (defBody pLinesOf) (defScope pLinesOf) .none kV12 dc12 pm12 an12 cd12 ct12), sl12⟩) (c12 : PySem.W.codeIn K cd12 "_lines_of" = true) (k12 : PySem.W.keepIn K (.ref f12) = true)
    (a13 : PySem.W.nsIn K mainGlobals "_tree_at" = some (some (.ref f13))) (l13 : K.lookup f13 = some ⟨oc13, od13, .func (PySem.W.fnOf "_tree_at" "_tree_at" (defArgs pTreeAt) (defBody pTreeAt) (defScope pTreeAt) .none kV13 dc13 pm13 an13 cd13 ct13), sl13⟩) (c13 : PySem.W.codeIn K cd13 "_tree_at" = true) (k13 : PySem.W.keepIn K (.ref f13) = true)
    (a14 : PySem.W.nsIn K mainGlobals "_sides_in" = some (some (.ref f14))) (l14 : K.lookup f14 = some ⟨oc14, od14, .func (PySem.W.fnOf "_sides_in" "_sides_in" (defArgs pSides) (defBody pSides) (defScope pSides) .none kV14 dc14 pm14 an14 cd14 ct14), sl14⟩) (c14 : PySem.W.codeIn K cd14 "_sides_in" = true) (k14 : PySem.W.keepIn K (.ref f14) = true)
    (a15 : PySem.W.nsIn K mainGlobals "_may_be_term" = some (some (.ref f15))) (l15 : K.lookup f15 = some ⟨oc15, od15, .func (PySem.W.fnOf "_may_be_term" "_may_be_term" (defArgs pMay) (defBody pMay) (defScope pMay) .none kV15 dc15 pm15 an15 cd15 ct15), sl15⟩) (c15 : PySem.W.codeIn K cd15 "_may_be_term" = true) (k15 : PySem.W.keepIn K (.ref f15) = true)
    {tL tI : Tok} (kLEAF : PySem.W.nsIn K mainGlobals "LEAF" = some (some (.str "so" tL))) (kINDENT : PySem.W.nsIn K mainGlobals "INDENT" = some (some (.str "  " tI)))
    : ∃ fd : FuncData, (∀ (s : Shared) (v : Value), BindsTo s fd ⟨[v], []⟩ [("_law_script", v)]) ∧ ∀ base : Heap, K.In base → base.Ns mainGlobals mg → FnOk l.prog w K mg base CX0 61 fa fd ["_law_script"] (spLaw K) := by
  have e := hfa.symm.trans (PySem.W.mg_of X G a9)
  cases e
  have S : Std mg := ⟨PySem.W.mg_none_of X G b_len, PySem.W.mg_none_of X G b_abs, PySem.W.mg_none_of X G b_int, PySem.W.mg_none_of X G b_range, PySem.W.mg_none_of X G b_isinstance, PySem.W.mg_none_of X G b_tuple, PySem.W.mg_none_of X G b_list, PySem.W.mg_none_of X G b_all, PySem.W.mg_none_of X G b_zip, PySem.W.mg_none_of X G b_bool, PySem.W.mg_none_of X G b_str⟩
  have F0 := fun_mk (st := sFeed) l0 c0 k0
  have D0 : Df K mg "_law_feed" sFeed f0 _ ["_law_script", "_law_k"] := ⟨F0, F0.binds (ps := ["_law_script", "_law_k"]) fun _ _ _ _ _ _ us hl => match us, hl with | [_, _], _ => rfl, PySem.W.mg_of X G a0⟩
  have F1 := fun_mk (st := sDraw) l1 c1 k1
  have D1 : Df K mg "_law_draw" sDraw f1 _ ["_law_feed_here", "_law_many"] := ⟨F1, F1.binds (ps := ["_law_feed_here", "_law_many"]) fun _ _ _ _ _ _ us hl => match us, hl with | [_, _], _ => rfl, PySem.W.mg_of X G a1⟩
  have F2 := fun_mk (st := sPick) l2 c2 k2
  have D2 : Df K mg "_law_pick" sPick f2 _ ["_law_feed_here", "_law_items"] := ⟨F2, F2.binds (ps := ["_law_feed_here", "_law_items"]) fun _ _ _ _ _ _ us hl => match us, hl with | [_, _], _ => rfl, PySem.W.mg_of X G a2⟩
  have F3 := fun_mk (st := sSame) l3 c3 k3
  have D3 : Df K mg "_law_same" sSame f3 _ ["_law_found", "_law_due"] := ⟨F3, F3.binds (ps := ["_law_found", "_law_due"]) fun _ _ _ _ _ _ us hl => match us, hl with | [_, _], _ => rfl, PySem.W.mg_of X G a3⟩
  have F4 := fun_mk (st := sWord) l4 c4 k4
  have D4 : Df K mg "_law_word" sWord f4 _ ["_law_feed_here"] := ⟨F4, F4.binds (ps := ["_law_feed_here"]) fun _ _ _ _ _ _ us hl => match us, hl with | [_], _ => rfl, PySem.W.mg_of X G a4⟩
  have F5 := fun_mk (st := sWords) l5 c5 k5
  have D5 : Df K mg "_law_words" sWords f5 _ ["_law_feed_here", "_law_many"] := ⟨F5, F5.binds (ps := ["_law_feed_here", "_law_many"]) fun _ _ _ _ _ _ us hl => match us, hl with | [_, _], _ => rfl, PySem.W.mg_of X G a5⟩
  have F6 := fun_mk (st := sTerm) l6 c6 k6
  have D6 : Df K mg "_law_term" sTerm f6 _ ["_law_feed_here", "_law_names", "_law_deep"] := ⟨F6, F6.binds (ps := ["_law_feed_here", "_law_names", "_law_deep"]) fun _ _ _ _ _ _ us hl => match us, hl with | [_, _, _], _ => rfl, PySem.W.mg_of X G a6⟩
  have F7 := fun_mk (st := sTree) l7 c7 k7
  have D7 : Df K mg "_law_tree" sTree f7 _ ["_law_feed_here", "_law_names", "_law_room", "_law_deep"] := ⟨F7, F7.binds (ps := ["_law_feed_here", "_law_names", "_law_room", "_law_deep"]) fun _ _ _ _ _ _ us hl => match us, hl with | [_, _, _, _], _ => rfl, PySem.W.mg_of X G a7⟩
  have F8 := fun_mk (st := sLines) l8 c8 k8
  have D8 : Df K mg "_law_lines" sLines f8 _ ["_law_told"] := ⟨F8, F8.binds (ps := ["_law_told"]) fun _ _ _ _ _ _ us hl => match us, hl with | [_], _ => rfl, PySem.W.mg_of X G a8⟩
  have F9 := fun_mk (st := sLaw) l9 c9 k9
  have D9 : Df K mg "law" sLaw fa _ ["_law_script"] := ⟨F9, F9.binds (ps := ["_law_script"]) fun _ _ _ _ _ _ us hl => match us, hl with | [_], _ => rfl, PySem.W.mg_of X G a9⟩
  have F10 := fun_mk (st := pShow) l10 c10 k10
  have D10 : Df K mg "show_tree" pShow f10 _ ["told"] := ⟨F10, F10.binds (ps := ["told"]) fun _ _ _ _ _ _ us hl => match us, hl with | [_], _ => rfl, PySem.W.mg_of X G a10⟩
  have F11 := fun_mk (st := pRead) l11 c11 k11
  have D11 : Df K mg "read_tree" pRead f11 _ ["text"] := ⟨F11, F11.binds (ps := ["text"]) fun _ _ _ _ _ _ us hl => match us, hl with | [_], _ => rfl, PySem.W.mg_of X G a11⟩
  have F12 := fun_mk (st := pLinesOf) l12 c12 k12
  have D12 : Df K mg "_lines_of" pLinesOf f12 _ ["told", "ahead"] := ⟨F12, F12.binds (ps := ["told", "ahead"]) fun _ _ _ _ _ _ us hl => match us, hl with | [_, _], _ => rfl, PySem.W.mg_of X G a12⟩
  have F13 := fun_mk (st := pTreeAt) l13 c13 k13
  have D13 : Df K mg "_tree_at" pTreeAt f13 _ ["lines", "at", "ahead"] := ⟨F13, F13.binds (ps := ["lines", "at", "ahead"]) fun _ _ _ _ _ _ us hl => match us, hl with | [_, _, _], _ => rfl, PySem.W.mg_of X G a13⟩
  have F14 := fun_mk (st := pSides) l14 c14 k14
  have D14 : Df K mg "_sides_in" pSides f14 _ ["lines", "at", "ahead"] := ⟨F14, F14.binds (ps := ["lines", "at", "ahead"]) fun _ _ _ _ _ _ us hl => match us, hl with | [_, _, _], _ => rfl, PySem.W.mg_of X G a14⟩
  have F15 := fun_mk (st := pMay) l15 c15 k15
  have D15 : Df K mg "_may_be_term" pMay f15 _ ["text"] := ⟨F15, F15.binds (ps := ["text"]) fun _ _ _ _ _ _ us hl => match us, hl with | [_], _ => rfl, PySem.W.mg_of X G a15⟩
  have C : Cs mg tL tI := ⟨PySem.W.mg_of X G kLEAF, PySem.W.mg_of X G kINDENT⟩
  exact ⟨PySem.W.fnOf "law" "law" (defArgs sLaw) (defBody sLaw) (defScope sLaw) .none kV9 dc9 pm9 an9 cd9 ct9, fun s v => .of_eq rfl, fun base _ _ => by
    have GF := ok_feed (P := l.prog) (w := w) (base := base) S F0
    have GW := ok_word (P := l.prog) (w := w) (base := base) S F4 D1 D2
    have GWS := ok_words (P := l.prog) (w := w) (base := base) S F5 D4 GW
    have GTE := ok_term (P := l.prog) (w := w) (base := base) S D6 D1 D2 3
    have GTR := ok_tree (P := l.prog) (w := w) (base := base) S D7 D1 D6 GTE 7
    have GL := ok_lines (P := l.prog) (w := w) (base := base) S D8 21
    have GS := ok_same (P := l.prog) (w := w) (base := base) S D3 22
    have GSH := ok_show (P := l.prog) (w := w) (base := base) C F10 D12
    have GSI := ok_sides (P := l.prog) (w := w) (base := base) S D14 D15
    have GTA := ok_tree_at (P := l.prog) (w := w) (base := base) S C D13 D14 GSI 21
    have GRD := ok_read (P := l.prog) (w := w) (base := base) S F11 D13 GTA
    exact ok_law S F9 D0 GF D1 D2 D5 GWS D7 GTR D8 GL D3 GS D10 (GSH.mono (by decide)) D11 (GRD.mono (by decide))⟩
theorem walk {l : PySem.W.OpenLaw} {q : Program} {loose : List Str} {XP : (Str → Option Value) → Heap → Prop} {YP : World → Heap → Prop} {d : DefRec} {K : Params → PySem.W.Frag} (hn : l.most = some 63) (hdf : d.params.defaults = [])
    (hY : ∀ (w : World) (h : Heap), YP w h → (K w.params).In h)
    (F : ∀ (w : World) (mg : Str → Option Value) (fa : Addr) (h : Heap), (K w.params).In h → h.Ns mainGlobals mg → mg d.name = some (.ref fa) →
      ∃ fd : FuncData, (∀ (s : Shared) (u : Value), BindsTo s fd ⟨[u], []⟩ [("_law_script", u)]) ∧ ∀ base : Heap, (K w.params).In base → base.Ns mainGlobals mg → FnOk l.prog w (K w.params) mg base CX0 61 fa fd ["_law_script"] (spLaw (K w.params))) :
    PySem.W.WalkO q loose XP YP l.row.toRowW d [] (fun f vs => PySem.call f vs) :=
  L2.walk_of (n := 63) (k := 61) (x := "_law_script") (CX := fun _ => CX0) (sp := fun w => spLaw (K w.params)) hn (by decide) hdf ⟨rfl, by decide, by decide⟩ hY F (fun _ _ a ns hl _ hS => ⟨a, ns, rfl, hS, hl, fun _ => rfl⟩) fun _ _ _ _ _ z => z
end LK

open PySem PySem.W PyProof.Rows
set_option maxHeartbeats 0
open_top head for PySem.Challenge.rw_knownways_k11_trees_as_texts
set_option maxRecDepth 100000 in
set_option maxHeartbeats 0 in
theorem PySem.Challenge.cw_knownways_k11_trees_as_texts_holds : PySem.Challenge.rw_knownways_k11_trees_as_texts.Holds := by
  refine head ?_
  k_fill
  refine LK.walk (l := PySem.Challenge.rw_knownways_k11_trees_as_texts) rfl rfl (fun w h Y => PySem.W.kIn_of Y) ?F
  case F =>
    intro w mg fa h KX G hmg
    refine' LK.all_mk KX G hmg ?b_len ?b_abs ?b_int ?b_range ?b_isinstance ?b_tuple ?b_list ?b_all ?b_zip ?b_bool ?b_str ?a0 ?l0 ?c0 ?k0 ?a1 ?l1 ?c1 ?k1 ?a2 ?l2 ?c2 ?k2 ?a3 ?l3 ?c3 ?k3 ?a4 ?l4 ?c4 ?k4 ?a5 ?l5 ?c5 ?k5 ?a6 ?l6 ?c6 ?k6 ?a7 ?l7 ?c7 ?k7 ?a8 ?l8 ?c8 ?k8 ?a9 ?l9 ?c9 ?k9 ?a10 ?l10 ?c10 ?k10 ?a11 ?l11 ?c11 ?k11 ?a12 ?l12 ?c12 ?k12 ?a13 ?l13 ?c13 ?k13 ?a14 ?l14 ?c14 ?k14 ?a15 ?l15 ?c15 ?k15 ?kLEAF ?kINDENT
    (case b_len => k_is)
    (case b_abs => k_is)
    (case b_int => k_is)
    (case b_range => k_is)
    (case b_isinstance => k_is)
    (case b_tuple => k_is)
    (case b_list => k_is)
    (case b_all => k_is)
    (case b_zip => k_is)
    (case b_bool => k_is)
    (case b_str => k_is)
    (case a0 => k_is)
    (case l0 => k_is)
    (case c0 => k_is)
    (case k0 => k_is)
    (case a1 => k_is)
    (case l1 => k_is)
    (case c1 => k_is)
    (case k1 => k_is)
    (case a2 => k_is)
    (case l2 => k_is)
    (case c2 => k_is)
    (case k2 => k_is)
    (case a3 => k_is)
    (case l3 => k_is)
    (case c3 => k_is)
    (case k3 => k_is)
    (case a4 => k_is)
    (case l4 => k_is)
    (case c4 => k_is)
    (case k4 => k_is)
    (case a5 => k_is)
    (case l5 => k_is)
    (case c5 => k_is)
    (case k5 => k_is)
    (case a6 => k_is)
    (case l6 => k_is)
    (case c6 => k_is)
    (case k6 => k_is)
    (case a7 => k_is)
    (case l7 => k_is)
    (case c7 => k_is)
    (case k7 => k_is)
    (case a8 => k_is)
    (case l8 => k_is)
    (case c8 => k_is)
    (case k8 => k_is)
    (case a9 => k_is)
    (case l9 => k_is)
    (case c9 => k_is)
    (case k9 => k_is)
    (case a10 => k_is)
    (case l10 => k_is)
    (case c10 => k_is)
    (case k10 => k_is)
    (case a11 => k_is)
    (case l11 => k_is)
    (case c11 => k_is)
    (case k11 => k_is)
    (case a12 => k_is)
    (case l12 => k_is)
    (case c12 => k_is)
    (case k12 => k_is)
    (case a13 => k_is)
    (case l13 => k_is)
    (case c13 => k_is)
    (case k13 => k_is)
    (case a14 => k_is)
    (case l14 => k_is)
    (case c14 => k_is)
    (case k14 => k_is)
    (case a15 => k_is)
    (case l15 => k_is)
    (case c15 => k_is)
    (case k15 => k_is)
    (case kLEAF => k_is)
    (case kINDENT => k_is)